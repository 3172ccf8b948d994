import PyProof.Rows.All
import Wide.All
import OpenK.AllK
import Wide.FinOn
import HandS.ForMost
import HandS.Wide
import HandS.TryOnly
import HandS.Codes
import PyProof.ReprRoads
import HandS.IsInst
import HandS.TupAny
import HandS.RaiseMore
import PyProof.StrOps2
import PyProof.StrLawsRepr
import HandS.Walk
import PyProof.Rows.ReprOcc
import PySem.Challenge.RW_ledclocks_k01_numbers_words_fractions_by
set_option Elab.async false
set_option linter.all false
set_option maxRecDepth 100000
set_option maxHeartbeats 4000000
set_option exponentiation.threshold 3000
namespace Fr
/-- a parted by b, in the one way -/
def mk (a b : Int) : Int × Int :=
  if b < 0 then ((-a) / ((Int.gcd a b : Nat) : Int), (-b) / ((Int.gcd a b : Nat) : Int)) else (a / ((Int.gcd a b : Nat) : Int), b / ((Int.gcd a b : Nat) : Int))
theorem gcd_pos {a b : Int} (h : b ≠ 0) : 0 < Int.gcd a b := Int.gcd_pos_of_ne_zero_right a h
theorem core {a b : Int} (h : 0 < b) : ∃ x y : Int, a / ((Int.gcd a b : Nat) : Int) = x ∧ b / ((Int.gcd a b : Nat) : Int) = y ∧ a = x * ((Int.gcd a b : Nat) : Int) ∧ b = y * ((Int.gcd a b : Nat) : Int) ∧ 0 < y ∧ Int.gcd x y = 1 := by
  have g0 : 0 < Int.gcd a b := gcd_pos (by omega)
  have gi : (0 : Int) < ((Int.gcd a b : Nat) : Int) := by omega
  have ea : a / ((Int.gcd a b : Nat) : Int) * ((Int.gcd a b : Nat) : Int) = a := Int.ediv_mul_cancel (Int.gcd_dvd_left ..)
  have eb : b / ((Int.gcd a b : Nat) : Int) * ((Int.gcd a b : Nat) : Int) = b := Int.ediv_mul_cancel (Int.gcd_dvd_right ..)
  refine ⟨_, _, rfl, rfl, ea.symm, eb.symm, ?_, ?_⟩
  · have : 0 < b / ((Int.gcd a b : Nat) : Int) * ((Int.gcd a b : Nat) : Int) := by rw [eb]; exact h
    exact Int.pos_of_mul_pos_left this gi
  · rw [Int.gcd_ediv_gcd_ediv_gcd g0]
theorem mk_all {a b : Int} (h : b ≠ 0) : ∃ x y : Int, mk a b = (x, y) ∧ 0 < y ∧ Int.gcd x y = 1 ∧ x * b = a * y ∧ x.natAbs ≤ a.natAbs ∧ y.natAbs ≤ b.natAbs := by
  have key : ∀ {a b : Int}, 0 < b → ∃ x y : Int, (a / ((Int.gcd a b : Nat) : Int), b / ((Int.gcd a b : Nat) : Int)) = (x, y) ∧ 0 < y ∧ Int.gcd x y = 1 ∧ x * b = a * y ∧ x.natAbs ≤ a.natAbs ∧ y.natAbs ≤ b.natAbs := by
    intro a b h
    obtain ⟨x, y, ex, ey, ea, eb, hy, hg⟩ := core (a := a) h
    have g0 : 0 < Int.gcd a b := gcd_pos (by omega)
    refine ⟨x, y, by rw [ex, ey], hy, hg, ?_, ?_, ?_⟩
    · generalize ((Int.gcd a b : Nat) : Int) = g at *
      subst ea eb
      rw [Int.mul_comm y g, ← Int.mul_assoc]
    · have := congrArg Int.natAbs ea
      rw [Int.natAbs_mul, Int.natAbs_natCast] at this
      rw [this]
      exact Nat.le_mul_of_pos_right _ g0
    · have := congrArg Int.natAbs eb
      rw [Int.natAbs_mul, Int.natAbs_natCast] at this
      rw [this]
      exact Nat.le_mul_of_pos_right _ g0
  unfold mk
  by_cases hb : b < 0
  · rw [if_pos hb]
    obtain ⟨x, y, e, hy, hg, hc, h1, h2⟩ := key (a := -a) (b := -b) (by omega)
    rw [Int.neg_gcd, Int.gcd_neg] at e
    refine ⟨x, y, e, hy, hg, ?_, by simpa using h1, by simpa using h2⟩
    rw [Int.mul_neg, Int.neg_mul] at hc
    exact Int.neg_inj.mp hc
  · rw [if_neg hb]
    exact key (by omega)
theorem uniq {x y u v : Int} (hy : 0 < y) (hv : 0 < v) (g : Int.gcd x y = 1) (g' : Int.gcd u v = 1) (e : x * v = u * y) : (x, y) = (u, v) := by
  have en : x.natAbs * v.natAbs = u.natAbs * y.natAbs := by
    have := congrArg Int.natAbs e
    rwa [Int.natAbs_mul, Int.natAbs_mul] at this
  have c1 : Nat.Coprime y.natAbs x.natAbs := by
    have : Nat.gcd x.natAbs y.natAbs = 1 := g
    exact Nat.Coprime.symm this
  have c2 : Nat.Coprime v.natAbs u.natAbs := by
    have : Nat.gcd u.natAbs v.natAbs = 1 := g'
    exact Nat.Coprime.symm this
  have d1 : y.natAbs ∣ v.natAbs := c1.dvd_of_dvd_mul_left (by rw [en]; exact Nat.dvd_mul_left _ _)
  have d2 : v.natAbs ∣ y.natAbs := c2.dvd_of_dvd_mul_left (by rw [← en]; exact Nat.dvd_mul_left _ _)
  have eyv : y.natAbs = v.natAbs := Nat.dvd_antisymm d1 d2
  have eq : y = v := by omega
  subst eq
  have ex : x = u := Int.eq_of_mul_eq_mul_right (by omega) e
  rw [ex]
theorem mk_eq {a b c d : Int} (hb : b ≠ 0) (hd : d ≠ 0) (e : a * d = c * b) : mk a b = mk c d := by
  obtain ⟨x, y, e1, hy, hg, hc, _, _⟩ := mk_all (a := a) hb
  obtain ⟨u, v, e2, hv, hg', hc', _, _⟩ := mk_all (a := c) hd
  rw [e1, e2]
  refine uniq hy hv hg hg' ?_
  have h1 : (x * v) * (b * d) = (u * y) * (b * d) := by
    calc (x * v) * (b * d) = (x * b) * (v * d) := by ac_rfl
      _ = (a * y) * (v * d) := by rw [hc]
      _ = (a * d) * (y * v) := by ac_rfl
      _ = (c * b) * (y * v) := by rw [e]
      _ = (c * v) * (y * b) := by ac_rfl
      _ = (u * d) * (y * b) := by rw [hc']
      _ = (u * y) * (b * d) := by ac_rfl
  exact Int.eq_of_mul_eq_mul_right (Int.mul_ne_zero hb hd) h1
theorem mk_self {a b : Int} (hb : 0 < b) (g : Int.gcd a b = 1) : mk a b = (a, b) := by
  unfold mk
  rw [if_neg (by omega), g]
  simp
/-- a FRACTION of at most n bits -/
structure Ok (n : Nat) (p : Int × Int) : Prop where
  pos : 0 < p.2
  cop : Int.gcd p.1 p.2 = 1
  b1 : p.1.natAbs < 2 ^ n
  b2 : p.2.natAbs < 2 ^ n
theorem mk_ok {n : Nat} {a b : Int} (h : b ≠ 0) (ha : a.natAbs < 2 ^ n) (hb : b.natAbs < 2 ^ n) : Ok n (mk a b) := by
  obtain ⟨x, y, e, hy, hg, _, h1, h2⟩ := mk_all (a := a) h
  rw [e]
  exact ⟨hy, hg, by show x.natAbs < _; omega, by show y.natAbs < _; omega⟩
theorem mk_cross {a b : Int} (h : b ≠ 0) : (mk a b).1 * b = a * (mk a b).2 := by
  obtain ⟨x, y, e, hy, hg, hc, _, _⟩ := mk_all (a := a) h
  rw [e]
  exact hc
theorem mk_pos {a b : Int} (h : b ≠ 0) : 0 < (mk a b).2 := by
  obtain ⟨x, y, e, hy, _⟩ := mk_all (a := a) h
  rw [e]
  exact hy
theorem Ok.mono {n m : Nat} {p : Int × Int} (h : Ok n p) (hnm : n ≤ m) : Ok m p :=
  ⟨h.pos, h.cop, Nat.lt_of_lt_of_le h.b1 (Nat.pow_le_pow_right (by decide) hnm), Nat.lt_of_lt_of_le h.b2 (Nat.pow_le_pow_right (by decide) hnm)⟩
def add (p q : Int × Int) : Int × Int := mk (p.1 * q.2 + q.1 * p.2) (p.2 * q.2)
def sub (p q : Int × Int) : Int × Int := mk (p.1 * q.2 - q.1 * p.2) (p.2 * q.2)
def mul (p q : Int × Int) : Int × Int := mk (p.1 * q.1) (p.2 * q.2)
def div (p q : Int × Int) : Int × Int := mk (p.1 * q.2) (p.2 * q.1)
theorem bmul {n m : Nat} {a b : Int} (ha : a.natAbs < 2 ^ n) (hb : b.natAbs < 2 ^ m) : (a * b).natAbs < 2 ^ (n + m) := by
  rw [Int.natAbs_mul, Nat.pow_add]
  exact Nat.mul_lt_mul'' ha hb
theorem badd {n : Nat} {a b : Int} (ha : a.natAbs < 2 ^ n) (hb : b.natAbs < 2 ^ n) : (a + b).natAbs < 2 ^ (n + 1) := by
  rw [Nat.pow_succ]
  omega
theorem bsub {n : Nat} {a b : Int} (ha : a.natAbs < 2 ^ n) (hb : b.natAbs < 2 ^ n) : (a - b).natAbs < 2 ^ (n + 1) := by
  rw [Nat.pow_succ]
  omega
theorem bmono {n m : Nat} {a : Int} (ha : a.natAbs < 2 ^ n) (h : n ≤ m) : a.natAbs < 2 ^ m := Nat.lt_of_lt_of_le ha (Nat.pow_le_pow_right (by decide) h)
theorem add_ok {n m : Nat} {p q : Int × Int} (hp : Ok n p) (hq : Ok m q) : Ok (n + m + 1) (add p q) :=
  mk_ok (Int.mul_ne_zero (by have := hp.pos; omega) (by have := hq.pos; omega)) (badd (bmul hp.b1 hq.b2) (bmono (bmul hq.b1 hp.b2) (by omega))) (bmono (bmul hp.b2 hq.b2) (by omega))
theorem sub_ok {n m : Nat} {p q : Int × Int} (hp : Ok n p) (hq : Ok m q) : Ok (n + m + 1) (sub p q) :=
  mk_ok (Int.mul_ne_zero (by have := hp.pos; omega) (by have := hq.pos; omega)) (bsub (bmul hp.b1 hq.b2) (bmono (bmul hq.b1 hp.b2) (by omega))) (bmono (bmul hp.b2 hq.b2) (by omega))
theorem mul_ok {n m : Nat} {p q : Int × Int} (hp : Ok n p) (hq : Ok m q) : Ok (n + m) (mul p q) :=
  mk_ok (Int.mul_ne_zero (by have := hp.pos; omega) (by have := hq.pos; omega)) (bmul hp.b1 hq.b1) (bmul hp.b2 hq.b2)
theorem div_ok {n m : Nat} {p q : Int × Int} (hp : Ok n p) (hq : Ok m q) (h0 : q.1 ≠ 0) : Ok (n + m) (div p q) :=
  mk_ok (Int.mul_ne_zero (by have := hp.pos; omega) h0) (bmul hp.b1 hq.b2) (bmul hp.b2 hq.b1)
/-- to show that two sums are the same FRACTION: p stands for (a, b) -/
def Is (p : Int × Int) (a b : Int) : Prop := p = mk a b ∧ b ≠ 0
theorem Ok.is {n : Nat} {p : Int × Int} (h : Ok n p) : Is p p.1 p.2 := ⟨(mk_self h.pos h.cop).symm, by have := h.pos; omega⟩
theorem Is.same {p q : Int × Int} {a b c d : Int} (hp : Is p a b) (hq : Is q c d) (e : a * d = c * b) : p = q := by
  rw [hp.1, hq.1]
  exact mk_eq hp.2 hq.2 e
theorem Is.add {p q : Int × Int} {a b c d : Int} (hp : Is p a b) (hq : Is q c d) : Is (add p q) (a * d + c * b) (b * d) := by
  refine ⟨?_, Int.mul_ne_zero hp.2 hq.2⟩
  unfold Fr.add
  have h1 := mk_cross (a := a) hp.2
  have h2 := mk_cross (a := c) hq.2
  rw [← hp.1] at h1
  rw [← hq.1] at h2
  have p0 : p.2 ≠ 0 := by rw [hp.1]; have := mk_pos (a := a) hp.2; omega
  have q0 : q.2 ≠ 0 := by rw [hq.1]; have := mk_pos (a := c) hq.2; omega
  refine mk_eq (Int.mul_ne_zero p0 q0) (Int.mul_ne_zero hp.2 hq.2) ?_
  rw [Int.add_mul, Int.add_mul]
  have e1 : p.1 * q.2 * (b * d) = a * d * (p.2 * q.2) := by
    calc p.1 * q.2 * (b * d) = (p.1 * b) * (q.2 * d) := by ac_rfl
      _ = (a * p.2) * (q.2 * d) := by rw [h1]
      _ = a * d * (p.2 * q.2) := by ac_rfl
  have e2 : q.1 * p.2 * (b * d) = c * b * (p.2 * q.2) := by
    calc q.1 * p.2 * (b * d) = (q.1 * d) * (p.2 * b) := by ac_rfl
      _ = (c * q.2) * (p.2 * b) := by rw [h2]
      _ = c * b * (p.2 * q.2) := by ac_rfl
  rw [e1, e2]
theorem Is.sub {p q : Int × Int} {a b c d : Int} (hp : Is p a b) (hq : Is q c d) : Is (sub p q) (a * d - c * b) (b * d) := by
  refine ⟨?_, Int.mul_ne_zero hp.2 hq.2⟩
  unfold Fr.sub
  have h1 := mk_cross (a := a) hp.2
  have h2 := mk_cross (a := c) hq.2
  rw [← hp.1] at h1
  rw [← hq.1] at h2
  have p0 : p.2 ≠ 0 := by rw [hp.1]; have := mk_pos (a := a) hp.2; omega
  have q0 : q.2 ≠ 0 := by rw [hq.1]; have := mk_pos (a := c) hq.2; omega
  refine mk_eq (Int.mul_ne_zero p0 q0) (Int.mul_ne_zero hp.2 hq.2) ?_
  rw [Int.sub_mul, Int.sub_mul]
  have e1 : p.1 * q.2 * (b * d) = a * d * (p.2 * q.2) := by
    calc p.1 * q.2 * (b * d) = (p.1 * b) * (q.2 * d) := by ac_rfl
      _ = (a * p.2) * (q.2 * d) := by rw [h1]
      _ = a * d * (p.2 * q.2) := by ac_rfl
  have e2 : q.1 * p.2 * (b * d) = c * b * (p.2 * q.2) := by
    calc q.1 * p.2 * (b * d) = (q.1 * d) * (p.2 * b) := by ac_rfl
      _ = (c * q.2) * (p.2 * b) := by rw [h2]
      _ = c * b * (p.2 * q.2) := by ac_rfl
  rw [e1, e2]
theorem Is.mul {p q : Int × Int} {a b c d : Int} (hp : Is p a b) (hq : Is q c d) : Is (mul p q) (a * c) (b * d) := by
  refine ⟨?_, Int.mul_ne_zero hp.2 hq.2⟩
  unfold Fr.mul
  have h1 := mk_cross (a := a) hp.2
  have h2 := mk_cross (a := c) hq.2
  rw [← hp.1] at h1
  rw [← hq.1] at h2
  have p0 : p.2 ≠ 0 := by rw [hp.1]; have := mk_pos (a := a) hp.2; omega
  have q0 : q.2 ≠ 0 := by rw [hq.1]; have := mk_pos (a := c) hq.2; omega
  refine mk_eq (Int.mul_ne_zero p0 q0) (Int.mul_ne_zero hp.2 hq.2) ?_
  calc p.1 * q.1 * (b * d) = (p.1 * b) * (q.1 * d) := by ac_rfl
    _ = (a * p.2) * (c * q.2) := by rw [h1, h2]
    _ = a * c * (p.2 * q.2) := by ac_rfl
theorem Is.div {p q : Int × Int} {a b c d : Int} (hp : Is p a b) (hq : Is q c d) (h0 : c ≠ 0) : Is (div p q) (a * d) (b * c) := by
  refine ⟨?_, Int.mul_ne_zero hp.2 h0⟩
  unfold Fr.div
  have h1 := mk_cross (a := a) hp.2
  have h2 := mk_cross (a := c) hq.2
  rw [← hp.1] at h1
  rw [← hq.1] at h2
  have p0 : p.2 ≠ 0 := by rw [hp.1]; have := mk_pos (a := a) hp.2; omega
  have q0 : q.2 ≠ 0 := by rw [hq.1]; have := mk_pos (a := c) hq.2; omega
  have q1 : q.1 ≠ 0 := by
    intro z
    rw [z, Int.zero_mul] at h2
    exact (Int.mul_ne_zero h0 q0) h2.symm
  refine mk_eq (Int.mul_ne_zero p0 q1) (Int.mul_ne_zero hp.2 h0) ?_
  calc p.1 * q.2 * (b * c) = (p.1 * b) * (c * q.2) := by ac_rfl
    _ = (a * p.2) * (q.1 * d) := by rw [h1, h2]
    _ = a * d * (p.2 * q.1) := by ac_rfl
end Fr

/-! What the hand layer does not carry: that no repr is under way around a def. With it repr of lists and tuples can be asked. -/
namespace G
open PySem PySem.Spec PyProof.Rows L2
section
variable {X : Cx}
def rRepr (K : PySem.W.Frag) : List V → Hp → VK → Prop := fun xs H Q =>
  ∃ (a : Addr) (d : PyData), xs = [.ref a] ∧ Dp K H (.ref a) d ∧ d.showable = true ∧ d.hasDict = false ∧ d.depth ≤ 40 ∧ d.shown.length ≤ sizeLine ∧ Q (.str d.shown) H
theorem call_reprD (hg : X.A.guards = some []) (hu : X.A.units + 64 < cLine) : CallR X (.builtin "repr") (rRepr X.K) := by
  intro pins s σ H xs us Q I r h
  obtain ⟨a, d, rfl, hd, h1, h2, h3, h4, q⟩ := h
  obtain ⟨u, rfl, ru⟩ := r.one
  cases ru
  obtain ⟨as, rd⟩ := Dp.reads I d _ _ hd rfl
  refine repr_of_reads' rd h1 (fun z => ?_) hg (by omega) (fun b o e => e) (fun h' t tk hk => ?_) h4
  · rw [h2] at z
    cases z
  · exact ⟨.str d.shown, H, I.kept hk, ⟨t, rfl⟩, q⟩
end
/-- a def's promise where no repr is under way -/
structure FnG (P : Program) (w : World) (K : PySem.W.Frag) (mg : Str → Option Value) (base : Heap) (k : Nat) (f : Addr) (fd : FuncData) (ps : List Str) (sp : Sp) : Prop where
  len : ∀ vs H Q E, sp vs H Q E → vs.length = ps.length
  run : ∀ (A : Around) (outer : List Env) (s : Shared) (H : Hp) (args : Args) (us : List Value) (vs : List V) (Q : VK) (E : XK),
    A.guards = some [] → Room k A → Env0 P w K mg base A outer s H → BindsTo s fd args (ps.zip us) → Vals vs us → sp vs H Q E →
      codeAny (model P w) A (.call (.ref f) args) (CR CX0 outer P w H s Q E) s
section
variable {X : Cx} {k : Nat} {f : Addr} {fd : FuncData} {ps : List Str} {sp : Sp} {E : XK} {x : Str} {p pos : Pos} {e : Expr} {es : List Expr} {t : TA}
theorem run_g {pins : List (Addr × Obj)} {σ : L2.St} {H : Hp} {s : Shared} {Q : VK} {us : List Value} {vs : List V}
    (F : FnG X.prog X.w X.K X.mg X.base k f fd ps sp) (g : X.A.guards = some []) (hr : Room k X.A) (hb : Binds X.K fd ps [])
    (I : Inv X pins σ H s) (r : Vals vs us) (h : sp vs H Q E) :
    wpAny (model X.prog X.w) X.A (call (.ref f) us) (EP X pins σ Q) X.xe s := by
  have n1 : us.length = ps.length := r.length.symm.trans (F.len vs H Q E h)
  have b1 := hb s us I.kIn ((congrArg List.length (List.append_nil us)).trans n1)
  rw [List.append_nil] at b1
  refine wpAny_call (codeAny_mono (F.run X.A X.stack s H ⟨us, []⟩ us vs Q E g hr I.env0 b1 r h) ?_)
  intro res s' c
  match res, c with
  | .error _, c => exact False.elim c
  | .ok (.ret _), c => exact I.after c
  | .ok .next, c => exact False.elim c
  | .ok .brk, c => exact False.elim c
  | .ok .cont, c => exact False.elim c
/-- f(e, ..) of such a def -/
theorem pe_callG (F : FnG X.prog X.w X.K X.mg X.base k f fd ps sp) (g : X.A.guards = some []) (hr : Room k X.A) (hgl : Gl X x) (hm : X.mg x = some (.ref f))
    (hk : PySem.W.keepIn X.K (.ref f) = true) (hb : Binds X.K fd ps []) (ha : PA X (e :: es) t)
    (hdb : (x == ("__debug__" : Str)) = false := by decide)
    (he : starEach (e :: es) X.env = (false, eval e X.env) :: starEach es X.env := by rfl)
    (hpl : (backTo pos (starEach es X.env)).any (·.1) = false := by rfl) :
    PE X (.Call (.Name x p) (e :: es) [] pos) (fun σ H Q => t σ H fun vs H1 => sp vs H1 Q E0) := by
  constructor
  intro pins s σ H Q I h
  apply wpAny_Call_Name_kw
  apply ld_glob I hgl hm _ hdb
  refine PySem.W.callWith_K (h₀ := X.base) I.ok.mod.kin hk (thn (ha.run pos pins s σ H _ I h) ?_) he hpl
  rintro us s1 ⟨vs, H1, I1, r, q⟩
  exact ⟨I1.kIn, run_g (E := E0) F g hr hb I1 r q⟩
end
/-- such a def by its body -/
theorem fn_g {P : Program} {w : World} {K : PySem.W.Frag} {mg : Str → Option Value} {base : Heap} {x qual : Str} {st : Stmt} {f : Addr} {fd : FuncData} {N ps : List Str} {k : Nat} {sp : Sp}
    (F : Fun K x qual st f fd) (S : FnScope N ps (defScope st)) (len : ∀ vs H Q E, sp vs H Q E → vs.length = ps.length)
    (body : ∀ (cdv : Value) (A : Around) (outer : List Env) (s : Shared) (H : Hp) (vs : List V) (Q : VK) (E : XK), A.guards = some [] →
      Room k (A.deeper (envOfC qual (defScope st) s.heap.objs.size f cdv)) → sp vs H Q E →
      ∃ t, PSs (cxOf CX0 P w K mg base N qual (defScope st) f cdv A outer s H E).nox (defBody st) t ∧ t { nx := fun _ H' => Q .non H', rt := Q } (start N vs) H) :
    FnG P w K mg base (k + 1) f fd ps sp := by
  obtain ⟨oc, od, kV, doc, pm, an, cdv, ct, osl, rfl, lk, hcd⟩ := F.ex
  refine ⟨len, ?_⟩
  intro A outer s H args us vs Q E g hr e0 hb r hsp
  have up : ∀ b o, base.get? b = some o → s.heap.get? b = some o := fun b o e => (e0.bs b o e).1
  have KX : K.In s.heap := e0.mod.kin.keeps up
  refine codeAny_call_function hr.depth (KX _ _ lk) rfl S.co S.gen rfl (PySem.W.codeRec_of KX hcd) (hb _ _ _ _ ?_)
  refine wpAny_newFunctionEnv_cells S.kind ?_ ?_
  · rintro ⟨n, v⟩ hy
    cases S.par n (List.of_mem_zip hy).1 with
    | inl q => exact .inl q
    | inr q => exact .inr ⟨q, PySem.W.cellsFrom_some _ _ _ (.inl q)⟩
  · rintro env rfl s1 x
    refine ⟨(e0.mod.nolimit.keeps up).keeps x.toInCall.keep, codeAny_func ?_⟩
    obtain ⟨t, ht, hq⟩ := body cdv A outer s H vs Q E g (hr.deeper _) hsp
    have I := inv_start (CX := CX0) (E := E) S hr.hd e0 (len _ _ _ _ hsp) r x
    refine wpAny_mono (ht.nox.run [] s1 (start N vs) H _ I hq) ?_ (fun e s' hs => hs)
    intro fl s' hs
    match fl, hs with
    | .ret u, ⟨v, σ', H', J, rv, q⟩ => exact ⟨v, H', J.os, J.bare, J.base, J.hok, rv, q⟩
    | .next, ⟨σ', H', J, q⟩ => exact ⟨.non, H', J.os, J.bare, J.base, J.hok, rfl, q⟩
    | .brk, ⟨_, _, _, q⟩ => exact False.elim q
    | .cont, ⟨_, _, _, q⟩ => exact False.elim q

/-- the law's call, from a heap in which nothing but the script may be tracked -/
theorem law_core {P : Program} {w : World} {K : PySem.W.Frag} {mg mb : Str → Option Value} {k : Nat} {fa a : Addr} {fd : FuncData} {x : Str} {sp : Sp} {s₁ : Shared} {vs : List Value}
    (KX : K.In s₁.heap) (hns : s₁.heap.Ns mainGlobals mg) (hb : s₁.heap.Ns builtinsNs mb) (hbb : ∀ x : Str, x ≠ "__name__" → mb x = bootBuiltins x) (hlim : s₁.heap.NoLimit) (hg : s₁.gens = #[])
    (ha : s₁.heap.get? a = some { cls := .type "list", data := .seq vs.toArray }) (hr : Room k callerA)
    (F : ∀ base : Heap, K.In base → base.Ns mainGlobals mg → FnG P w K mg base k fa fd [x] sp) (hbind : ∀ (s : Shared) (u : Value), BindsTo s fd ⟨[u], []⟩ [(x, u)])
    (H : Hp) (hO : Only H) (hok : HOk P w H s₁.heap) (hA : ∀ b, H b ≠ none → b = a) (hK : H a ≠ none → K.lookup a = none)
    (hsp : sp [.ref a] H (fun v _ => v = .bl true) fun _ _ _ => False) :
    codeAny (model P w) callerA (.call (.ref fa) ⟨[.ref a], []⟩) (fun r s' => r = .ok (.ret (.bool true)) ∧ OldK s₁.heap s'.heap ∧ s'.os = s₁.os ∧ AllBare s'.gens) s₁ := by
  have free : ∀ {b : Addr} {o : Obj}, s₁.heap.get? b = some o → (b = a → False) → H b = none := by
    intro b o _ hne
    cases q : H b with
    | none => rfl
    | some u => exact (hne (hA b (by simp [q]))).elim
  have hid : ∀ {b : Addr} {o : Obj}, s₁.heap.get? b = some o → H b = none → (hidT s₁.heap H).get? b = some o := fun e n => hidT_get e n
  have ns_of : ∀ {b : Addr} {m : Str → Option Value}, s₁.heap.Ns b m → (hidT s₁.heap H).Ns b m := by
    rintro b m ⟨o, es, ep, e, d, r⟩
    refine ⟨o, es, ep, hid e (free e fun z => ?_), d, r⟩
    subst z
    rw [ha] at e
    cases e
    cases (d : Data.seq vs.toArray _ = Data.dict es ep)
  have kin : K.In (hidT s₁.heap H) := by
    intro b o e
    have e2 := KX b o e
    cases q : H b with
    | none => exact hid e2 q
    | some u =>
      have z := hA b (by simp [q])
      subst z
      rw [hK (by simp [q])] at e
      cases e
  obtain ⟨mc, l1, l2⟩ := hlim
  have md : Mod K mg (hidT s₁.heap H) := ⟨kin, ns_of hns, ⟨mb, ns_of hb, hbb⟩, ⟨mc, ns_of l1, l2⟩⟩
  have none_in : ∀ {b : Addr} {Z : Prop}, b ∈ ([] : List Addr) → Z := fun z => (nomatch z)
  have e0 : Env0 P w K mg (hidT s₁.heap H) callerA [] s₁ H :=
    ⟨rfl, md, fun b o e => of_hidT e, Nat.le_of_eq (hidT_size _ _), trivial, fun b z => none_in z, hok, .of_eq hg⟩
  refine codeAny_mono ((F _ kin (ns_of hns)).run callerA [] s₁ H ⟨[.ref a], []⟩ [.ref a] [.ref a] _ _ rfl hr e0 (hbind s₁ (.ref a)) (.cons rfl .nil) hsp) ?_
  intro r s' c
  match r, c with
  | .error _, c => exact False.elim c
  | .ok .next, c => exact False.elim c
  | .ok .brk, c => exact False.elim c
  | .ok .cont, c => exact False.elim c
  | .ok (.ret u), ⟨v, H', os, bare, un, hok', rv, q⟩ =>
    have q' : v = .bl true := q
    subst q'
    obtain rfl : u = Value.bool true := rv
    refine ⟨rfl, OldK.of_keep ?_, os, bare⟩
    intro b o e
    cases hq : H b with
    | none => exact un.keep b o e hq (fun z => none_in z) (by simp)
    | some u =>
      cases hO b with
      | inl z => rw [hq] at z; cases z
      | inr z =>
        obtain ⟨ob, xs, z⟩ := z
        have o1 := (hok b _ z).1
        have o2 := (hok' b _ (un.frzs b ob _ z)).1
        rw [e] at o1
        cases o1
        exact o2
theorem law_g {P : Program} {w : World} {K : PySem.W.Frag} {mg mb : Str → Option Value} {k : Nat} {fa a : Addr} {fd : FuncData} {x : Str} {sp : Sp} {s₁ : Shared} {vs : List Value} {ns : List Int}
    (KX : K.In s₁.heap) (hns : s₁.heap.Ns mainGlobals mg) (hb : s₁.heap.Ns builtinsNs mb) (hbb : ∀ x : Str, x ≠ "__name__" → mb x = bootBuiltins x) (hlim : s₁.heap.NoLimit) (hg : s₁.gens = #[])
    (ha : s₁.heap.get? a = some { cls := .type "list", data := .seq vs.toArray }) (hi : IntsAre vs ns) (hl : ns.length ≤ sizeLine) (hr : Room k callerA)
    (F : ∀ base : Heap, K.In base → base.Ns mainGlobals mg → FnG P w K mg base k fa fd [x] sp) (hbind : ∀ (s : Shared) (u : Value), BindsTo s fd ⟨[u], []⟩ [(x, u)])
    (hsp : ∀ H : Hp, Only H → SqL K H a (ns.map V.int) → sp [.ref a] H (fun v _ => v = .bl true) fun _ _ _ => False) :
    codeAny (model P w) callerA (.call (.ref fa) ⟨[.ref a], []⟩) (fun r s' => r = .ok (.ret (.bool true)) ∧ OldK s₁.heap s'.heap ∧ s'.os = s₁.os ∧ AllBare s'.gens) s₁ := by
  have rv := vals_ints hi
  cases hk : K.lookup a with
  | some o =>
    have e := KX a o hk
    rw [ha] at e
    cases e
    have oo : Only (fun _ => none) := fun _ => .inl rfl
    refine law_core KX hns hb hbb hlim hg ha hr F hbind (fun _ => none) oo (fun b u z => by cases (z : (none : Option HO) = some u)) (fun b z => absurd rfl z) (fun z => absurd rfl z) (hsp _ oo ?_)
    refine .inr ⟨_, vs.toArray, _, hk, rfl, rfl, rfl, ?_, by simpa using rv⟩
    rw [List.size_toArray, hi.length]
    exact hl
  | none =>
    let H : Hp := fun b => if b = a then some (.frz { cls := .type "list", data := .seq vs.toArray } (.lst (ns.map V.int))) else none
    have at_ : H a = some (.frz { cls := .type "list", data := .seq vs.toArray } (.lst (ns.map V.int))) := if_pos rfl
    have off : ∀ {b : Addr}, b ≠ a → H b = none := fun n => if_neg n
    have oo : Only H := fun b => by
      by_cases z : b = a
      · subst z
        exact .inr ⟨_, _, at_⟩
      · exact .inl (off z)
    refine law_core KX hns hb hbb hlim hg ha hr F hbind H oo ?_ ?_ (fun _ => hk) (hsp _ oo (.inl (.inr ⟨_, at_⟩)))
    · intro b u z
      by_cases q : b = a
      · subst q
        rw [at_] at z
        cases z
        exact ⟨ha, by rw [List.length_map]; exact hl, vs, _, rv, ha⟩
      · rw [off q] at z
        cases z
    · intro b z
      by_cases q : b = a
      · exact q
      · exact absurd (off q) z
/-- what is left behind the head, from the law's promise -/
theorem walk_g {l : PySem.W.OpenLaw} {n k : Nat} {q : Program} {loose : List Str} {XP : (Str → Option Value) → Heap → Prop} {YP : World → Heap → Prop} {d : DefRec} {K : Params → PySem.W.Frag} {sp : World → Sp} {x : Str}
    (hn : l.most = some n) (hn2 : n ≤ sizeLine) (hdf : d.params.defaults = []) (hr : Room k callerA)
    (hY : ∀ (w : World) (h : Heap), YP w h → (K w.params).In h)
    (F : ∀ (w : World) (mg : Str → Option Value) (fa : Addr) (h : Heap), (K w.params).In h → h.Ns mainGlobals mg → mg d.name = some (.ref fa) →
      ∃ fd : FuncData, (∀ (s : Shared) (u : Value), BindsTo s fd ⟨[u], []⟩ [(x, u)]) ∧
        ∀ base : Heap, (K w.params).In base → base.Ns mainGlobals mg → FnG l.prog w (K w.params) mg base k fa fd [x] (sp w))
    (hsp : ∀ (w : World) (H : Hp) (a : Addr) (ns : List Int), ns.length ≤ n → Only H → SqL (K w.params) H a (ns.map V.int) → sp w [.ref a] H (fun v _ => v = .bl true) fun _ _ _ => False) :
    PySem.W.WalkO q loose XP YP l.row.toRowW d [] (fun f vs => PySem.call f vs) := by
  refine Att.attach_call hn hdf ?_
  intro w s₀ s₁ mg mb fa o pm cd doc a vs ns G Y ho hd hcd hmg hobj hints hlen hg
  obtain ⟨fd, hb, hF⟩ := F w mg fa _ (hY w _ Y) G.T.g hmg
  exact law_g (hY w _ Y) G.T.g G.T.b G.T.builtins G.T.nolimit hg hobj hints (Nat.le_trans hlen hn2) hr hF hb (fun H oo hS => hsp w H a ns hlen oo hS)
end G

/-! Things: None, truths, NUMBERS, texts, lists and tuples of them, as they stand in the heap, apart from the address f. -/
namespace Th
open PySem PySem.Spec PyProof.Rows L2 G
def But (f : Addr) (H H' : Hp) : Prop := ∀ b o, b ≠ f → H b = some o → H' b = some o
theorem But.trans {f : Addr} {H H' H2 : Hp} (a : But f H H') (b : But f H' H2) : But f H H2 := fun x o n e => b x o n (a x o n e)
theorem But.of {f : Addr} {H H' : Hp} (a : Same H H') : But f H H' := fun x o _ e => a x o e
mutual
inductive Tr (f : Addr) (H : Hp) : V → PyData → Prop
  | non : Tr f H .non .none
  | bl (b : Bool) : Tr f H (.bl b) (.bool b)
  | int (i : Int) : Tr f H (.int i) (.int i)
  | str (x : Str) : Tr f H (.str x) (.str x)
  | lst {a : Addr} {xs : List V} {ds : List PyData} : a ≠ f → H a = some (.lst xs) → TrAll f H xs ds → Tr f H (.ref a) (.list ds)
  | tup {a : Addr} {xs : List V} {ds : List PyData} : a ≠ f → H a = some (.tup xs) → TrAll f H xs ds → Tr f H (.ref a) (.tuple ds)
inductive TrAll (f : Addr) (H : Hp) : List V → List PyData → Prop
  | nil : TrAll f H [] []
  | cons {v : V} {vs : List V} {d : PyData} {ds : List PyData} : Tr f H v d → TrAll f H vs ds → TrAll f H (v :: vs) (d :: ds)
end
section
variable {f : Addr} {H H' : Hp}
mutual
theorem Tr.keep (k : But f H H') : ∀ (d : PyData) (v : V), Tr f H v d → Tr f H' v d
  | .none, _, h => by cases h; exact .non
  | .bool b, _, h => by cases h; exact .bl _
  | .int i, _, h => by cases h; exact .int _
  | .str x, _, h => by cases h; exact .str _
  | .list ds, _, h => by
    cases h with
    | lst n e r => exact .lst n (k _ _ n e) (TrAll.keep k ds _ r)
  | .tuple ds, _, h => by
    cases h with
    | tup n e r => exact .tup n (k _ _ n e) (TrAll.keep k ds _ r)
  | .dict _, _, h => by cases h
theorem TrAll.keep (k : But f H H') : ∀ (ds : List PyData) (vs : List V), TrAll f H vs ds → TrAll f H' vs ds
  | [], _, h => by cases h; exact .nil
  | d :: ds, _, h => by
    cases h with
    | cons a r => exact .cons (Tr.keep k d _ a) (TrAll.keep k ds _ r)
end
theorem Tr.k {v : V} {d : PyData} (h : Tr f H v d) (k : But f H H') : Tr f H' v d := Tr.keep k d v h
theorem TrAll.k {vs : List V} {ds : List PyData} (h : TrAll f H vs ds) (k : But f H H') : TrAll f H' vs ds := TrAll.keep k ds vs h
mutual
theorem Tr.dpA (K : PySem.W.Frag) : ∀ (d : PyData) (v : V), Tr f H v d → Dp K H v d
  | .none, _, h => by cases h; exact .non
  | .bool b, _, h => by cases h; exact .bl _
  | .int i, _, h => by cases h; exact .int _
  | .str x, _, h => by cases h; exact .str _
  | .list ds, _, h => by
    cases h with
    | lst n e r => exact .lst (SqL.of e) (TrAll.dpA K ds _ r)
  | .tuple ds, _, h => by
    cases h with
    | tup n e r => exact .tup (SqT.of e) (TrAll.dpA K ds _ r)
  | .dict _, _, h => by cases h
theorem TrAll.dpA (K : PySem.W.Frag) : ∀ (ds : List PyData) (vs : List V), TrAll f H vs ds → DpAll K H vs ds
  | [], _, h => by cases h; exact .nil
  | d :: ds, _, h => by
    cases h with
    | cons a r => exact .cons (Tr.dpA K d _ a) (TrAll.dpA K ds _ r)
end
theorem Tr.dp {K : PySem.W.Frag} {v : V} {d : PyData} (h : Tr f H v d) : Dp K H v d := Tr.dpA K d v h
theorem TrAll.dp {K : PySem.W.Frag} {vs : List V} {ds : List PyData} (h : TrAll f H vs ds) : DpAll K H vs ds := TrAll.dpA K ds vs h
theorem TrAll.len : ∀ {vs : List V} {ds : List PyData}, TrAll f H vs ds → vs.length = ds.length
  | _, _, .nil => rfl
  | _, _, .cons _ r => by rw [List.length_cons, List.length_cons, r.len]
theorem TrAll.app : ∀ {vs us : List V} {ds es : List PyData}, TrAll f H vs ds → TrAll f H us es → TrAll f H (vs ++ us) (ds ++ es)
  | _, _, _, _, .nil, r => r
  | _, _, _, _, .cons a q, r => .cons a (q.app r)
theorem TrAll.get : ∀ {vs : List V} {ds : List PyData} {i : Nat} {v : V}, TrAll f H vs ds → vs[i]? = some v → ∃ d, ds[i]? = some d ∧ Tr f H v d
  | _, _, _, _, .nil, e => by simp at e
  | _, _, 0, _, .cons a q, e => by
    cases e
    exact ⟨_, rfl, a⟩
  | _, _, i + 1, _, .cons a q, e => q.get (i := i) e
theorem TrAll.drop : ∀ {vs : List V} {ds : List PyData} (n : Nat), TrAll f H vs ds → TrAll f H (vs.drop n) (ds.drop n)
  | _, _, 0, h => h
  | _, _, _ + 1, .nil => .nil
  | _, _, n + 1, .cons _ r => TrAll.drop n r
theorem TrAll.take : ∀ {vs : List V} {ds : List PyData} (n : Nat), TrAll f H vs ds → TrAll f H (vs.take n) (ds.take n)
  | _, _, 0, _ => .nil
  | _, _, _ + 1, .nil => .nil
  | _, _, n + 1, .cons a r => .cons a (TrAll.take n r)
theorem TrAll.set : ∀ {vs : List V} {ds : List PyData} {v : V} {d : PyData} (n : Nat), TrAll f H vs ds → Tr f H v d → TrAll f H (vs.set n v) (ds.set n d)
  | _, _, _, _, _, .nil, _ => .nil
  | _, _, _, _, 0, .cons _ r, h => .cons h r
  | _, _, _, _, n + 1, .cons a r, h => .cons a (TrAll.set n r h)
theorem Tr.one {v : V} {d : PyData} (h : Tr f H v d) : TrAll f H [v] [d] := .cons h .nil
/-- its type's name -/
def ty : PyData → String
  | .none => "NoneType"
  | .bool _ => "bool"
  | .int _ => "int"
  | .str _ => "str"
  | .list _ => "list"
  | .tuple _ => "tuple"
  | .dict _ => "dict"
theorem Tr.tyx {K : PySem.W.Frag} : ∀ {d : PyData} {v : V}, Tr f H v d → TyX K H v (.type (ty d))
  | _, _, .non => .base .non
  | _, _, .bl b => .base (.bl b)
  | _, _, .int i => .base (.int i)
  | _, _, .str x => .base (.str x)
  | _, _, .lst _ e _ => .base (.lst e)
  | _, _, .tup _ e _ => .base (.tup e)
end
/-! what can be shown and compared -/
mutual
def okD : PyData → Bool
  | .none => true
  | .bool _ => true
  | .int i => decide (i.natAbs < 2 ^ 300)
  | .str x => PyData.strOk x
  | .list xs => okAll xs
  | .tuple xs => okAll xs
  | .dict _ => false
def okAll : List PyData → Bool
  | [] => true
  | x :: xs => okD x && okAll xs
end
theorem okAll_iff : ∀ {ds : List PyData}, okAll ds = true ↔ ∀ d ∈ ds, okD d = true
  | [] => by simp [okAll]
  | d :: ds => by
    rw [show okAll (d :: ds) = (okD d && okAll ds) from rfl, Bool.and_eq_true, okAll_iff, List.forall_mem_cons]
mutual
theorem ok_show : ∀ d : PyData, okD d = true → d.showable = true ∧ d.hasDict = false ∧ d.canLay0 = true ∧ d.leavesShort 320 = true
  | .none, _ => ⟨rfl, rfl, rfl, rfl⟩
  | .bool _, _ => ⟨rfl, rfl, rfl, rfl⟩
  | .int i, h => by
    have h : i.natAbs < 2 ^ 300 := of_decide_eq_true h
    have l : i.natAbs.log2 < 300 := PySem.Flt.log2_lt_of (by decide) h
    refine ⟨decide_eq_true (by omega), rfl, rfl, ?_⟩
    have t := int_text_length_le (a := i) (k := 300) (by decide) l
    show decide ((PyData.shown (.int i)).length ≤ 320) = true
    have e : (PyData.shown (.int i)).length = (toString i).length := by
      show (Str.ofString (toString i)).length = _
      exact PySem.ofString_length _
    rw [e]
    exact decide_eq_true (by omega)
  | .str x, h => by
    refine ⟨rfl, rfl, h, ?_⟩
    show (x.cps.toList.all fun c => decide (c < 16 ^ 8)) = true
    have h2 : x.cps.all (· < 0x110000) = true := h
    rw [List.all_eq_true]
    intro c hc
    have h3 := (Array.all_eq_true_iff_forall_mem.mp h2) c (by simpa using hc)
    have h4 : c < 0x110000 := of_decide_eq_true h3
    exact decide_eq_true (by omega)
  | .list xs, h => ok_showAll xs h
  | .tuple xs, h => ok_showAll xs h
  | .dict _, h => by cases (h : false = true)
theorem ok_showAll : ∀ ds : List PyData, okAll ds = true → PyData.showableAll ds = true ∧ PyData.hasDictAll ds = false ∧ PyData.canLayAll0 ds = true ∧ PyData.leavesShortAll 320 ds = true
  | [], _ => ⟨rfl, rfl, rfl, rfl⟩
  | d :: ds, h => by
    have h : (okD d && okAll ds) = true := h
    rw [Bool.and_eq_true] at h
    obtain ⟨a1, a2, a3, a4⟩ := ok_show d h.1
    obtain ⟨b1, b2, b3, b4⟩ := ok_showAll ds h.2
    refine ⟨?_, ?_, ?_, ?_⟩
    · show (PyData.showable d && PyData.showableAll ds) = true
      rw [a1, b1]; rfl
    · show (PyData.hasDict d || PyData.hasDictAll ds) = false
      rw [a2, b2]; rfl
    · show (PyData.canLay0 d && PyData.canLayAll0 ds) = true
      rw [a3, b3]; rfl
    · show (PyData.leavesShort 320 d && PyData.leavesShortAll 320 ds) = true
      rw [a4, b4]; rfl
end
/-- fine to be shown: of w weight and n depth at most -/
structure Fine (w n : Nat) (d : PyData) : Prop where
  ok : okD d = true
  wt : d.weight ≤ w
  dp : d.depth ≤ n
theorem Fine.mono {w n w' n' : Nat} {d : PyData} (h : Fine w n d) (h1 : w ≤ w') (h2 : n ≤ n') : Fine w' n' d := ⟨h.ok, Nat.le_trans h.wt h1, Nat.le_trans h.dp h2⟩
theorem Fine.shown {w n : Nat} {d : PyData} (h : Fine w n d) (hw : w ≤ 40000) : d.shown.length ≤ sizeLine := by
  have z := PyData.shown_le 320 (by decide) d (ok_show d h.ok).2.2.2
  have e : sizeLine = 16777216 := rfl
  have := h.wt
  omega
theorem Fine.shaped {w n : Nat} {d : PyData} (h : Fine w n d) (hn : n ≤ 64) : SeqAt.shaped d = true := by
  show (d.canLay0 && decide (d.depth ≤ 64)) = true
  rw [Bool.and_eq_true]
  exact ⟨(ok_show d h.ok).2.2.1, decide_eq_true (Nat.le_trans h.dp hn)⟩
section
variable {X : Cx}
/-- repr of a thing -/
def rRep (f : Addr) : List V → Hp → VK → Prop := fun xs H Q => ∃ (v : V) (d : PyData) (w n : Nat), xs = [v] ∧ Tr f H v d ∧ Fine w n d ∧ w ≤ 40000 ∧ n ≤ 40 ∧ Q (.str d.shown) H
theorem call_rep {f : Addr} (hg : X.A.guards = some []) (hu : X.A.units + 64 < cLine) : CallR X (.builtin "repr") (rRep f) := by
  intro pins s σ H xs us Q I r h
  obtain ⟨v, d, w, n, rfl, hT, hF, hw, hn, q⟩ := h
  obtain ⟨u, rfl, ru⟩ := r.one
  have sz := hF.shown hw
  obtain ⟨o1, o2, o3, o4⟩ := ok_show d hF.ok
  have e1 : ∀ a, u = .ref a → wpAny (model X.prog X.w) X.A (call (.builtin "repr") [u]) (EP X pins σ Q) X.xe s := by
    intro a ea
    subst ea
    obtain ⟨as, rd⟩ := Dp.reads I d _ _ hT.dp ru
    refine repr_of_reads' rd o1 (fun z => ?_) hg (by have := hF.dp; omega) (fun b o e => e) (fun h' t tk hk => ?_) sz
    · rw [o2] at z
      cases z
    · exact ⟨.str d.shown, H, I.kept hk, ⟨t, rfl⟩, q⟩
  cases hT with
  | non => cases ru; exact PySem.P.repr_of_none ⟨.str _, H, I.tok _, ⟨_, rfl⟩, q⟩
  | bl b => cases ru; exact PySem.P.repr_of_bool ⟨.str _, H, I.tok _, ⟨_, rfl⟩, q⟩
  | int i =>
    obtain ⟨t, rfl⟩ := ru
    exact PySem.P.repr_of_int (of_decide_eq_true o1) ⟨.str _, H, I.tok _, ⟨_, rfl⟩, q⟩
  | str x =>
    obtain ⟨t, rfl⟩ := ru
    exact PySem.P.repr_of_str ⟨.str _, H, I.tok _, ⟨_, rfl⟩, q⟩ sz
  | lst n e r => exact e1 _ ru
  | tup n e r => exact e1 _ ru
end
/-- isinstance of a thing -/
theorem isi {K : PySem.W.Frag} {f : Addr} {H : Hp} {v : V} {d : PyData} {T : String} {b : Bool} {Q : VK} (h : Tr f H v d) (e : kitB (ty d) T = some b) (q : Q (.bl b) H) : rIsi K [v, .ty T] H Q :=
  ⟨v, .ty T, .type (ty d), .type T, b, rfl, .ty T, h.tyx, kit_ty e, q⟩
theorem kb_NoneType_int : kitB "NoneType" "int" = some false := by decide +kernel
theorem kb_bool_int : kitB "bool" "int" = some true := by decide +kernel
theorem kb_int_int : kitB "int" "int" = some true := by decide +kernel
theorem kb_str_int : kitB "str" "int" = some false := by decide +kernel
theorem kb_list_int : kitB "list" "int" = some false := by decide +kernel
theorem kb_tuple_int : kitB "tuple" "int" = some false := by decide +kernel
theorem kb_dict_int : kitB "dict" "int" = some false := by decide +kernel
def is_int : PyData → Bool := fun d => match d with | .int _ => true | .bool _ => true | _ => false
theorem kit_int : ∀ d : PyData, kitB (ty d) "int" = some (is_int d)
  | .none => kb_NoneType_int
  | .bool _ => kb_bool_int
  | .int _ => kb_int_int
  | .str _ => kb_str_int
  | .list _ => kb_list_int
  | .tuple _ => kb_tuple_int
  | .dict _ => kb_dict_int
theorem kb_NoneType_bool : kitB "NoneType" "bool" = some false := by decide +kernel
theorem kb_bool_bool : kitB "bool" "bool" = some true := by decide +kernel
theorem kb_int_bool : kitB "int" "bool" = some false := by decide +kernel
theorem kb_str_bool : kitB "str" "bool" = some false := by decide +kernel
theorem kb_list_bool : kitB "list" "bool" = some false := by decide +kernel
theorem kb_tuple_bool : kitB "tuple" "bool" = some false := by decide +kernel
theorem kb_dict_bool : kitB "dict" "bool" = some false := by decide +kernel
def is_bool : PyData → Bool := fun d => match d with | .bool _ => true | _ => false
theorem kit_bool : ∀ d : PyData, kitB (ty d) "bool" = some (is_bool d)
  | .none => kb_NoneType_bool
  | .bool _ => kb_bool_bool
  | .int _ => kb_int_bool
  | .str _ => kb_str_bool
  | .list _ => kb_list_bool
  | .tuple _ => kb_tuple_bool
  | .dict _ => kb_dict_bool
theorem kb_NoneType_str : kitB "NoneType" "str" = some false := by decide +kernel
theorem kb_bool_str : kitB "bool" "str" = some false := by decide +kernel
theorem kb_int_str : kitB "int" "str" = some false := by decide +kernel
theorem kb_str_str : kitB "str" "str" = some true := by decide +kernel
theorem kb_list_str : kitB "list" "str" = some false := by decide +kernel
theorem kb_tuple_str : kitB "tuple" "str" = some false := by decide +kernel
theorem kb_dict_str : kitB "dict" "str" = some false := by decide +kernel
def is_str : PyData → Bool := fun d => match d with | .str _ => true | _ => false
theorem kit_str : ∀ d : PyData, kitB (ty d) "str" = some (is_str d)
  | .none => kb_NoneType_str
  | .bool _ => kb_bool_str
  | .int _ => kb_int_str
  | .str _ => kb_str_str
  | .list _ => kb_list_str
  | .tuple _ => kb_tuple_str
  | .dict _ => kb_dict_str
theorem kb_NoneType_tuple : kitB "NoneType" "tuple" = some false := by decide +kernel
theorem kb_bool_tuple : kitB "bool" "tuple" = some false := by decide +kernel
theorem kb_int_tuple : kitB "int" "tuple" = some false := by decide +kernel
theorem kb_str_tuple : kitB "str" "tuple" = some false := by decide +kernel
theorem kb_list_tuple : kitB "list" "tuple" = some false := by decide +kernel
theorem kb_tuple_tuple : kitB "tuple" "tuple" = some true := by decide +kernel
theorem kb_dict_tuple : kitB "dict" "tuple" = some false := by decide +kernel
def is_tuple : PyData → Bool := fun d => match d with | .tuple _ => true | _ => false
theorem kit_tuple : ∀ d : PyData, kitB (ty d) "tuple" = some (is_tuple d)
  | .none => kb_NoneType_tuple
  | .bool _ => kb_bool_tuple
  | .int _ => kb_int_tuple
  | .str _ => kb_str_tuple
  | .list _ => kb_list_tuple
  | .tuple _ => kb_tuple_tuple
  | .dict _ => kb_dict_tuple
end Th

namespace K1
open PySem PySem.Spec PyProof.Rows L2 G Th
def topS (i : Nat) : Stmt := PySem.Challenge.pw_ledclocks_k01_numbers_words_fractions_by.main.body.getD i (.Pass ⟨0, 0, 0, 0⟩)
abbrev sNum : Stmt := topS 3
abbrev sWord : Stmt := topS 4
abbrev sIsFr : Stmt := topS 6
abbrev sCd : Stmt := topS 7
abbrev sFeed : Stmt := topS 9
abbrev sDraw : Stmt := topS 10
abbrev sSpoilt : Stmt := topS 11
abbrev sDiv : Stmt := topS 12
abbrev sMade : Stmt := topS 13
abbrev sFrac : Stmt := topS 14
abbrev sLNum : Stmt := topS 15
abbrev sLFr : Stmt := topS 16
abbrev sLWord : Stmt := topS 17
abbrev sText : Stmt := topS 18
abbrev sNear : Stmt := topS 19
abbrev sLaw : Stmt := topS 20
/-! heaps -/
theorem same_new {H : Hp} {p : Addr} {o : HO} (h : H p = none) : Same H (upd H p o) := fun b x e => by
  rw [upd_ne (ne_of_none e h)]
  exact e
theorem yes {b : Bool} {p q : Prop} (h : b = true) (x : p) : if b = true then p else q := by
  rw [if_pos h]
  exact x
theorem no {b : Bool} {p q : Prop} (h : b = false) (x : q) : if b = true then p else q := by
  rw [if_neg (by rw [h]; decide)]
  exact x
/-- a new object -/
structure New (H H' : Hp) (p : Addr) (o : HO) : Prop where
  same : Same H H'
  free : H p = none
  at_ : H' p = some o
theorem new_of {H : Hp} {p : Addr} {o : HO} (h : H p = none) : New H (upd H p o) p o := ⟨same_new h, h, upd_same⟩
abbrev tf (x : Int × Int) : List V := [.int x.1, .int x.2]
theorem it0 {K : PySem.W.Frag} {H : Hp} {p : Addr} {x y : V} {Q : VK} (h : SqT K H p [x, y]) (q : Q x H) : rIxT K (.ref p) (.int 0) H Q := ⟨p, _, 0, x, rfl, rfl, h, atI_nat (j := 0) rfl, q⟩
theorem it1 {K : PySem.W.Frag} {H : Hp} {p : Addr} {x y : V} {Q : VK} (h : SqT K H p [x, y]) (q : Q y H) : rIxT K (.ref p) (.int 1) H Q := ⟨p, _, 1, y, rfl, rfl, h, atI_nat (j := 1) rfl, q⟩
/-- bounds -/
structure Bd (x : Int × Int) : Prop where
  pos : 0 < x.2
  b1 : x.1.natAbs < 2 ^ 900
  b2 : x.2.natAbs < 2 ^ 900
theorem mw {i j : Int} (hi : i.natAbs < 2 ^ 900) (hj : j.natAbs < 2 ^ 900) : CMulW i j := wide_mul hi hj (by decide) (by decide) (by decide)
theorem up {a : Int} {n : Nat} (h : a.natAbs < 2 ^ n) (hn : n ≤ 2000) : a.natAbs < 2 ^ 2000 := Fr.bmono h hn
section
variable {P : Program} {w : World} {K : PySem.W.Frag} {mg : Str → Option Value} {base : Heap}
/-! the greatest common divisor, twice -/
theorem gcd_step {a b : Int} (hb : 0 < b) : Int.gcd b (a.fmod b) = Int.gcd a b := by
  rw [Int.fmod_eq_emod_of_nonneg a (by omega), Int.emod_def, Int.gcd_sub_mul_left_right, Int.gcd_comm]
theorem fmod_lt {a b : Int} (hb : 0 < b) : 0 ≤ a.fmod b ∧ a.fmod b < b := by
  rw [Int.fmod_eq_emod_of_nonneg a (by omega)]
  exact ⟨Int.emod_nonneg _ (by omega), Int.emod_lt_of_pos _ hb⟩
def spCd : Sp := fun vs H Q _ => ∃ a b : Int, vs = [.int a, .int b] ∧ 0 ≤ b ∧ Q (.int (Int.gcd a b : Nat)) H
theorem scCd : FnScope ["a", "b"] ["a", "b"] (defScope sCd) := ⟨rfl, rfl, rfl, by decide +kernel, rfl, by decide +kernel, by decide +kernel⟩
theorem ok_cd {f : Addr} {fd : FuncData} (F : Fun K "common_divisor" "common_divisor" sCd f fd) (mA : mg "abs" = none) : FnOk P w K mg base CX0 1 f fd ["a", "b"] spCd := by
  refine F.ok scCd (fun vs H Q E h => ?_) (fun cdv A outer s H vs Q E hr h => ?_)
  · obtain ⟨a, b, rfl, _⟩ := h
    rfl
  · obtain ⟨a, b, rfl, hb, q⟩ := h
    refine ⟨_, pss_cons (ps_while PassesOwn.never (pt_cmpR op_ne (pv 1) pe_int (nomark _))
        (pss_one (ps_par (i := 0) (j := 1) (by rfl) scCd.nd rfl rfl (by decide) rfl rfl (pa_cons (pv 1) (pa_cons (pe_op op_modN (pv 0) (pv 1)) pa_nil)) (by rfl))))
      (pss_one (ps_ret (pe_callB call_abs (by rfl) mA boot_abs (pa_cons (pv 0) pa_nil)))), ?_⟩
    refine ⟨fun m σ H' => ∃ x y : Int, σ = [some (.int x), some (.int y)] ∧ 0 ≤ y ∧ m = y.toNat ∧ Int.gcd x y = Int.gcd a b ∧ H' = H, ⟨_, a, b, rfl, hb, rfl, rfl, rfl⟩, ?_⟩
    rintro m σ H' ⟨x, y, rfl, hy, rfl, hg, rfl⟩
    refine ⟨_, rfl, rfl, _, rfl, ?_⟩
    by_cases y0 : y = 0
    · subst y0
      refine no (by simp) ?_
      refine ⟨_, rfl, x, rfl, ?_⟩
      have e : (if x < 0 then -x else x) = ((Int.gcd a b : Nat) : Int) := by
        rw [← hg, Int.gcd_zero]
        split <;> omega
      rw [e]
      exact q
    · refine yes (by simp [y0]) ?_
      obtain ⟨h1, h2⟩ := fmod_lt (a := x) (b := y) (by omega)
      refine ⟨fun σ' H2 => ∃ x' y' : Int, σ' = [some (.int x'), some (.int y')] ∧ 0 ≤ y' ∧ y'.toNat < y.toNat ∧ Int.gcd x' y' = Int.gcd a b ∧ H2 = H', ?_, ?_⟩
      · rintro σ' H2 ⟨x', y', rfl, h3, h4, h5, rfl⟩
        exact ⟨_, h4, x', y', rfl, h3, rfl, h5, rfl⟩
      · refine ⟨_, rfl, _, rfl, _, rfl, _, _, rfl, rfl, y0, _, _, rfl, ?_⟩
        exact ⟨y, x.fmod y, rfl, h1, by omega, by rw [gcd_step (by omega), hg], rfl⟩
def spDiv : Sp := fun vs H Q _ => ∃ a b : Int, vs = [.int a, .int b] ∧ 0 ≤ a ∧ 0 ≤ b ∧ Q (.int (Int.gcd a b : Nat)) H
theorem scDiv : FnScope ["_law_one", "_law_other"] ["_law_one", "_law_other"] (defScope sDiv) := ⟨rfl, rfl, rfl, by decide +kernel, rfl, by decide +kernel, by decide +kernel⟩
theorem ok_div {f : Addr} {fd : FuncData} (F : Fun K "_law_divisor" "_law_divisor" sDiv f fd) : FnOk P w K mg base CX0 1 f fd ["_law_one", "_law_other"] spDiv := by
  refine F.ok scDiv (fun vs H Q E h => ?_) (fun cdv A outer s H vs Q E hr h => ?_)
  · obtain ⟨a, b, rfl, _⟩ := h
    rfl
  · obtain ⟨a, b, rfl, ha, hb, q⟩ := h
    refine ⟨_, pss_cons (ps_while PassesOwn.never (pt_cmpR op_gt (pv 1) pe_int (nomark _))
        (pss_one (ps_par (i := 0) (j := 1) (by rfl) scDiv.nd rfl rfl (by decide) rfl rfl (pa_cons (pv 1) (pa_cons (pe_op op_modN (pv 0) (pv 1)) pa_nil)) (by rfl))))
      (pss_one (ps_ret (pv 0))), ?_⟩
    refine ⟨fun m σ H' => ∃ x y : Int, σ = [some (.int x), some (.int y)] ∧ 0 ≤ x ∧ 0 ≤ y ∧ m = y.toNat ∧ Int.gcd x y = Int.gcd a b ∧ H' = H, ⟨_, a, b, rfl, ha, hb, rfl, rfl, rfl⟩, ?_⟩
    rintro m σ H' ⟨x, y, rfl, hx, hy, rfl, hg, rfl⟩
    refine ⟨_, rfl, _, _, rfl, rfl, _, rfl, ?_⟩
    by_cases y0 : 0 < y
    · refine yes (decide_eq_true y0) ?_
      obtain ⟨h1, h2⟩ := fmod_lt (a := x) (b := y) (by omega)
      refine ⟨fun σ' H2 => ∃ x' y' : Int, σ' = [some (.int x'), some (.int y')] ∧ 0 ≤ x' ∧ 0 ≤ y' ∧ y'.toNat < y.toNat ∧ Int.gcd x' y' = Int.gcd a b ∧ H2 = H', ?_, ?_⟩
      · rintro σ' H2 ⟨x', y', rfl, h0, h3, h4, h5, rfl⟩
        exact ⟨_, h4, x', y', rfl, h0, h3, rfl, h5, rfl⟩
      · refine ⟨_, rfl, _, rfl, _, rfl, _, _, rfl, rfl, (by omega : y ≠ 0), _, _, rfl, ?_⟩
        exact ⟨y, x.fmod y, rfl, hy, h1, by omega, by rw [gcd_step (by omega), hg], rfl⟩
    · refine no (decide_eq_false y0) ?_
      have y1 : y = 0 := by omega
      subst y1
      have e : x = ((Int.gcd a b : Nat) : Int) := by
        rw [← hg, Int.gcd_zero]
        omega
      refine ⟨_, rfl, ?_⟩
      rw [e]
      exact q
/-! a parted by b, twice -/
def spRatio : Sp := fun vs H Q _ => ∃ a b : Int, vs = [.int a, .int b] ∧ b ≠ 0 ∧ b.natAbs < 2 ^ 2000 ∧ ∀ H' p, New H H' p (.tup (tf (Fr.mk a b))) → Q (.ref p) H'
theorem g_div {a b : Int} {x : Int} (h : b ≠ 0) (hb : b.natAbs < 2 ^ 2000) : CDivW x ((Int.gcd a b : Nat) : Int) := by
  have g0 := Fr.gcd_pos (a := a) h
  refine wide_div (b := 2000) (by omega) ?_ (by decide) (by decide)
  rw [Int.natAbs_natCast]
  exact Nat.lt_of_le_of_lt (Int.gcd_le_natAbs_right _ h) hb
theorem scMade : FnScope ["_law_a", "_law_b", "_law_divisor_here"] ["_law_a", "_law_b"] (defScope sMade) := ⟨rfl, rfl, rfl, by decide +kernel, rfl, by decide +kernel, by decide +kernel⟩
theorem ok_made {f fD : Addr} {fd fdD : FuncData} (F : Fun K "_law_made" "_law_made" sMade f fd) (FD : Fun K "_law_divisor" "_law_divisor" sDiv fD fdD) (bD : Binds K fdD ["_law_one", "_law_other"] []) (gD : mg "_law_divisor" = some (.ref fD)) (mA : mg "abs" = none) : FnOk P w K mg base CX0 2 f fd ["_law_a", "_law_b"] spRatio := by
  have GD : FnOk P w K mg base CX0 1 fD fdD ["_law_one", "_law_other"] spDiv := ok_div FD
  refine F.ok scMade (fun vs H Q E h => ?_) (fun cdv A outer s H vs Q E hr h => ?_)
  · obtain ⟨a, b, rfl, _⟩ := h
    rfl
  · obtain ⟨a, b, rfl, hb, hB, q⟩ := h
    refine ⟨_, pss_cons (ps_if (pt_cmpR op_lt (pv 1) pe_int (nomark _))
        (pss_one (ps_par (i := 0) (j := 1) (by rfl) scMade.nd rfl rfl (by decide) rfl rfl (pa_cons (pe_op op_sub pe_int (pv 0)) (pa_cons (pe_op op_sub pe_int (pv 1)) pa_nil)) (by rfl))) pss_nil)
      (pss_cons (ps_set (i := 2) scMade.nd rfl (.inl rfl) (pe_call GD hr (by rfl) gD FD.kp bD .nil pass0 (pa_cons (pe_callB call_abs (by rfl) mA boot_abs (pa_cons (pv 0) pa_nil)) (pa_cons (pv 1) pa_nil))))
      (pss_one (ps_ret (pe_tup (pa_cons (pe_op op_fdivW (pv 0) (pv 2)) (pa_cons (pe_op op_fdivW (pv 1) (pv 2)) pa_nil)))))), ?_⟩
    have ab : ∀ x : Int, Int.gcd (if x < 0 then -x else x) b = Int.gcd x b := by
      intro x
      split
      · rw [Int.neg_gcd]
      · rfl
    have ab0 : ∀ x : Int, 0 ≤ (if x < 0 then -x else x) := by
      intro x
      split <;> omega
    refine ⟨_, rfl, _, _, rfl, rfl, _, rfl, ?_⟩
    by_cases hn : b < 0
    · refine yes (decide_eq_true hn) ?_
      refine ⟨_, rfl, _, _, rfl, rfl, _, rfl, _, _, rfl, rfl, _, _, rfl, ?_⟩
      refine ⟨_, rfl, 0 - a, rfl, _, rfl, _, 0 - b, rfl, ab0 _, by omega, ?_⟩
      have e : Int.gcd (if 0 - a < 0 then -(0 - a) else 0 - a) (0 - b) = Int.gcd a b := by
        rw [Int.zero_sub, Int.zero_sub, Int.gcd_neg, ab, Int.neg_gcd]
      rw [e]
      refine ⟨_, rfl, _, rfl, _, _, rfl, rfl, g_div hb hB, _, rfl, _, rfl, _, _, rfl, rfl, g_div hb hB, (by show 2 ≤ sizeLine; decide), fun p hp => ?_⟩
      refine q _ p ?_
      unfold Fr.mk
      rw [if_pos hn, ← Int.zero_sub a, ← Int.zero_sub b]
      exact new_of hp
    · refine no (decide_eq_false hn) ?_
      refine ⟨_, rfl, a, rfl, _, rfl, _, b, rfl, ab0 _, by omega, ?_⟩
      rw [ab]
      refine ⟨_, rfl, _, rfl, _, _, rfl, rfl, g_div hb hB, _, rfl, _, rfl, _, _, rfl, rfl, g_div hb hB, (by show 2 ≤ sizeLine; decide), fun p hp => ?_⟩
      refine q _ p ?_
      unfold Fr.mk
      rw [if_neg hn]
      exact new_of hp
end
section
variable {P : Program} {w : World} {K : PySem.W.Frag} {mg : Str → Option Value} {base : Heap}
/-! the feed and its draws -/
structure Fd (H : Hp) (f s : Addr) (ns : List Int) (B : Int) : Prop where
  ex : ∃ i q n : Int, H f = some (.lst [.ref s, .int i, .int q, .int n]) ∧ 0 ≤ i ∧ 0 ≤ q ∧ 0 ≤ n ∧ n ≤ B
  sc : H s = some (.lst (ns.map V.int))
  ne : s ≠ f
  few : ns.length ≤ 63
def spDraw : Sp := fun vs H Q _ => ∃ (f s : Addr) (ns : List Int) (B m : Int), vs = [.ref f, .int m] ∧ Fd H f s ns B ∧ 0 < m ∧ m.natAbs < 2 ^ 200 ∧ B < 2 ^ 40 ∧
  ∀ H' d, But f H H' → Fd H' f s ns (B + 1) → 0 ≤ d → d < m → Q (.int d) H'
def spFeed (K : PySem.W.Frag) : Sp := fun vs H Q _ => ∃ (a : Addr) (ns : List Int), vs = [.ref a] ∧ SqL K H a (ns.map V.int) ∧ ns.length ≤ 63 ∧
  ∀ H' f s, Same H H' → H f = none → H s = none → Fd H' f s ns 0 → Q (.ref f) H'
theorem scFeed : FnScope ["_law_script"] ["_law_script"] (defScope sFeed) := ⟨rfl, rfl, rfl, by decide +kernel, rfl, by decide +kernel, by decide +kernel⟩
theorem scDraw : FnScope ["_law_feed_here", "_law_many", "_law_found", "_law_cell", "_law_mixed"] ["_law_feed_here", "_law_many"] (defScope sDraw) := ⟨rfl, rfl, rfl, by decide +kernel, rfl, by decide +kernel, by decide +kernel⟩
theorem cut63 (ns : List Int) (h : ns.length ≤ 63) : cutV (ns.map V.int) none (some 63) = ns.map V.int := by
  unfold cutV
  rw [HT.sIx_none, show HT.sIx (ns.map V.int).length (ns.map V.int).length (some 63) = min 63 (ns.map V.int).length from HT.sIx_nat _ _ 63]
  rw [List.drop_zero, List.take_of_length_le]
  rw [List.length_map]
  omega
theorem ok_feed {f : Addr} {fd : FuncData} (F : Fun K "_law_feed" "_law_feed" sFeed f fd) : FnOk P w K mg base CX0 1 f fd ["_law_script"] (spFeed K) := by
  refine F.ok scFeed (fun vs H Q E h => ?_) (fun cdv A outer s H vs Q E hr h => ?_)
  · obtain ⟨a, ns, rfl, _⟩ := h
    rfl
  · obtain ⟨a, ns, rfl, hS, hl, k⟩ := h
    refine ⟨_, pss_one (ps_ret (pe_lst (pa_cons (pe_slice sl_list (pv 0) po_none (po_some pe_int)) (pa_cons pe_int (pa_cons pe_int (pa_cons pe_int pa_nil)))))), ?_⟩
    refine ⟨_, rfl, 63, rfl, a, _, rfl, hS, fun t ht => ?_⟩
    refine ⟨(by show 4 ≤ sizeLine; decide), fun p hp => ?_⟩
    rw [cut63 ns hl] at hp ⊢
    have npt : t ≠ p := fun e => by
      rw [e, upd_same] at hp
      cases hp
    have hp0 : H p = none := by
      rw [upd_ne npt.symm] at hp
      exact hp
    refine k _ p t (fun b o e => ?_) hp0 ht ⟨⟨0, 0, 0, upd_same, by decide, by decide, by decide, by decide⟩, ?_, npt, hl⟩
    · rw [upd_ne (ne_of_none e hp0), upd_ne (ne_of_none e ht)]
      exact e
    · rw [upd_ne npt, upd_same]
end
theorem but_free {f s : Addr} {ns : List Int} {B : Int} {H H' : Hp} {p : Addr} (b : But f H H') (F : Fd H' f s ns B) (h : H' p = none) : H p = none := by
  cases e : H p with
  | none => rfl
  | some o =>
    by_cases z : p = f
    · subst z
      obtain ⟨i, q, n, e2, _⟩ := F.ex
      rw [h] at e2
      cases e2
    · rw [b p o z e] at h
      cases h
theorem Fd.keep {f s : Addr} {ns : List Int} {B : Int} {H H' : Hp} (F : Fd H f s ns B) (a : Same H H') : Fd H' f s ns B := by
  obtain ⟨i, q, n, e, h⟩ := F.ex
  exact ⟨⟨i, q, n, a _ _ e, h⟩, a _ _ F.sc, F.ne, F.few⟩
theorem Fd.ne_none {f s : Addr} {ns : List Int} {B : Int} {H : Hp} {p : Addr} (F : Fd H f s ns B) (h : H p = none) : p ≠ f := fun z => by
  obtain ⟨i, q, n, e, _⟩ := F.ex
  rw [z, e] at h
  cases h
theorem dpInts {K : PySem.W.Frag} {H : Hp} : ∀ ns : List Int, DpAll K H (ns.map V.int) (ns.map PyData.int)
  | [] => .nil
  | n :: r => .cons (.int n) (dpInts r)
theorem lay_ints : ∀ ns : List Int, PyData.canLayAll0 (ns.map PyData.int) = true
  | [] => rfl
  | n :: r => by
    simp only [List.map_cons, PyData.canLayAll0, PyData.canLay0, Bool.true_and]
    exact lay_ints r
theorem depth_ints : ∀ ns : List Int, PyData.depthAll (ns.map PyData.int) ≤ 1
  | [] => by simp [PyData.depthAll]
  | n :: r => by
    have h := depth_ints r
    simp only [List.map_cons, PyData.depthAll, PyData.depth]
    omega
theorem shaped_ints (ns : List Int) : SeqAt.shaped (.list (ns.map PyData.int)) = true := by
  have h1 := depth_ints ns
  show (PyData.canLay0 (.list (ns.map PyData.int)) && decide (PyData.depth (.list (ns.map PyData.int)) ≤ 64)) = true
  rw [Bool.and_eq_true]
  refine ⟨by simp only [PyData.canLay0]; exact lay_ints ns, decide_eq_true ?_⟩
  simp only [PyData.depth]
  omega
theorem at_ints {L : List Int} {d : Int} (h0 : 0 ≤ d) (h1 : d < (L.length : Int)) : ∃ v, atI (L.map V.int) d = some (.int v) ∧ v ∈ L := by
  obtain ⟨n, rfl⟩ := Int.eq_ofNat_of_zero_le h0
  have hn : n < L.length := by omega
  refine ⟨L[n], atI_nat (j := n) ?_, List.getElem_mem hn⟩
  rw [List.getElem?_map, List.getElem?_eq_getElem hn]
  rfl
theorem nz1 : (2147483629 : Int) ≠ 0 := by decide
theorem nz2 : (2147483647 : Int) ≠ 0 := by decide
theorem nz3 : (2147483587 : Int) ≠ 0 := by decide
theorem small_pow {x : Int} (h0 : 0 ≤ x) (h1 : x < 2 ^ 63) : CPow x 5 := ⟨by decide, by decide, by have : (2 : Int) ^ 63 = 9223372036854775808 := rfl; have : (2 : Nat) ^ 64 = 18446744073709551616 := rfl; omega⟩
section
variable {P : Program} {w : World} {K : PySem.W.Frag} {mg : Str → Option Value} {base : Heap}
theorem ok_draw {f : Addr} {fd : FuncData} (F : Fun K "_law_draw" "_law_draw" sDraw f fd) (mL : mg "len" = none) : FnOk P w K mg base CX0 1 f fd ["_law_feed_here", "_law_many"] spDraw := by
  refine F.ok scDraw (fun vs H Q E h => ?_) (fun cdv A outer s0 H vs Q E hr h => ?_)
  · obtain ⟨f, s, ns, B, m, rfl, _⟩ := h
    rfl
  · obtain ⟨f, s, ns, B, m, rfl, FD, m0, m1, hB, k⟩ := h
    obtain ⟨i, q, n, hF, i0, q0, n0, nB⟩ := FD.ex
    refine ⟨_, pss_cons (ps_asg (pe_op op_add (pe_ix ix_list (pv 0) pe_int (fun _ _ => rfl)) pe_int) (pg_sub (pv 0) pe_int set_list))
      (pss_cons (ps_if (pt_cmpR op_gt (pe_ix ix_list (pv 0) pe_int (fun _ _ => rfl)) pe_int (nomark _))
        (pss_cons (ps_set (i := 2) scDraw.nd rfl (.inl rfl) (pe_op op_modN (pe_ix ix_list (pv 0) pe_int (fun _ _ => rfl)) (pv 1)))
        (pss_cons (ps_asg (pe_op op_fdivW (pe_ix ix_list (pv 0) pe_int (fun _ _ => rfl)) (pv 1)) (pg_sub (pv 0) pe_int set_list))
        (pss_one (ps_ret (pv 2))))) pss_nil)
      (pss_cons (ps_set (i := 3) scDraw.nd rfl (.inl rfl) pe_int)
      (pss_cons (ps_if (pt_cmpR (op_neD hr.units) (pe_ix ix_list (pv 0) pe_int (fun _ _ => rfl)) (pe_lst pa_nil) (nomark _))
        (pss_one (ps_set (i := 3) scDraw.nd rfl (.inl rfl) (pe_ix ix_list (pe_ix ix_list (pv 0) pe_int (fun _ _ => rfl)) (pe_op op_modN (pe_ix ix_list (pv 0) pe_int (fun _ _ => rfl)) (pe_callB call_len_seq (by rfl) mL PySem.boot_len (pa_cons (pe_ix ix_list (pv 0) pe_int (fun _ _ => rfl)) pa_nil))) (fun _ _ => rfl)))) pss_nil)
      (pss_cons (ps_asg (pe_op op_add (pe_ix ix_list (pv 0) pe_int (fun _ _ => rfl)) pe_int) (pg_sub (pv 0) pe_int set_list))
      (pss_cons (ps_if (PW.pt (pw_and (pt_cmpR op_ge (pv 3) (pe_op op_pow pe_int pe_int) (nomark _)) (pw_and1 (pt_cmpR op_le (pe_ix ix_list (pv 0) pe_int (fun _ _ => rfl)) (pe_callB call_len_seq (by rfl) mL PySem.boot_len (pa_cons (pe_ix ix_list (pv 0) pe_int (fun _ _ => rfl)) pa_nil)) (nomark _)))))
        (pss_cons (ps_asg (pe_op op_fdivW (pv 3) (pv 1)) (pg_sub (pv 0) pe_int set_list))
        (pss_one (ps_ret (pe_op op_modN (pv 3) (pv 1))))) pss_nil)
      (pss_cons (ps_set (i := 4) scDraw.nd rfl (.inl rfl) (pe_op op_modN (pe_op op_pow (pe_op op_add (pe_op op_add (pe_op op_modN (pv 3) pe_int) (pe_op op_mul pe_int (pe_ix ix_list (pv 0) pe_int (fun _ _ => rfl)))) pe_int) pe_int) pe_int))
      (pss_one (ps_ret (pe_op op_modN (pe_op op_fdivW (pe_op op_modN (pe_op op_pow (pe_op op_add (pv 4) (pe_op op_mul pe_int (pe_ix ix_list (pv 0) pe_int (fun _ _ => rfl)))) pe_int) pe_int) pe_int) (pv 1)))))))))), ?_⟩
    -- feed[3] = feed[3] + 1
    refine ⟨_, rfl, _, _, _, _, rfl, rfl, SqL.of hF, atI_nat (j := 3) rfl, _, _, rfl, rfl, _, rfl, f, _, _, 3, rfl, rfl, hF, rfl, ?_⟩
    generalize hH1 : upd H f _ = H1
    have hF1 : H1 f = some (.lst [.ref s, .int i, .int q, .int (n + 1)]) := by
      rw [← hH1]
      exact upd_same
    have b1 : But f H H1 := fun b o nb e => by
      rw [← hH1, upd_ne nb]
      exact e
    -- if feed[2] > 0
    refine ⟨_, rfl, _, _, _, _, rfl, rfl, SqL.of hF1, atI_nat (j := 2) rfl, _, _, rfl, rfl, _, rfl, ?_⟩
    by_cases hq : 0 < q
    · refine yes (decide_eq_true hq) ?_
      refine ⟨_, rfl, _, _, _, _, rfl, rfl, SqL.of hF1, atI_nat (j := 2) rfl, _, rfl, _, _, rfl, rfl, (by omega : m ≠ 0), ?_⟩
      refine ⟨_, rfl, _, _, _, _, rfl, rfl, SqL.of hF1, atI_nat (j := 2) rfl, _, rfl, _, _, rfl, rfl, wide_div (b := 200) m0 m1 (by decide) (by decide), _, rfl, f, _, _, 2, rfl, rfl, hF1, rfl, ?_⟩
      refine ⟨_, rfl, k _ _ (b1.trans fun b o nb e => ?_) ⟨⟨i, q / m, n + 1, upd_same, i0, Int.ediv_nonneg q0 (by omega), by omega, by omega⟩, ?_, FD.ne, FD.few⟩ (fmod_lt m0).1 (fmod_lt m0).2⟩
      · rw [upd_ne nb]
        exact e
      · rw [upd_ne FD.ne]
        exact b1 _ _ FD.ne FD.sc
    · refine no (decide_eq_false hq) ?_
      have q1 : q = 0 := by omega
      subst q1
      have hs1 : H1 s = some (.lst (ns.map V.int)) := b1 _ _ FD.ne FD.sc
      -- cell = 5; if feed[0] != []
      refine ⟨_, rfl, _, _, _, _, rfl, rfl, SqL.of hF1, atI_nat (j := 0) rfl, Nat.zero_le _, fun t ht => ?_⟩
      have s2 : Same H1 (upd H1 t (.lst [])) := same_new ht
      have hF2 := s2 _ _ hF1
      have hs2 := s2 _ _ hs1
      have ht2 : (upd H1 t (.lst [])) t = some (.lst []) := upd_same
      have b2 : But f H (upd H1 t (.lst [])) := b1.trans (.of s2)
      generalize (upd H1 t (.lst [])) = H2 at *
      refine ⟨_, _, .lst (SqL.of hs2) (dpInts ns), .lst (SqL.of ht2) .nil, shaped_ints ns, by decide, _, rfl, ?_⟩
      have go : ∃ c : Int, (ns = [] ∧ c = 5) ∨ (ns ≠ [] ∧ atI (ns.map V.int) (i.fmod ((ns.map V.int).length : Int)) = some (.int c)) := by
        by_cases z : ns = []
        · exact ⟨5, .inl ⟨z, rfl⟩⟩
        · have l0 : 0 < ns.length := List.length_pos_iff.mpr z
          obtain ⟨h1, h2⟩ := fmod_lt (a := i) (b := (ns.length : Int)) (by omega)
          obtain ⟨v, hv, _⟩ := at_ints (L := ns) h1 h2
          refine ⟨v, .inr ⟨z, ?_⟩⟩
          rw [List.length_map]
          exact hv
      obtain ⟨c, hc⟩ := go
      have l63 : (ns.map V.int).length ≤ 63 := by rw [List.length_map]; exact FD.few
      have nx2 : ns = [] → ns.map PyData.int = [] := fun z => by rw [z]; rfl
      rcases hc with ⟨z, rfl⟩ | ⟨z, hc⟩
      · refine no (by rw [nx2 z]; rfl) ?_
        -- feed[1] = feed[1] + 1
        refine ⟨_, rfl, _, _, _, _, rfl, rfl, SqL.of hF2, atI_nat (j := 1) rfl, _, _, rfl, rfl, _, rfl, f, _, _, 1, rfl, rfl, hF2, rfl, ?_⟩
        generalize hH3 : upd H2 f _ = H3
        have hF3 : H3 f = some (.lst [.ref s, .int (i + 1), .int 0, .int (n + 1)]) := by
          rw [← hH3]
          exact upd_same
        have hs3 : H3 s = some (.lst (ns.map V.int)) := by
          rw [← hH3, upd_ne FD.ne]
          exact hs2
        have b3 : But f H H3 := b2.trans fun b o nb e => by
          rw [← hH3, upd_ne nb]
          exact e
        have f3 : Fd H3 f s ns (B + 1) := ⟨⟨i + 1, 0, n + 1, hF3, by omega, by decide, by omega, by omega⟩, hs3, FD.ne, FD.few⟩
        have big : (10 : Int) ^ (18 : Int).toNat = 1000000000000000000 := by decide
        have c1 := fmod_lt (a := (5 : Int)) (b := 2147483629) (by decide)
        have hp : (2 : Int) ^ 63 = 9223372036854775808 := by decide
        have hp2 : (2 : Int) ^ 40 = 1099511627776 := by decide
        have w1 : CPow (((5 : Int)).fmod 2147483629 + 7919 * (n + 1) + 1) 5 := small_pow (by omega) (by omega)
        have c2 := fmod_lt (a := (((5 : Int)).fmod 2147483629 + 7919 * (n + 1) + 1) ^ (5 : Int).toNat) (b := 2147483647) (by decide)
        have w2 : CPow (((((5 : Int)).fmod 2147483629 + 7919 * (n + 1) + 1) ^ (5 : Int).toNat).fmod 2147483647 + 104729 * (n + 1)) 5 := small_pow (by omega) (by omega)
        refine ⟨_, rfl, _, _, rfl, rfl, ⟨by decide, by decide, by decide⟩, _, _, rfl, rfl, _, rfl, ?_⟩
        by_cases hc1 : (10 : Int) ^ (18 : Int).toNat ≤ (5 : Int)
        · refine yes (decide_eq_true hc1) ?_
          refine ⟨_, rfl, _, _, _, _, rfl, rfl, SqL.of hF3, atI_nat (j := 1) rfl, _, rfl, _, _, _, _, rfl, rfl, SqL.of hF3, atI_nat (j := 0) rfl, s, _, rfl, .inl (SqL.of hs3), _, _, rfl, rfl, _, rfl, ?_⟩
          by_cases hc2 : i + 1 ≤ ((ns.map V.int).length : Int)
          · refine yes (decide_eq_true hc2) ?_
            refine ⟨_, rfl, _, rfl, _, _, rfl, rfl, wide_div (b := 200) m0 m1 (by decide) (by decide), _, rfl, f, _, _, 2, rfl, rfl, hF3, rfl, ?_⟩
            refine ⟨_, rfl, _, rfl, _, _, rfl, rfl, (by omega : m ≠ 0), ?_⟩
            refine k _ _ (b3.trans fun b o nb e => ?_) ⟨⟨i + 1, (5 : Int) / m, n + 1, upd_same, by omega, Int.ediv_nonneg (by omega) (by omega), by omega, by omega⟩, ?_, FD.ne, FD.few⟩ (fmod_lt m0).1 (fmod_lt m0).2
            · rw [upd_ne nb]
              exact e
            · rw [upd_ne FD.ne]
              exact hs3
          · refine no (decide_eq_false hc2) ?_
            refine ⟨_, rfl, _, _, rfl, rfl, nz1, _, rfl, _, _, _, _, rfl, rfl, SqL.of hF3, atI_nat (j := 3) rfl, _, _, rfl, rfl, .inl ⟨by decide, by decide⟩, _, _, rfl, rfl, _, _, rfl, rfl, _, _, rfl, rfl, w1, _, _, rfl, rfl, nz2, ?_⟩
            refine ⟨_, rfl, _, rfl, _, _, _, _, rfl, rfl, SqL.of hF3, atI_nat (j := 3) rfl, _, _, rfl, rfl, .inl ⟨by decide, by decide⟩, _, _, rfl, rfl, _, _, rfl, rfl, w2, _, _, rfl, rfl, nz3, _, _, rfl, rfl, wide_div (b := 7) (by decide) (by decide) (by decide) (by decide), _, rfl, _, _, rfl, rfl, (by omega : m ≠ 0), ?_⟩
            exact k _ _ b3 f3 (fmod_lt m0).1 (fmod_lt m0).2
        · refine no (decide_eq_false hc1) ?_
          refine ⟨_, rfl, _, _, rfl, rfl, nz1, _, rfl, _, _, _, _, rfl, rfl, SqL.of hF3, atI_nat (j := 3) rfl, _, _, rfl, rfl, .inl ⟨by decide, by decide⟩, _, _, rfl, rfl, _, _, rfl, rfl, _, _, rfl, rfl, w1, _, _, rfl, rfl, nz2, ?_⟩
          refine ⟨_, rfl, _, rfl, _, _, _, _, rfl, rfl, SqL.of hF3, atI_nat (j := 3) rfl, _, _, rfl, rfl, .inl ⟨by decide, by decide⟩, _, _, rfl, rfl, _, _, rfl, rfl, w2, _, _, rfl, rfl, nz3, _, _, rfl, rfl, wide_div (b := 7) (by decide) (by decide) (by decide) (by decide), _, rfl, _, _, rfl, rfl, (by omega : m ≠ 0), ?_⟩
          exact k _ _ b3 f3 (fmod_lt m0).1 (fmod_lt m0).2
      · have l0 : 0 < ns.length := List.length_pos_iff.mpr z
        refine yes (by cases ns with | nil => exact absurd rfl z | cons _ _ => rfl) ?_
        refine ⟨_, rfl, _, _, _, _, rfl, rfl, SqL.of hF2, atI_nat (j := 0) rfl, _, rfl, _, _, _, _, rfl, rfl, SqL.of hF2, atI_nat (j := 1) rfl, _, rfl, _, _, _, _, rfl, rfl, SqL.of hF2, atI_nat (j := 0) rfl, s, _, rfl, .inl (SqL.of hs2), _, _, rfl, rfl, (by rw [List.length_map]; omega), _, _, _, _, rfl, rfl, SqL.of hs2, hc, ?_⟩
        -- feed[1] = feed[1] + 1
        refine ⟨_, rfl, _, _, _, _, rfl, rfl, SqL.of hF2, atI_nat (j := 1) rfl, _, _, rfl, rfl, _, rfl, f, _, _, 1, rfl, rfl, hF2, rfl, ?_⟩
        generalize hH3 : upd H2 f _ = H3
        have hF3 : H3 f = some (.lst [.ref s, .int (i + 1), .int 0, .int (n + 1)]) := by
          rw [← hH3]
          exact upd_same
        have hs3 : H3 s = some (.lst (ns.map V.int)) := by
          rw [← hH3, upd_ne FD.ne]
          exact hs2
        have b3 : But f H H3 := b2.trans fun b o nb e => by
          rw [← hH3, upd_ne nb]
          exact e
        have f3 : Fd H3 f s ns (B + 1) := ⟨⟨i + 1, 0, n + 1, hF3, by omega, by decide, by omega, by omega⟩, hs3, FD.ne, FD.few⟩
        have big : (10 : Int) ^ (18 : Int).toNat = 1000000000000000000 := by decide
        have c1 := fmod_lt (a := c) (b := 2147483629) (by decide)
        have hp : (2 : Int) ^ 63 = 9223372036854775808 := by decide
        have hp2 : (2 : Int) ^ 40 = 1099511627776 := by decide
        have w1 : CPow ((c).fmod 2147483629 + 7919 * (n + 1) + 1) 5 := small_pow (by omega) (by omega)
        have c2 := fmod_lt (a := ((c).fmod 2147483629 + 7919 * (n + 1) + 1) ^ (5 : Int).toNat) (b := 2147483647) (by decide)
        have w2 : CPow ((((c).fmod 2147483629 + 7919 * (n + 1) + 1) ^ (5 : Int).toNat).fmod 2147483647 + 104729 * (n + 1)) 5 := small_pow (by omega) (by omega)
        refine ⟨_, rfl, _, _, rfl, rfl, ⟨by decide, by decide, by decide⟩, _, _, rfl, rfl, _, rfl, ?_⟩
        by_cases hc1 : (10 : Int) ^ (18 : Int).toNat ≤ c
        · refine yes (decide_eq_true hc1) ?_
          refine ⟨_, rfl, _, _, _, _, rfl, rfl, SqL.of hF3, atI_nat (j := 1) rfl, _, rfl, _, _, _, _, rfl, rfl, SqL.of hF3, atI_nat (j := 0) rfl, s, _, rfl, .inl (SqL.of hs3), _, _, rfl, rfl, _, rfl, ?_⟩
          by_cases hc2 : i + 1 ≤ ((ns.map V.int).length : Int)
          · refine yes (decide_eq_true hc2) ?_
            refine ⟨_, rfl, _, rfl, _, _, rfl, rfl, wide_div (b := 200) m0 m1 (by decide) (by decide), _, rfl, f, _, _, 2, rfl, rfl, hF3, rfl, ?_⟩
            refine ⟨_, rfl, _, rfl, _, _, rfl, rfl, (by omega : m ≠ 0), ?_⟩
            refine k _ _ (b3.trans fun b o nb e => ?_) ⟨⟨i + 1, c / m, n + 1, upd_same, by omega, Int.ediv_nonneg (by omega) (by omega), by omega, by omega⟩, ?_, FD.ne, FD.few⟩ (fmod_lt m0).1 (fmod_lt m0).2
            · rw [upd_ne nb]
              exact e
            · rw [upd_ne FD.ne]
              exact hs3
          · refine no (decide_eq_false hc2) ?_
            refine ⟨_, rfl, _, _, rfl, rfl, nz1, _, rfl, _, _, _, _, rfl, rfl, SqL.of hF3, atI_nat (j := 3) rfl, _, _, rfl, rfl, .inl ⟨by decide, by decide⟩, _, _, rfl, rfl, _, _, rfl, rfl, _, _, rfl, rfl, w1, _, _, rfl, rfl, nz2, ?_⟩
            refine ⟨_, rfl, _, rfl, _, _, _, _, rfl, rfl, SqL.of hF3, atI_nat (j := 3) rfl, _, _, rfl, rfl, .inl ⟨by decide, by decide⟩, _, _, rfl, rfl, _, _, rfl, rfl, w2, _, _, rfl, rfl, nz3, _, _, rfl, rfl, wide_div (b := 7) (by decide) (by decide) (by decide) (by decide), _, rfl, _, _, rfl, rfl, (by omega : m ≠ 0), ?_⟩
            exact k _ _ b3 f3 (fmod_lt m0).1 (fmod_lt m0).2
        · refine no (decide_eq_false hc1) ?_
          refine ⟨_, rfl, _, _, rfl, rfl, nz1, _, rfl, _, _, _, _, rfl, rfl, SqL.of hF3, atI_nat (j := 3) rfl, _, _, rfl, rfl, .inl ⟨by decide, by decide⟩, _, _, rfl, rfl, _, _, rfl, rfl, _, _, rfl, rfl, w1, _, _, rfl, rfl, nz2, ?_⟩
          refine ⟨_, rfl, _, rfl, _, _, _, _, rfl, rfl, SqL.of hF3, atI_nat (j := 3) rfl, _, _, rfl, rfl, .inl ⟨by decide, by decide⟩, _, _, rfl, rfl, _, _, rfl, rfl, w2, _, _, rfl, rfl, nz3, _, _, rfl, rfl, wide_div (b := 7) (by decide) (by decide) (by decide) (by decide), _, rfl, _, _, rfl, rfl, (by omega : m ≠ 0), ?_⟩
          exact k _ _ b3 f3 (fmod_lt m0).1 (fmod_lt m0).2
end
/-- where a def stands, and its promise -/
structure At (P : Program) (w : World) (K : PySem.W.Frag) (mg : Str → Option Value) (base : Heap) (n : Nat) (name : Str) (ps : List Str) (sp : Sp) (f : Addr) (fd : FuncData) : Prop where
  G : FnOk P w K mg base CX0 n f fd ps sp
  b : Binds K fd ps []
  g : mg name = some (.ref f)
  k : PySem.W.keepIn K (.ref f) = true
section
variable {P : Program} {w : World} {K : PySem.W.Frag} {mg : Str → Option Value} {base : Heap}
/-! a drawn FRACTION -/
theorem scFrac : FnScope ["_law_feed_here", "_law_above", "_law_below"] ["_law_feed_here"] (defScope sFrac) := ⟨rfl, rfl, rfl, by decide +kernel, rfl, by decide +kernel, by decide +kernel⟩
def spFrac : Sp := fun vs H Q _ => ∃ (f s : Addr) (ns : List Int) (B : Int), vs = [.ref f] ∧ Fd H f s ns B ∧ B < 2 ^ 39 ∧
  ∀ H' p x, But f H H' → H p = none → H' p = some (.tup (tf x)) → Fr.Ok 20 x → Fd H' f s ns (B + 6) → Q (.ref p) H'
theorem ok_frac {f fD fM : Addr} {fd fdD fdM : FuncData} (F : Fun K "_law_fraction" "_law_fraction" sFrac f fd) (D : At P w K mg base 1 "_law_draw" ["_law_feed_here", "_law_many"] spDraw fD fdD)
    (M : At P w K mg base 2 "_law_made" ["_law_a", "_law_b"] spRatio fM fdM) : FnOk P w K mg base CX0 3 f fd ["_law_feed_here"] spFrac := by
  refine F.ok scFrac (fun vs H Q E h => ?_) (fun cdv A outer s0 H vs Q E hr h => ?_)
  · obtain ⟨f, s, ns, B, rfl, _⟩ := h
    rfl
  · obtain ⟨f, s, ns, B, rfl, FD, hB, k⟩ := h
    have hr1 : Room 1 _ := hr.mono (by decide)
    refine ⟨_, pss_cons (ps_set (i := 1) scFrac.nd rfl (.inl rfl) (pe_ix ix_list (pe_lst (pa_cons (pe_op op_sub (pe_call D.G hr1 (by rfl) D.g D.k D.b .nil pass0 (pa_cons (pv 0) (pa_cons pe_int pa_nil))) pe_int)
          (pa_cons (pe_op op_sub (pe_call D.G hr1 (by rfl) D.g D.k D.b .nil pass0 (pa_cons (pv 0) (pa_cons pe_int pa_nil))) pe_int) (pa_cons pe_int (pa_cons pe_int (pa_cons (pe_un un_neg pe_int) pa_nil))))))
        (pe_call D.G hr1 (by rfl) D.g D.k D.b .nil pass0 (pa_cons (pv 0) (pa_cons pe_int pa_nil))) (fun _ _ => rfl)))
      (pss_cons (ps_set (i := 2) scFrac.nd rfl (.inl rfl) (pe_ix ix_list (pe_lst (pa_cons pe_int (pa_cons (pe_op op_add pe_int (pe_call D.G hr1 (by rfl) D.g D.k D.b .nil pass0 (pa_cons (pv 0) (pa_cons pe_int pa_nil))))
          (pa_cons (pe_op op_add pe_int (pe_call D.G hr1 (by rfl) D.g D.k D.b .nil pass0 (pa_cons (pv 0) (pa_cons pe_int pa_nil)))) pa_nil))))
        (pe_call D.G hr1 (by rfl) D.g D.k D.b .nil pass0 (pa_cons (pv 0) (pa_cons pe_int pa_nil))) (fun _ _ => rfl)))
      (pss_one (ps_ret (pe_call M.G hr (by rfl) M.g M.k M.b .nil pass0 (pa_cons (pv 1) (pa_cons (pv 2) pa_nil)))))), ?_⟩
    have e39 : (2 : Int) ^ 39 = 549755813888 := by decide
    have e40 : (2 : Int) ^ 40 = 1099511627776 := by decide
    refine ⟨_, rfl, f, s, ns, B, 13, rfl, FD, by decide, by decide, by omega, fun H1 d1 b1 F1 l1 u1 => ?_⟩
    refine ⟨_, _, rfl, rfl, _, rfl, f, s, ns, B + 1, 1999999, rfl, F1, by decide, by decide, by omega, fun H2 d2 b2 F2 l2 u2 => ?_⟩
    refine ⟨_, _, rfl, rfl, 1, rfl, (by show 5 ≤ sizeLine; decide), fun t ht => ?_⟩
    have s3 := same_new (o := .lst [.int (d1 - 6), .int (d2 - 999999), .int 0, .int 1, .int (-1)]) ht
    have F3 := F2.keep s3
    refine ⟨_, rfl, f, s, ns, B + 1 + 1, 5, rfl, F3, by decide, by decide, by omega, fun H4 d4 b4 F4 l4 u4 => ?_⟩
    have ht4 : H4 t = some (.lst [.int (d1 - 6), .int (d2 - 999999), .int 0, .int 1, .int (-1)]) := b4 _ _ (F2.ne_none ht) upd_same
    obtain ⟨v, hv, mv⟩ := at_ints (L := [d1 - 6, d2 - 999999, 0, 1, -1]) l4 u4
    have bv : v.natAbs < 2 ^ 20 := by
      have e20 : 2 ^ 20 = 1048576 := by decide
      simp only [List.mem_cons, List.not_mem_nil, or_false] at mv
      omega
    refine ⟨t, _, _, _, rfl, rfl, SqL.of ht4, hv, ?_⟩
    have bb4 : But f H H4 := ((b1.trans b2).trans (.of s3)).trans b4
    refine ⟨_, rfl, f, s, ns, B + 1 + 1 + 1, 12, rfl, F4, by decide, by decide, by omega, fun H5 d5 b5 F5 l5 u5 => ?_⟩
    refine ⟨_, _, rfl, rfl, _, rfl, f, s, ns, B + 1 + 1 + 1 + 1, 999999, rfl, F5, by decide, by decide, by omega, fun H6 d6 b6 F6 l6 u6 => ?_⟩
    refine ⟨_, _, rfl, rfl, (by show 3 ≤ sizeLine; decide), fun t2 ht2 => ?_⟩
    have s7 := same_new (o := .lst [.int 1, .int (1 + d5), .int (1 + d6)]) ht2
    refine ⟨_, rfl, f, s, ns, B + 1 + 1 + 1 + 1 + 1, 3, rfl, F6.keep s7, by decide, by decide, by omega, fun H8 d8 b8 F8 l8 u8 => ?_⟩
    have ht8 : H8 t2 = some (.lst [.int 1, .int (1 + d5), .int (1 + d6)]) := b8 _ _ (F6.ne_none ht2) upd_same
    obtain ⟨u, hu, mu⟩ := at_ints (L := [1, 1 + d5, 1 + d6]) l8 u8
    have bu : 0 < u ∧ u.natAbs < 2 ^ 20 := by
      have e20 : 2 ^ 20 = 1048576 := by decide
      simp only [List.mem_cons, List.not_mem_nil, or_false] at mu
      omega
    refine ⟨t2, _, _, _, rfl, rfl, SqL.of ht8, hu, ?_⟩
    have bb8 : But f H H8 := (((bb4.trans b5).trans b6).trans (.of s7)).trans b8
    refine ⟨_, rfl, _, rfl, v, u, rfl, by omega, Fr.bmono bu.2 (by decide), fun H9 p N => ?_⟩
    have u0 : u ≠ 0 := by omega
    refine k H9 p _ (bb8.trans (.of N.same)) (but_free bb8 F8 N.free) N.at_ (Fr.mk_ok u0 bv bu.2) ?_
    have F9 := F8.keep N.same
    have e : B + 1 + 1 + 1 + 1 + 1 + 1 = B + 6 := by omega
    rw [e] at F9
    exact F9
end
theorem Fd.mono {f s : Addr} {ns : List Int} {B C : Int} {H : Hp} (F : Fd H f s ns B) (h : B ≤ C) : Fd H f s ns C := by
  obtain ⟨i, q, n, e, h1, h2, h3, h4⟩ := F.ex
  exact ⟨⟨i, q, n, e, h1, h2, h3, by omega⟩, F.sc, F.ne, F.few⟩
theorem Fd.put {f s : Addr} {ns : List Int} {B : Int} {H : Hp} {D : Addr} {o : HO} (F : Fd H f s ns B) (h1 : D ≠ f) (h2 : D ≠ s) : Fd (upd H D o) f s ns B := by
  obtain ⟨i, q, n, e, h⟩ := F.ex
  exact ⟨⟨i, q, n, by rw [upd_ne h1.symm]; exact e, h⟩, by rw [upd_ne h2.symm]; exact F.sc, F.ne, F.few⟩
theorem Fd.ne_s {f s : Addr} {ns : List Int} {B : Int} {H : Hp} {p : Addr} (F : Fd H f s ns B) (h : H p = none) : p ≠ s := fun z => by
  rw [z, F.sc] at h
  cases h
structure AtG (P : Program) (w : World) (K : PySem.W.Frag) (mg : Str → Option Value) (base : Heap) (n : Nat) (name : Str) (ps : List Str) (sp : Sp) (f : Addr) (fd : FuncData) : Prop where
  G : FnG P w K mg base n f fd ps sp
  b : Binds K fd ps []
  g : mg name = some (.ref f)
  k : PySem.W.keepIn K (.ref f) = true
end K1

namespace K1
open PySem PySem.Spec PyProof.Rows L2 G Th
def isNum : PyData → Bool := fun d => match d with | .int _ => true | _ => false
def inAZ (c : Nat) : Bool := decide (97 ≤ c) && decide (c ≤ 122)
def isWord : PyData → Bool := fun d => match d with | .str x => decide (1 ≤ x.length) && decide (x.length ≤ 8) && x.cps.toList.all inAZ | _ => false
def isFr : PyData → Bool := fun d => match d with | .tuple [.int a, .int b] => decide (0 < b) && decide (Int.gcd a b = 1) | _ => false
abbrev letters : Str := "abcdefghijklmnopqrstuvwxyz"
def spIs (g : PyData → Bool) : Sp := fun vs H Q _ => ∃ (f : Addr) (v : V) (d : PyData) (w n : Nat), vs = [v] ∧ Tr f H v d ∧ Fine w n d ∧ w ≤ 40000 ∧ n ≤ 40 ∧ ∀ H', Same H H' → Q (.bl (g d)) H'
theorem letters_in (c : Nat) : decide (c ∈ letters.cps.toList) = inAZ c := by
  have e : letters.cps.toList = [97, 98, 99, 100, 101, 102, 103, 104, 105, 106, 107, 108, 109, 110, 111, 112, 113, 114, 115, 116, 117, 118, 119, 120, 121, 122] := by decide +kernel
  rw [e, inAZ, Bool.eq_iff_iff, Bool.and_eq_true, decide_eq_true_iff, decide_eq_true_iff, decide_eq_true_iff]
  simp only [List.mem_cons, List.not_mem_nil, or_false]
  omega
theorem wt_mem : ∀ {ds : List PyData} {d : PyData}, d ∈ ds → d.weight + 1 ≤ PyData.weightAll ds
  | x :: xs, d, h => by
    simp only [PyData.weightAll]
    rcases List.mem_cons.mp h with rfl | h
    · omega
    · have := wt_mem h
      omega
theorem dp_mem : ∀ {ds : List PyData} {d : PyData}, d ∈ ds → d.depth ≤ PyData.depthAll ds
  | x :: xs, d, h => by
    simp only [PyData.depthAll]
    rcases List.mem_cons.mp h with rfl | h
    · omega
    · have := dp_mem h
      omega
theorem dp_all : ∀ {ds : List PyData} {k : Nat}, (∀ d ∈ ds, d.depth ≤ k) → PyData.depthAll ds ≤ k
  | [], k, _ => by simp [PyData.depthAll]
  | x :: xs, k, h => by
    simp only [PyData.depthAll]
    have h1 := h x (List.mem_cons_self ..)
    have h2 := dp_all (ds := xs) fun d hd => h d (List.mem_cons_of_mem _ hd)
    omega
theorem _root_.Th.Fine.item {w n : Nat} {ds : List PyData} {d : PyData} (h : Fine w n (.tuple ds)) (hd : d ∈ ds) : Fine w n d := by
  have h1 : okAll ds = true := h.ok
  have h2 : PyData.weightAll ds ≤ w := h.wt
  have h3 : PyData.depth (.tuple ds) ≤ n := h.dp
  have h4 := wt_mem hd
  have h5 := dp_mem hd
  simp only [PyData.depth] at h3
  exact ⟨okAll_iff.mp h1 d hd, by omega, by omega⟩
theorem shaped_list {es : List PyData} (h : ∀ d ∈ es, okD d = true ∧ d.depth ≤ 40) : SeqAt.shaped (.list es) = true := by
  have o : okD (.list es) = true := okAll_iff.mpr fun d hd => (h d hd).1
  have p := dp_all fun d hd => (h d hd).2
  refine Fine.shaped (w := PyData.weight (.list es)) (n := 64) ⟨o, Nat.le_refl _, ?_⟩ (Nat.le_refl _)
  simp only [PyData.depth]
  omega
theorem lt1 (a b : Nat) : ([a] < [b]) ↔ a < b := by
  simp [List.cons_lt_cons_iff]
theorem dpStrs {K : PySem.W.Frag} {H : Hp} : ∀ cs : List Nat, DpAll K H (cs.map fun c => V.str ⟨#[c]⟩) (cs.map fun c => PyData.str ⟨#[c]⟩)
  | [] => .nil
  | c :: r => .cons (.str _) (dpStrs r)
theorem eq_nil (es : List PyData) : PyData.eqv (.list es) (.list []) = es.isEmpty := by cases es <;> rfl
section
variable {P : Program} {w : World} {K : PySem.W.Frag} {mg : Str → Option Value} {base : Heap}
theorem scNum : FnScope ["thing"] ["thing"] (defScope sNum) := ⟨rfl, rfl, rfl, by decide +kernel, rfl, by decide +kernel, by decide +kernel⟩
abbrev scNumN : List Str := ["thing"]
abbrev scNumS : Scope := defScope sNum
theorem scLNum : FnScope ["_law_thing"] ["_law_thing"] (defScope sLNum) := ⟨rfl, rfl, rfl, by decide +kernel, rfl, by decide +kernel, by decide +kernel⟩
abbrev scLNumN : List Str := ["_law_thing"]
abbrev scLNumS : Scope := defScope sLNum
theorem scWord : FnScope ["thing", "sign"] ["thing"] (defScope sWord) := ⟨rfl, rfl, rfl, by decide +kernel, rfl, by decide +kernel, by decide +kernel⟩
abbrev scWordN : List Str := ["thing", "sign"]
abbrev scWordS : Scope := defScope sWord
theorem scIsFr : FnScope ["thing", "a", "b"] ["thing"] (defScope sIsFr) := ⟨rfl, rfl, rfl, by decide +kernel, rfl, by decide +kernel, by decide +kernel⟩
abbrev scIsFrN : List Str := ["thing", "a", "b"]
abbrev scIsFrS : Scope := defScope sIsFr
theorem scLFr : FnScope ["_law_thing", "_law_one"] ["_law_thing"] (defScope sLFr) := ⟨rfl, rfl, rfl, by decide +kernel, rfl, by decide +kernel, by decide +kernel⟩
abbrev scLFrN : List Str := ["_law_thing", "_law_one"]
abbrev scLFrS : Scope := defScope sLFr
theorem scLWord : FnScope ["_law_thing", "_law_sign"] ["_law_thing"] (defScope sLWord) := ⟨rfl, rfl, rfl, by decide +kernel, rfl, by decide +kernel, by decide +kernel⟩
abbrev scLWordN : List Str := ["_law_thing", "_law_sign"]
abbrev scLWordS : Scope := defScope sLWord
theorem ok_num {f : Addr} {fd : FuncData} (F : Fun K "is_number" "is_number" sNum f fd) (m_isinstance : mg "isinstance" = none) (m_int : mg "int" = none) (m_bool : mg "bool" = none) : FnOk P w K mg base CX0 1 f fd ["thing"] (spIs isNum) := by
  refine F.ok scNum (fun vs H Q E h => ?_) (fun cdv A outer s H vs Q E hr h => ?_)
  · obtain ⟨f, v, d, w, n, rfl, _⟩ := h
    rfl
  · obtain ⟨f, v, d, w, n, rfl, hT, hF, hw, hn, q⟩ := h
    refine ⟨_, (pss_one (ps_ret (pe_and (pe_callB call_isi (by rfl) m_isinstance (by decide +kernel) (pa_cons (pv 0) (pa_cons (pe_bltn (v := .ty "int") (by rfl) m_int (by decide +kernel) rfl) pa_nil))) (pe_one (pe_not (pe_callB call_isi (by rfl) m_isinstance (by decide +kernel) (pa_cons (pv 0) (pa_cons (pe_bltn (v := .ty "bool") (by rfl) m_bool (by decide +kernel) rfl) pa_nil)))))))), ?_⟩
    refine ⟨_, rfl, _, _, _, _, _, rfl, .ty _, hT.tyx, kit_ty (kit_int _), _, rfl, ?_⟩
    cases hT with
    | int i => exact ⟨_, rfl, _, _, _, _, _, rfl, .ty _, .base (.int i), kit_ty (kit_bool (.int i)), _, rfl, q _ (Same.refl _)⟩
    | bl b => exact ⟨_, rfl, _, _, _, _, _, rfl, .ty _, .base (.bl b), kit_ty (kit_bool (.bool b)), _, rfl, q _ (Same.refl _)⟩
    | non => exact q _ (Same.refl _)
    | str x => exact q _ (Same.refl _)
    | lst _ _ _ => exact q _ (Same.refl _)
    | tup _ _ _ => exact q _ (Same.refl _)
theorem ok_lnum {f : Addr} {fd : FuncData} (F : Fun K "_law_is_number" "_law_is_number" sLNum f fd) (m_isinstance : mg "isinstance" = none) (m_int : mg "int" = none) (m_bool : mg "bool" = none) : FnOk P w K mg base CX0 1 f fd ["_law_thing"] (spIs isNum) := by
  refine F.ok scLNum (fun vs H Q E h => ?_) (fun cdv A outer s H vs Q E hr h => ?_)
  · obtain ⟨f, v, d, w, n, rfl, _⟩ := h
    rfl
  · obtain ⟨f, v, d, w, n, rfl, hT, hF, hw, hn, q⟩ := h
    refine ⟨_, (pss_one (ps_ret (pe_and (pe_callB call_isi (by rfl) m_isinstance (by decide +kernel) (pa_cons (pv 0) (pa_cons (pe_bltn (v := .ty "int") (by rfl) m_int (by decide +kernel) rfl) pa_nil))) (pe_one (pe_not (pe_callB call_isi (by rfl) m_isinstance (by decide +kernel) (pa_cons (pv 0) (pa_cons (pe_bltn (v := .ty "bool") (by rfl) m_bool (by decide +kernel) rfl) pa_nil)))))))), ?_⟩
    refine ⟨_, rfl, _, _, _, _, _, rfl, .ty _, hT.tyx, kit_ty (kit_int _), _, rfl, ?_⟩
    cases hT with
    | int i => exact ⟨_, rfl, _, _, _, _, _, rfl, .ty _, .base (.int i), kit_ty (kit_bool (.int i)), _, rfl, q _ (Same.refl _)⟩
    | bl b => exact ⟨_, rfl, _, _, _, _, _, rfl, .ty _, .base (.bl b), kit_ty (kit_bool (.bool b)), _, rfl, q _ (Same.refl _)⟩
    | non => exact q _ (Same.refl _)
    | str x => exact q _ (Same.refl _)
    | lst _ _ _ => exact q _ (Same.refl _)
    | tup _ _ _ => exact q _ (Same.refl _)
theorem ok_word {f : Addr} {fd : FuncData} (F : Fun K "is_word" "is_word" sWord f fd) (m_isinstance : mg "isinstance" = none) (m_str : mg "str" = none) (m_len : mg "len" = none) (m_all : mg "all" = none)
    {tk : Tok} {tl : Tok} (gLW : mg "LONGEST_WORD" = some (.int 8 tk)) (gSL : mg "SMALL_LETTERS" = some (.str letters tl)) : FnOk P w K mg base CX0 1 f fd ["thing"] (spIs isWord) := by
  refine F.ok scWord (fun vs H Q E h => ?_) (fun cdv A outer s H vs Q E hr h => ?_)
  · obtain ⟨f, v, d, w, n, rfl, _⟩ := h
    rfl
  · obtain ⟨f, v, d, w, n, rfl, hT, hF, hw, hn, q⟩ := h
    refine ⟨_, (pss_cons (ps_if (PW.pt (pw_or (pt_not (pt_val (pe_callB call_isi (by rfl) m_isinstance (by decide +kernel) (pa_cons (pv 0) (pa_cons (pe_bltn (v := .ty "str") (by rfl) m_str (by decide +kernel) rfl) pa_nil))))) (pw_or1 (pt_not (pt_chain op_le op_le pe_int (pe_callB call_len_str (by rfl) m_len PySem.boot_len (pa_cons (pv 0) pa_nil)) (pe_glob (v := .int 8) (by rfl) gLW ⟨_, rfl⟩)))))) (pss_one (ps_ret pe_bl)) pss_nil)
      (pss_one (ps_ret (pe_callB (cr_all rfl) (by rfl) m_all (by decide +kernel) (pa_cons (pe_lc (own := [("sign", 1)]) (g := gName 1) (tt := tYes) rfl scWord.nd (pi_str (pv 0)) (blkOk_by (own := [("sign", 1)]) (N := scWordN) (sc := scWordS) (by decide +kernel)) (fun _ _ _ _ _ => (pg_name (i := 1) scWord.nd rfl (.inl rfl))) (fun _ _ _ _ _ => pts_nil) (fun _ _ _ _ _ => (pe_cmpR op_in_sign (pv 1) (pe_glob (v := .str letters) (by rfl) gSL ⟨_, rfl⟩) (by rfl)))) pa_nil))))), ?_⟩
    refine ⟨_, rfl, _, _, _, _, _, rfl, .ty _, hT.tyx, kit_ty (kit_str _), _, rfl, ?_⟩
    cases hT with
    | int i => exact q _ (Same.refl _)
    | bl b => exact q _ (Same.refl _)
    | non => exact q _ (Same.refl _)
    | lst _ _ _ => exact q _ (Same.refl _)
    | tup _ _ _ => exact q _ (Same.refl _)
    | str x =>
      have lx : x.length ≤ sizeLine := Nat.le_trans (show x.length ≤ 40000 from Nat.le_trans hF.wt hw) (by decide)
      refine ⟨_, rfl, x, rfl, lx, _, _, rfl, rfl, _, rfl, ?_⟩
      have lf : isWord (.str x) = (decide (1 ≤ x.length) && decide (x.length ≤ 8) && x.cps.toList.all inAZ) := rfl
      by_cases h1 : (1 : Int) ≤ (x.length : Int)
      · refine yes (decide_eq_true h1) ?_
        refine ⟨_, _, rfl, rfl, _, rfl, ?_⟩
        by_cases h8 : (x.length : Int) ≤ 8
        · refine no (by rw [decide_eq_true h8]; rfl) ?_
          refine ⟨_, rfl, x, rfl, fun D hD => ?_⟩
          have sx : x.cps.size ≤ 8 := by
            have : x.length = x.cps.size := rfl
            omega
          refine lc_it walk_str (fun i H' => H' = upd H D (.lst ((x.cps.toList.take i).map fun c => V.bl (inAZ c)))) rfl (fun _ _ _ _ => trivial) ?_ ?_
          · rintro i y H1 H2 hi rfl ⟨rfl, c, hc, rfl⟩
            refine ⟨rfl, ?_⟩
            refine ⟨_, rfl, c, letters, rfl, rfl, _, upd_same, ?_, ?_⟩
            · rw [List.length_map, List.length_take]
              exact Nat.lt_of_le_of_lt (Nat.min_le_left _ _) (Nat.lt_trans hi (Nat.lt_of_le_of_lt sx (by decide)))
            · have hc' : x.cps.toList[i]? = some c := by rw [Array.getElem?_toList]; exact hc
              rw [letters_in, List.take_add_one, hc', List.map_append, upd_upd]
              rfl
          · rintro H1 rfl
            have e : x.cps.toList.take x.cps.size = x.cps.toList := List.take_of_length_le (by simp)
            refine ⟨D, x.cps.toList.map inAZ, rfl, ?_, ?_⟩
            · refine SqL.of ?_
              rw [upd_same, e, List.map_map]
              rfl
            · have e2 : (x.cps.toList.map inAZ).all id = isWord (.str x) := by
                rw [lf, decide_eq_true (show 1 ≤ x.length by omega), decide_eq_true (show x.length ≤ 8 by omega), List.all_map]
                rfl
              rw [e2]
              exact q _ (same_new hD)
        · refine yes (by rw [decide_eq_false h8]; rfl) ?_
          have e : isWord (.str x) = false := by rw [lf, decide_eq_false (show ¬ x.length ≤ 8 by omega), Bool.and_false, Bool.false_and]
          rw [e] at q
          exact q _ (Same.refl _)
      · refine no (decide_eq_false h1) ?_
        have e : isWord (.str x) = false := by rw [lf, decide_eq_false (show ¬ 1 ≤ x.length by omega), Bool.false_and, Bool.false_and]
        rw [e] at q
        exact ⟨_, rfl, q _ (Same.refl _)⟩
theorem ok_lword {f : Addr} {fd : FuncData} (F : Fun K "_law_is_word" "_law_is_word" sLWord f fd) (m_isinstance : mg "isinstance" = none) (m_str : mg "str" = none) (m_len : mg "len" = none) : FnOk P w K mg base CX0 1 f fd ["_law_thing"] (spIs isWord) := by
  refine F.ok scLWord (fun vs H Q E h => ?_) (fun cdv A outer s H vs Q E hr h => ?_)
  · obtain ⟨f, v, d, w, n, rfl, _⟩ := h
    rfl
  · obtain ⟨f, v, d, w, n, rfl, hT, hF, hw, hn, q⟩ := h
    refine ⟨_, (pss_one (ps_ret (pe_and (pe_callB call_isi (by rfl) m_isinstance (by decide +kernel) (pa_cons (pv 0) (pa_cons (pe_bltn (v := .ty "str") (by rfl) m_str (by decide +kernel) rfl) pa_nil))) (pe_and (pe_chain op_lt op_lt pe_int (pe_callB call_len_str (by rfl) m_len PySem.boot_len (pa_cons (pv 0) pa_nil)) pe_int) (pe_one (pe_cmpR (op_eqD hr.units) (pe_lc (own := [("_law_sign", 1)]) (g := gName 1)  rfl scLWord.nd (pi_str (pv 0)) (blkOk_by (own := [("_law_sign", 1)]) (N := scLWordN) (sc := scLWordS) (by decide +kernel)) (fun _ _ _ _ _ => (pg_name (i := 1) scLWord.nd rfl (.inl rfl))) (fun _ _ _ _ _ => pts_one (pt_not (pt_chain op_le_str op_le_str pe_str (pv 1) pe_str))) (fun _ _ _ _ _ => (pv 1))) (pe_lst pa_nil) (nomark _))))))), ?_⟩
    refine ⟨_, rfl, _, _, _, _, _, rfl, .ty _, hT.tyx, kit_ty (kit_str _), _, rfl, ?_⟩
    cases hT with
    | int i => exact q _ (Same.refl _)
    | bl b => exact q _ (Same.refl _)
    | non => exact q _ (Same.refl _)
    | lst _ _ _ => exact q _ (Same.refl _)
    | tup _ _ _ => exact q _ (Same.refl _)
    | str x =>
      have lx : x.length ≤ sizeLine := Nat.le_trans (show x.length ≤ 40000 from Nat.le_trans hF.wt hw) (by decide)
      have lf : isWord (.str x) = (decide (1 ≤ x.length) && decide (x.length ≤ 8) && x.cps.toList.all inAZ) := rfl
      refine ⟨_, rfl, x, rfl, lx, _, _, rfl, rfl, _, rfl, ?_⟩
      by_cases h1 : (0 : Int) < (x.length : Int)
      · refine yes (decide_eq_true h1) ?_
        refine ⟨_, _, rfl, rfl, _, rfl, ?_⟩
        by_cases h8 : (x.length : Int) < 9
        · refine yes (decide_eq_true h8) ?_
          refine ⟨_, rfl, x, rfl, fun D hD => ?_⟩
          have sx : x.cps.size ≤ 8 := by
            have : x.length = x.cps.size := rfl
            omega
          refine lc_it walk_str (fun i H' => H' = upd H D (.lst (((x.cps.toList.take i).filter fun c => !inAZ c).map fun c => V.str ⟨#[c]⟩))) rfl (fun _ _ _ _ => trivial) ?_ ?_
          · rintro i y H1 H2 hi rfl ⟨rfl, c, hc, rfl⟩
            have hc' : x.cps.toList[i]? = some c := by rw [Array.getElem?_toList]; exact hc
            refine ⟨rfl, ?_⟩
            refine ⟨_, rfl, _, _, rfl, rfl, _, rfl, ?_⟩
            have ea : ("a" : Str).cps.toList = [97] := by decide +kernel
            have ez : ("z" : Str).cps.toList = [122] := by decide +kernel
            have t1 : (!decide ((⟨#[c]⟩ : Str).cps.toList < ("a" : Str).cps.toList)) = decide (97 ≤ c) := by
              rw [ea, Bool.eq_iff_iff]
              show (!decide ([c] < [97])) = true ↔ _
              rw [Bool.not_eq_true', decide_eq_false_iff_not, decide_eq_true_iff, lt1]
              omega
            have t2 : (!decide (("z" : Str).cps.toList < (⟨#[c]⟩ : Str).cps.toList)) = decide (c ≤ 122) := by
              rw [ez, Bool.eq_iff_iff]
              show (!decide ([122] < [c])) = true ↔ _
              rw [Bool.not_eq_true', decide_eq_false_iff_not, decide_eq_true_iff, lt1]
              omega
            have step : (x.cps.toList.take (i + 1)).filter (fun c => !inAZ c) = (x.cps.toList.take i).filter (fun c => !inAZ c) ++ (if inAZ c then [] else [c]) := by
              rw [List.take_add_one, hc', List.filter_append]
              cases e : inAZ c <;> simp [e]
            have few : (((x.cps.toList.take i).filter fun c => !inAZ c).map fun c => V.str ⟨#[c]⟩).length < sizeLine := by
              rw [List.length_map]
              refine Nat.lt_of_le_of_lt (List.length_filter_le _ _) ?_
              rw [List.length_take]
              exact Nat.lt_of_le_of_lt (Nat.min_le_left _ _) (Nat.lt_trans hi (Nat.lt_of_le_of_lt sx (by decide)))
            by_cases a1 : 97 ≤ c
            · refine yes (t1.trans (decide_eq_true a1)) ?_
              refine ⟨_, _, rfl, rfl, _, rfl, ?_⟩
              by_cases a2 : c ≤ 122
              · refine no (by rw [t2, decide_eq_true a2]; rfl) ?_
                have e : inAZ c = true := by rw [inAZ, decide_eq_true a1, decide_eq_true a2]; rfl
                rw [step, e, if_pos rfl, List.append_nil]
              · refine yes (by rw [t2, decide_eq_false a2]; rfl) ?_
                have e : inAZ c = false := by rw [inAZ, decide_eq_false a2, Bool.and_false]
                refine ⟨_, rfl, _, upd_same, few, ?_⟩
                rw [upd_upd, step, e, List.map_append]
                rfl
            · refine no (t1.trans (decide_eq_false a1)) ?_
              have e : inAZ c = false := by rw [inAZ, decide_eq_false a1, Bool.false_and]
              refine ⟨_, rfl, ?_⟩
              refine ⟨_, rfl, _, upd_same, few, ?_⟩
              rw [upd_upd, step, e, List.map_append]
              rfl
          · rintro H1 rfl
            have e : x.cps.toList.take x.cps.size = x.cps.toList := List.take_of_length_le (by simp)
            rw [e]
            refine ⟨Nat.zero_le _, fun t ht => ?_⟩
            have s1 : Same H (upd H D (.lst ((x.cps.toList.filter fun c => !inAZ c).map fun c => V.str ⟨#[c]⟩))) := same_new hD
            have s2 := same_new (o := .lst []) ht
            have hD2 := s2 D _ upd_same
            have sok : x.cps.all (· < 0x110000) = true := hF.ok
            refine ⟨_, _, .lst (SqL.of hD2) (dpStrs _), .lst (SqL.of upd_same) .nil, shaped_list ?_, by decide, ?_⟩
            · intro d hd
              obtain ⟨c, hc, rfl⟩ := List.mem_map.mp hd
              have hc2 := (List.mem_filter.mp hc).1
              have hc3 := (Array.all_eq_true_iff_forall_mem.mp sok) c (by simpa using hc2)
              refine ⟨?_, by simp [PyData.depth]⟩
              show (#[c]).all (· < 0x110000) = true
              simpa using hc3
            · have e2 : PyData.eqv (.list ((x.cps.toList.filter fun c => !inAZ c).map fun c => PyData.str ⟨#[c]⟩)) (.list []) = isWord (.str x) := by
                rw [eq_nil, lf, decide_eq_true (show 1 ≤ x.length by omega), decide_eq_true (show x.length ≤ 8 by omega), Bool.true_and, Bool.true_and, Bool.eq_iff_iff, List.isEmpty_iff, List.map_eq_nil_iff, List.filter_eq_nil_iff, List.all_eq_true]
                constructor
                · intro h c hc
                  have := h c hc
                  simpa using this
                · intro h c hc
                  rw [h c hc]
                  decide
              rw [e2]
              exact q _ (s1.trans s2)
        · refine no (decide_eq_false h8) ?_
          have e : isWord (.str x) = false := by rw [lf, decide_eq_false (show ¬ x.length ≤ 8 by omega), Bool.and_false, Bool.false_and]
          rw [e] at q
          exact q _ (Same.refl _)
      · refine no (decide_eq_false h1) ?_
        have e : isWord (.str x) = false := by rw [lf, decide_eq_false (show ¬ 1 ≤ x.length by omega), Bool.false_and, Bool.false_and]
        rw [e] at q
        exact ⟨_, rfl, q _ (Same.refl _)⟩
theorem two_of {f : Addr} {H : Hp} {xs : List V} {ds : List PyData} (r : TrAll f H xs ds) (h : ds.length = 2) : ∃ v1 v2 d1 d2, xs = [v1, v2] ∧ ds = [d1, d2] ∧ Tr f H v1 d1 ∧ Tr f H v2 d2 := by
  match ds, h with
  | [d1, d2], _ =>
    cases r with
    | cons a r2 =>
      cases r2 with
      | cons b r3 =>
        cases r3
        exact ⟨_, _, d1, d2, rfl, rfl, a, b⟩
theorem no_two {ds : List PyData} (h : ¬ ds.length = 2) : isFr (.tuple ds) = false := by
  match ds, h with
  | [], _ => rfl
  | [x], _ => cases x <;> rfl
  | [_, _], h => exact absurd rfl h
  | _ :: _ :: _ :: _, _ => simp [isFr]
theorem ok_isfr {f fN fC : Addr} {fd dN dC : FuncData} (F : Fun K "is_fraction" "is_fraction" sIsFr f fd) (NU : At P w K mg base 1 "is_number" ["thing"] (spIs isNum) fN dN) (CD : At P w K mg base 1 "common_divisor" ["a", "b"] spCd fC dC)
    (m_isinstance : mg "isinstance" = none) (m_tuple : mg "tuple" = none) (m_len : mg "len" = none) : FnOk P w K mg base CX0 2 f fd ["thing"] (spIs isFr) := by
  refine F.ok scIsFr (fun vs H Q E h => ?_) (fun cdv A outer s H vs Q E hr h => ?_)
  · obtain ⟨f, v, d, w, n, rfl, _⟩ := h
    rfl
  · obtain ⟨f, v, d, w, n, rfl, hT, hF, hw, hn, q⟩ := h
    have hr1 : Room 1 _ := hr
    refine ⟨_, (pss_cons (ps_if (PW.pt (pw_or (pt_not (pt_val (pe_callB call_isi (by rfl) m_isinstance (by decide +kernel) (pa_cons (pv 0) (pa_cons (pe_bltn (v := .ty "tuple") (by rfl) m_tuple (by decide +kernel) rfl) pa_nil))))) (pw_or1 (pt_cmpR op_ne (pe_callB call_len_seq (by rfl) m_len PySem.boot_len (pa_cons (pv 0) pa_nil)) pe_int (nomark _))))) (pss_one (ps_ret pe_bl)) pss_nil)
      (pss_cons (ps_asg (pv 0) (pg_tup rfl (pgs_cons (pg_name (i := 1) scIsFr.nd rfl (.inl rfl)) (pgs_cons (pg_name (i := 2) scIsFr.nd rfl (.inl rfl)) pgs_nil))))
      (pss_one (ps_ret (pe_and (pe_call NU.G hr1 (by rfl) NU.g NU.k NU.b .nil pass0 (pa_cons (pv 1) pa_nil)) (pe_and (pe_call NU.G hr1 (by rfl) NU.g NU.k NU.b .nil pass0 (pa_cons (pv 2) pa_nil)) (pe_and (pe_cmpR op_gt (pv 2) pe_int (nomark _)) (pe_one (pe_cmpR op_eq (pe_call CD.G hr1 (by rfl) CD.g CD.k CD.b .nil pass0 (pa_cons (pv 1) (pa_cons (pv 2) pa_nil))) pe_int (nomark _)))))))))), ?_⟩
    refine ⟨_, rfl, _, _, _, _, _, rfl, .ty _, hT.tyx, kit_ty (kit_tuple _), _, rfl, ?_⟩
    cases hT with
    | int i => exact q _ (Same.refl _)
    | bl b => exact q _ (Same.refl _)
    | non => exact q _ (Same.refl _)
    | str _ => exact q _ (Same.refl _)
    | lst _ _ _ => exact q _ (Same.refl _)
    | @tup a xs ds na e r =>
      refine ⟨_, rfl, _, _, rfl, .inr (SqT.of e), rfl, _, rfl, ?_⟩
      by_cases h2 : ds.length = 2
      · obtain ⟨v1, v2, d1, d2, rfl, rfl, t1, t2⟩ := two_of r h2
        refine no (by rfl) ?_
        refine ⟨_, rfl, a, _, rfl, SqT.of e, rfl, _, _, rfl, _, _, rfl, rfl, ?_⟩
        have f1 := hF.item (d := d1) (by simp)
        have f2 := hF.item (d := d2) (by simp)
        refine ⟨_, rfl, f, v1, d1, w, n, rfl, t1, f1, hw, hn, fun H1 s1 => ?_⟩
        refine ⟨_, rfl, ?_⟩
        cases t1 with
        | int a1 =>
          refine yes rfl ?_
          refine ⟨_, rfl, f, v2, d2, w, n, rfl, t2.k (.of s1), f2, hw, hn, fun H2 s2 => ?_⟩
          refine ⟨_, rfl, ?_⟩
          have s12 := s1.trans s2
          cases t2 with
          | int b1 =>
            refine yes rfl ?_
            refine ⟨_, rfl, _, _, rfl, rfl, _, rfl, ?_⟩
            have lf : isFr (.tuple [.int a1, .int b1]) = (decide (0 < b1) && decide (Int.gcd a1 b1 = 1)) := rfl
            by_cases hb : 0 < b1
            · refine yes (decide_eq_true hb) ?_
              refine ⟨_, rfl, _, rfl, a1, b1, rfl, by omega, rfl, ?_⟩
              have e3 : decide (V.int ((Int.gcd a1 b1 : Nat) : Int) = V.int 1) = isFr (.tuple [.int a1, .int b1]) := by
                rw [lf, decide_eq_true hb, Bool.true_and, Bool.eq_iff_iff, decide_eq_true_iff, decide_eq_true_iff]
                constructor
                · intro h
                  have := V.int.inj h
                  omega
                · intro h
                  rw [h]
                  rfl
              rw [e3]
              exact q _ s12
            · refine no (decide_eq_false hb) ?_
              rw [lf, decide_eq_false hb, Bool.false_and] at q
              exact q _ s12
          | bl b => exact q _ s12
          | non => exact q _ s12
          | str _ => exact q _ s12
          | lst _ _ _ => exact q _ s12
          | tup _ _ _ => exact q _ s12
        | bl b => exact q _ s1
        | non => exact q _ s1
        | str _ => exact q _ s1
        | lst _ _ _ => exact q _ s1
        | tup _ _ _ => exact q _ s1
      · refine yes ?_ ?_
        · rw [r.len]
          rw [decide_eq_false (fun z => h2 (by have := V.int.inj z; omega))]
          rfl
        · rw [no_two h2] at q
          exact q _ (Same.refl _)
end
end K1

namespace K1
open PySem PySem.Spec PyProof.Rows L2 G Th
section
variable {X : Cx}
/-- a tuple's slice, be it the tuple itself or a new one -/
def rSlTr (f : Addr) : V → Option Int → Option Int → Hp → VK → Prop := fun x lo hi H Q => ∃ a xs, x = .ref a ∧ a ≠ f ∧ H a = some (.tup xs) ∧ (∀ p, H p = none → p ≠ f) ∧ ∀ H' p, Same H H' → p ≠ f → H' p = some (.tup (cutV xs lo hi)) → Q (.ref p) H'
theorem cut_whole {xs : List V} {lo hi : Option Int} (h1 : HT.sIx xs.length 0 lo = 0) (h2 : HT.sIx xs.length xs.length hi = xs.length) : cutV xs lo hi = xs := by
  unfold cutV
  rw [h1, h2, List.drop_zero, Nat.sub_zero, List.take_length]
theorem sl_tr (f : Addr) : L2.SlR X (rSlTr f) := by
  intro pins s σ H x v vl vu lo hi sl Q I rx hs pl pu h
  obtain ⟨a, xs, rfl, na, ha, nf, k⟩ := h
  refine sl_tupA pins s σ H _ v vl vu lo hi sl Q I rx hs pl pu ⟨a, xs, rfl, SqT.of ha, ?_, ?_⟩
  · rintro ⟨h1, h2⟩
    exact k H a (Same.refl _) na (by rw [cut_whole h1 h2]; exact ha)
  · rintro _ p hp
    exact k _ p (same_new hp) (nf p hp) upd_same
def rCatTr (f : Addr) : R2 := fun x y H Q => ∃ a b xs ys, x = .ref a ∧ y = .ref b ∧ a ≠ f ∧ b ≠ f ∧ H a = some (.tup xs) ∧ H b = some (.tup ys) ∧ xs.length + ys.length ≤ sizeLine ∧ (∀ p, H p = none → p ≠ f) ∧ ∀ H' p, Same H H' → p ≠ f → H' p = some (.tup (xs ++ ys)) → Q (.ref p) H'
theorem op_catTr (f : Addr) : OpR X (binaryOp .Add) (rCatTr f) := by
  intro pins s σ H x y v u Q I rx ry h
  obtain ⟨a, b, xs, ys, rfl, rfl, na, nb, ha, hb, hl, nf, k⟩ := h
  refine op_catA pins s σ H _ _ v u Q I rx ry ⟨a, b, xs, ys, rfl, rfl, SqT.of ha, SqT.of hb, hl, ?_, ?_, ?_⟩
  · rintro rfl
    exact k H b (Same.refl _) nb hb
  · rintro _ rfl
    exact k H a (Same.refl _) na (by rw [List.append_nil]; exact ha)
  · rintro _ _ p hp
    exact k _ p (same_new hp) (nf p hp) upd_same
end
theorem cut_take (xs : List V) (k : Nat) (h : k ≤ xs.length) : cutV xs none (some (k : Int)) = xs.take k := by
  unfold cutV
  rw [HT.sIx_none, HT.sIx_nat, List.drop_zero, Nat.sub_zero, Nat.min_eq_left h]
theorem cut_drop (xs : List V) (k : Nat) (h : k ≤ xs.length) : cutV xs (some (k : Int)) none = xs.drop k := by
  unfold cutV
  rw [HT.sIx_none, HT.sIx_nat, Nat.min_eq_left h, List.take_of_length_le]
  rw [List.length_drop]
  omega
theorem cut_one (xs : List V) (k : Nat) (h : k < xs.length) : cutV xs (some (k : Int)) (some ((k : Int) + 1)) = (xs.drop k).take 1 := by
  unfold cutV
  rw [show (k : Int) + 1 = ((k + 1 : Nat) : Int) by omega, HT.sIx_nat, HT.sIx_nat, Nat.min_eq_left (by omega), Nat.min_eq_left (by omega)]
  congr 1
  omega
theorem wt_app : ∀ (xs ys : List PyData), PyData.weightAll (xs ++ ys) = PyData.weightAll xs + PyData.weightAll ys
  | [], ys => by simp [PyData.weightAll]
  | x :: xs, ys => by
    rw [List.cons_append]
    simp only [PyData.weightAll]
    rw [wt_app xs ys]
    omega
theorem wt_set : ∀ (xs : List PyData) (k : Nat) (y : PyData), PyData.weightAll (xs.set k y) ≤ PyData.weightAll xs + y.weight + 1
  | [], _, _ => by simp [PyData.weightAll]
  | x :: xs, 0, y => by
    simp only [List.set_cons_zero, PyData.weightAll]
    omega
  | x :: xs, k + 1, y => by
    have := wt_set xs k y
    simp only [List.set_cons_succ, PyData.weightAll]
    omega
theorem wt_len : ∀ xs : List PyData, xs.length ≤ PyData.weightAll xs
  | [] => Nat.zero_le _
  | x :: xs => by
    have := wt_len xs
    simp only [PyData.weightAll, List.length_cons]
    omega
theorem wt_cut (xs : List PyData) (k : Nat) : PyData.weightAll (xs.take k) + PyData.weightAll (xs.drop k) = PyData.weightAll xs := by
  rw [← wt_app, List.take_append_drop]
theorem wt_at {xs : List PyData} {k : Nat} {x : PyData} (h : xs[k]? = some x) : PyData.weightAll (xs.take k) + (x.weight + 1) + PyData.weightAll (xs.drop (k + 1)) = PyData.weightAll xs := by
  have e := wt_cut xs k
  obtain ⟨hk, hx⟩ := List.getElem?_eq_some_iff.mp h
  rw [List.drop_eq_getElem_cons hk, hx] at e
  simp only [PyData.weightAll] at e
  omega
/-- a tuple, a list of such things -/
theorem fine_tup {w n : Nat} {ds : List PyData} (h : ∀ d ∈ ds, okD d = true ∧ d.depth ≤ n) (hw : PyData.weightAll ds ≤ w) : Fine w (n + 1) (.tuple ds) := by
  refine ⟨okAll_iff.mpr fun d hd => (h d hd).1, hw, ?_⟩
  have := dp_all fun d hd => (h d hd).2
  simp only [PyData.depth]
  omega
theorem fine_lst {w n : Nat} {ds : List PyData} (h : ∀ d ∈ ds, okD d = true ∧ d.depth ≤ n) (hw : PyData.weightAll ds ≤ w) : Fine w (n + 1) (.list ds) := by
  refine ⟨okAll_iff.mpr fun d hd => (h d hd).1, hw, ?_⟩
  have := dp_all fun d hd => (h d hd).2
  simp only [PyData.depth]
  omega
theorem at_tr {f : Addr} {H : Hp} {vs : List V} {ds : List PyData} (r : TrAll f H vs ds) {i : Int} (h0 : 0 ≤ i) (h1 : i < (vs.length : Int)) : ∃ (k : Nat) (v : V) (d : PyData), i = (k : Int) ∧ k < vs.length ∧ atI vs i = some v ∧ ds[k]? = some d ∧ d ∈ ds ∧ Tr f H v d := by
  obtain ⟨k, rfl⟩ := Int.eq_ofNat_of_zero_le h0
  have hk : k < vs.length := by omega
  obtain ⟨d, hd, t⟩ := r.get (List.getElem?_eq_getElem hk)
  exact ⟨k, _, d, rfl, hk, atI_nat (j := k) (List.getElem?_eq_getElem hk), hd, List.mem_of_getElem? hd, t⟩
theorem ixN_nat {n k : Nat} (h : k < n) : ixN n (k : Int) = some k := by
  unfold ixN
  rw [if_pos (by omega), if_pos (by omega), Int.toNat_natCast]
theorem eq_nilT (es : List PyData) : PyData.eqv (.tuple es) (.tuple []) = es.isEmpty := by cases es <;> rfl
section
variable {P : Program} {w : World} {K : PySem.W.Frag} {mg : Str → Option Value} {base : Heap}
theorem scSp : FnScope ["_law_feed_here", "_law_thing", "_law_menu", "_law_way", "_law_at", "_law_other", "_law_some"] ["_law_feed_here", "_law_thing", "_law_menu"] (defScope sSpoilt) := ⟨rfl, rfl, rfl, by decide +kernel, rfl, by decide +kernel, by decide +kernel⟩
abbrev scSpN : List Str := ["_law_feed_here", "_law_thing", "_law_menu", "_law_way", "_law_at", "_law_other", "_law_some"]
abbrev scSpS : Scope := defScope sSpoilt
def spSp (Wm Dm n : Nat) : Sp := fun vs H Q _ => ∃ (f s m : Addr) (ns : List Int) (B : Int) (v : V) (d : PyData) (mv : List V) (ms : List PyData) (w : Nat), vs = [.ref f, v, .ref m] ∧ Fd H f s ns B ∧ B + 3 * (n + 1) < 2 ^ 38 ∧ Tr f H v d ∧ Fine w n d ∧ w ≤ 2000 ∧ n ≤ 12 ∧ m ≠ f ∧ H m = some (.lst mv) ∧ TrAll f H mv ms ∧ 0 < ms.length ∧ ms.length ≤ 100 ∧ (∀ x ∈ ms, Fine Wm Dm x) ∧
  ∀ H' v' d', But f H H' → Fd H' f s ns (B + 3 * (n + 1)) → Tr f H' v' d' → Fine ((n + 3) * w + Wm + n + 2) (n + Dm + 1) d' → Q v' H'
theorem ok_sp_step {Wm Dm n : Nat} {R : Sp} {f fD : Addr} {fd dD : FuncData} (F : Fun K "_law_spoilt" "_law_spoilt" sSpoilt f fd) (DR : At P w K mg base 1 "_law_draw" ["_law_feed_here", "_law_many"] spDraw fD dD)
    (RS : At P w K mg base (n + 1) "_law_spoilt" ["_law_feed_here", "_law_thing", "_law_menu"] R f fd) (hR : n = 0 ∨ ∃ k, n = k + 1 ∧ R = spSp Wm Dm k)
    (m_isinstance : mg "isinstance" = none) (m_tuple : mg "tuple" = none) (m_len : mg "len" = none) (m_list : mg "list" = none) : FnOk P w K mg base CX0 (n + 2) f fd ["_law_feed_here", "_law_thing", "_law_menu"] (spSp Wm Dm n) := by
  refine F.ok scSp (fun vs H Q E h => ?_) (fun cdv A outer s0 H vs Q E hr h => ?_)
  · obtain ⟨f, s, m, ns, B, v, d, mv, ms, w, rfl, _⟩ := h
    rfl
  · obtain ⟨f, s, m, ns, B, v, d, mv, ms, w, rfl, FD, hB, hT, hF, hw, hn, nm, hm, tm, m0, m1, mF, q⟩ := h
    have hrS : Room (n + 1) _ := hr
    have hr1 : Room 1 _ := hr.mono (by omega)
    refine ⟨_, (pss_cons (ps_set (i := 3) scSp.nd rfl (.inl rfl) (pe_call DR.G hr1 (by rfl) DR.g DR.k DR.b .nil pass0 (pa_cons (pv 0) (pa_cons pe_int pa_nil))))
      (pss_cons (ps_if (PW.pt (pw_or (pt_not (pt_val (pe_callB call_isi (by rfl) m_isinstance (by decide +kernel) (pa_cons (pv 1) (pa_cons (pe_bltn (v := .ty "tuple") (by rfl) m_tuple (by decide +kernel) rfl) pa_nil))))) (pw_or (pt_cmpR (op_eqD hr.units) (pv 1) (pe_tup pa_nil) (nomark _)) (pw_or1 (pt_cmpR op_eq (pv 3) pe_int (nomark _)))))) (pss_one (ps_ret (pe_ix ix_list (pv 2) (pe_call DR.G hr1 (by rfl) DR.g DR.k DR.b .nil pass0 (pa_cons (pv 0) (pa_cons (pe_callB call_len_seq (by rfl) m_len PySem.boot_len (pa_cons (pv 2) pa_nil)) pa_nil))) (fun _ _ => rfl)))) pss_nil)
      (pss_cons (ps_set (i := 4) scSp.nd rfl (.inl rfl) (pe_call DR.G hr1 (by rfl) DR.g DR.k DR.b .nil pass0 (pa_cons (pv 0) (pa_cons (pe_callB call_len_seq (by rfl) m_len PySem.boot_len (pa_cons (pv 1) pa_nil)) pa_nil))))
      (pss_cons (ps_if (pt_cmpR op_eq (pv 3) pe_int (nomark _)) (pss_one (ps_ret (pe_op (op_catTr f) (pe_slice (sl_tr f) (pv 1) po_none (po_some (pv 4))) (pe_slice (sl_tr f) (pv 1) (po_some (pe_op op_add (pv 4) pe_int)) po_none)))) pss_nil)
      (pss_cons (ps_if (pt_cmpR op_eq (pv 3) pe_int (nomark _)) (pss_one (ps_ret (pe_op (op_catTr f) (pe_op (op_catTr f) (pe_slice (sl_tr f) (pv 1) po_none (po_some (pv 4))) (pe_slice (sl_tr f) (pv 1) (po_some (pv 4)) (po_some (pe_op op_add (pv 4) pe_int)))) (pe_slice (sl_tr f) (pv 1) (po_some (pv 4)) po_none)))) pss_nil)
      (pss_cons (ps_if (pt_cmpR op_eq (pv 3) pe_int (nomark _)) (pss_one (ps_ret (pe_op (op_catTr f) (pe_op (op_catTr f) (pe_slice (sl_tr f) (pv 1) po_none (po_some (pv 4))) (pe_tup (pa_cons (pe_ix ix_list (pv 2) (pe_call DR.G hr1 (by rfl) DR.g DR.k DR.b .nil pass0 (pa_cons (pv 0) (pa_cons (pe_callB call_len_seq (by rfl) m_len PySem.boot_len (pa_cons (pv 2) pa_nil)) pa_nil))) (fun _ _ => rfl)) pa_nil))) (pe_slice (sl_tr f) (pv 1) (po_some (pv 4)) po_none)))) pss_nil)
      (pss_cons (ps_if (pt_cmpR op_eq (pv 3) pe_int (nomark _)) (pss_cons (ps_par (i := 5) (j := 6) (by rfl) scSp.nd rfl rfl (by decide) rfl rfl (pa_cons (pe_call DR.G hr1 (by rfl) DR.g DR.k DR.b .nil pass0 (pa_cons (pv 0) (pa_cons (pe_callB call_len_seq (by rfl) m_len PySem.boot_len (pa_cons (pv 1) pa_nil)) pa_nil))) (pa_cons (pe_callTy call_list_of (by rfl) m_list (by decide +kernel) (pa_cons (pv 1) pa_nil)) pa_nil)) (by rfl))
      (pss_cons (ps_asg (pe_tup (pa_cons (pe_ix ix_tup (pv 1) (pv 5) (fun _ _ => rfl)) (pa_cons (pe_ix ix_tup (pv 1) (pv 4) (fun _ _ => rfl)) pa_nil))) (pg_tup rfl (pgs_cons (pg_sub (pv 6) (pv 4) set_list) (pgs_cons (pg_sub (pv 6) (pv 5) set_list) pgs_nil))))
      (pss_one (ps_ret (pe_callTy call_tuple_of (by rfl) m_tuple (by decide +kernel) (pa_cons (pv 6) pa_nil)))))) pss_nil)
      (pss_cons (ps_if (pt_cmpR op_eq (pv 3) pe_int (nomark _)) (pss_one (ps_ret (pe_callTy call_list_of (by rfl) m_list (by decide +kernel) (pa_cons (pv 1) pa_nil)))) pss_nil)
      (pss_one (ps_ret (pe_op (op_catTr f) (pe_op (op_catTr f) (pe_slice (sl_tr f) (pv 1) po_none (po_some (pv 4))) (pe_tup (pa_cons (pe_call RS.G hrS (by rfl) RS.g RS.k RS.b .nil pass0 (pa_cons (pv 0) (pa_cons (pe_ix ix_tup (pv 1) (pv 4) (fun _ _ => rfl)) (pa_cons (pv 2) pa_nil)))) pa_nil))) (pe_slice (sl_tr f) (pv 1) (po_some (pe_op op_add (pv 4) pe_int)) po_none)))))))))))), ?_⟩
    have tmL : mv.length = ms.length := tm.len
    have e38 : (2 : Int) ^ 38 = 274877906944 := by decide
    have e40 : (2 : Int) ^ 40 = 1099511627776 := by decide
    have e200 : 10000 < 2 ^ 200 := by decide
    -- way
    refine ⟨_, rfl, f, s, ns, B, 9, rfl, FD, (by decide), (by decide), by omega, fun H1 d1 b1 F1 l1 u1 => ?_⟩
    have hT1 := hT.k b1
    have hm1 := b1 _ _ nm hm
    have tm1 := tm.k b1
    -- one of the menu
    have wW : Wm ≤ (n + 3) * w + Wm + n + 2 := by omega
    refine ⟨_, rfl, _, _, _, _, _, rfl, .ty _, hT1.tyx, kit_ty (kit_tuple _), _, rfl, ?_⟩
    have w3 : 3 * w ≤ (n + 3) * w := Nat.mul_le_mul_right _ (by omega)
    have esz : sizeLine = 16777216 := rfl
    cases hT1 with
    | int _ =>
      refine ⟨_, rfl, _, rfl, _, rfl, _, _, rfl, .inl (SqL.of hm1), f, s, ns, _, _, rfl, F1, (by omega), (by omega), by omega, fun H9 d9 b9 F9 l9 u9 => ?_⟩
      obtain ⟨k9, v9, e9, _, _, at9, _, mem9, tr9⟩ := at_tr tm1 l9 u9
      refine ⟨m, _, _, _, rfl, rfl, SqL.of (b9 _ _ nm hm1), at9, ?_⟩
      exact q H9 v9 e9 (b1.trans b9) (F9.mono (by omega)) (tr9.k b9) ((mF e9 mem9).mono (by omega) (by omega))
    | bl _ =>
      refine ⟨_, rfl, _, rfl, _, rfl, _, _, rfl, .inl (SqL.of hm1), f, s, ns, _, _, rfl, F1, (by omega), (by omega), by omega, fun H9 d9 b9 F9 l9 u9 => ?_⟩
      obtain ⟨k9, v9, e9, _, _, at9, _, mem9, tr9⟩ := at_tr tm1 l9 u9
      refine ⟨m, _, _, _, rfl, rfl, SqL.of (b9 _ _ nm hm1), at9, ?_⟩
      exact q H9 v9 e9 (b1.trans b9) (F9.mono (by omega)) (tr9.k b9) ((mF e9 mem9).mono (by omega) (by omega))
    | non =>
      refine ⟨_, rfl, _, rfl, _, rfl, _, _, rfl, .inl (SqL.of hm1), f, s, ns, _, _, rfl, F1, (by omega), (by omega), by omega, fun H9 d9 b9 F9 l9 u9 => ?_⟩
      obtain ⟨k9, v9, e9, _, _, at9, _, mem9, tr9⟩ := at_tr tm1 l9 u9
      refine ⟨m, _, _, _, rfl, rfl, SqL.of (b9 _ _ nm hm1), at9, ?_⟩
      exact q H9 v9 e9 (b1.trans b9) (F9.mono (by omega)) (tr9.k b9) ((mF e9 mem9).mono (by omega) (by omega))
    | str _ =>
      refine ⟨_, rfl, _, rfl, _, rfl, _, _, rfl, .inl (SqL.of hm1), f, s, ns, _, _, rfl, F1, (by omega), (by omega), by omega, fun H9 d9 b9 F9 l9 u9 => ?_⟩
      obtain ⟨k9, v9, e9, _, _, at9, _, mem9, tr9⟩ := at_tr tm1 l9 u9
      refine ⟨m, _, _, _, rfl, rfl, SqL.of (b9 _ _ nm hm1), at9, ?_⟩
      exact q H9 v9 e9 (b1.trans b9) (F9.mono (by omega)) (tr9.k b9) ((mF e9 mem9).mono (by omega) (by omega))
    | lst _ _ _ =>
      refine ⟨_, rfl, _, rfl, _, rfl, _, _, rfl, .inl (SqL.of hm1), f, s, ns, _, _, rfl, F1, (by omega), (by omega), by omega, fun H9 d9 b9 F9 l9 u9 => ?_⟩
      obtain ⟨k9, v9, e9, _, _, at9, _, mem9, tr9⟩ := at_tr tm1 l9 u9
      refine ⟨m, _, _, _, rfl, rfl, SqL.of (b9 _ _ nm hm1), at9, ?_⟩
      exact q H9 v9 e9 (b1.trans b9) (F9.mono (by omega)) (tr9.k b9) ((mF e9 mem9).mono (by omega) (by omega))
    | @tup a xs ds na ea r =>
      have xL : xs.length = ds.length := r.len
      have wL := wt_len ds
      have wA : PyData.weightAll ds ≤ w := hF.wt
      have dA : PyData.depth (.tuple ds) ≤ n := hF.dp
      simp only [PyData.depth] at dA
      have items : ∀ d ∈ ds, okD d = true ∧ d.depth ≤ n - 1 := fun d hd => ⟨(hF.item hd).ok, by have := dp_mem hd; omega⟩
      refine ⟨_, rfl, Nat.zero_le _, fun t ht => ?_⟩
      have st := same_new (o := .tup []) ht
      have ht2 := upd_same (H := H1) (a := t) (o := .tup [])
      generalize upd H1 t (.tup []) = Ht at st ht2 ⊢
      have bt := b1.trans (.of st)
      have Ft := F1.keep st
      have hm1 := st _ _ hm1
      have tm1 := tm1.k (.of st)
      have ea := st _ _ ea
      have r := r.k (f := f) (.of st)
      have tT : Tr f Ht (.ref a) (.tuple ds) := .tup na ea r
      refine ⟨_, _, tT.dp, .tup (SqT.of ht2) .nil, hF.shaped (by omega), by decide, _, rfl, ?_⟩
      rw [eq_nilT]
      by_cases d0 : ds = []
      · refine yes (by rw [d0]; rfl) ?_
        refine ⟨_, rfl, _, rfl, _, rfl, _, _, rfl, .inl (SqL.of hm1), f, s, ns, _, _, rfl, Ft, (by omega), (by omega), by omega, fun H9 d9 b9 F9 l9 u9 => ?_⟩
        obtain ⟨k9, v9, e9, _, _, at9, _, mem9, tr9⟩ := at_tr tm1 l9 u9
        refine ⟨m, _, _, _, rfl, rfl, SqL.of (b9 _ _ nm hm1), at9, ?_⟩
        exact q H9 v9 e9 (bt.trans b9) (F9.mono (by omega)) (tr9.k b9) ((mF e9 mem9).mono (by omega) (by omega))
      have dl : 0 < ds.length := List.length_pos_iff.mpr d0
      have n1 : 1 ≤ n := by omega
      refine no (by cases ds with | nil => exact absurd rfl d0 | cons _ _ => rfl) ?_
      refine ⟨_, rfl, rfl, _, rfl, ?_⟩
      by_cases w0 : d1 = 0
      · refine yes (decide_eq_true (by rw [w0])) ?_
        refine ⟨_, rfl, _, rfl, _, rfl, _, _, rfl, .inl (SqL.of hm1), f, s, ns, _, _, rfl, Ft, (by omega), (by omega), by omega, fun H9 d9 b9 F9 l9 u9 => ?_⟩
        obtain ⟨k9, v9, e9, _, _, at9, _, mem9, tr9⟩ := at_tr tm1 l9 u9
        refine ⟨m, _, _, _, rfl, rfl, SqL.of (b9 _ _ nm hm1), at9, ?_⟩
        exact q H9 v9 e9 (bt.trans b9) (F9.mono (by omega)) (tr9.k b9) ((mF e9 mem9).mono (by omega) (by omega))
      refine no (decide_eq_false fun z => w0 (V.int.inj z)) ?_
      refine ⟨_, rfl, _, rfl, _, _, rfl, .inr (SqT.of ea), f, s, ns, _, _, rfl, Ft, (by omega), (by omega), by omega, fun H2 d2 b2 F2 l2 u2 => ?_⟩
      have bb0 := bt.trans b2
      have ea := b2 _ _ na ea
      have r := r.k b2
      have hm1 := b2 _ _ nm hm1
      have tm1 := tm1.k b2
      obtain ⟨k, vk, x, rfl, hk, atk, hx, mx, tx⟩ := at_tr r l2 u2
      have wx := wt_mem mx
      have wat := wt_at hx
      have bb : But f H2 H2 := .of (Same.refl _)
      have k1 : (k : Int) + 1 = ((k + 1 : Nat) : Int) := by omega
      have sub : ∀ {L : List PyData}, (∀ d ∈ L, d ∈ ds) → ∀ d ∈ L, okD d = true ∧ d.depth ≤ n + Dm := fun h d hd => ⟨(items d (h d hd)).1, by have := (items d (h d hd)).2; omega⟩
      have tk : ∀ d, d ∈ ds.take k → d ∈ ds := fun d hd => List.mem_of_mem_take hd
      have dk : ∀ j d, d ∈ ds.drop j → d ∈ ds := fun j d hd => List.mem_of_mem_drop hd
      refine ⟨_, rfl, rfl, _, rfl, ?_⟩
      by_cases w1 : d1 = 1
      · refine yes (decide_eq_true (by rw [w1])) ?_
        refine ⟨_, rfl, _, rfl, (k : Int), rfl, a, xs, rfl, na, ea, (fun p hp => F2.ne_none hp), fun J20 p20 s20 n20 h20 => ?_⟩
        rw [cut_take xs k (by omega)] at h20
        have ea := s20 _ _ ea
        have FF20 := F2.keep s20
        have bb := bb.trans (.of s20)
        refine ⟨_, rfl, _, rfl, _, _, rfl, rfl, (k : Int) + 1, rfl, a, xs, rfl, na, ea, (fun p hp => FF20.ne_none hp), fun J21 p21 s21 n21 h21 => ?_⟩
        rw [k1, cut_drop xs (k + 1) (by omega)] at h21
        have ea := s21 _ _ ea
        have FF21 := FF20.keep s21
        have h20 := s21 _ _ h20
        have bb := bb.trans (.of s21)
        refine ⟨p20, p21, _, _, rfl, rfl, n20, n21, h20, h21, (by rw [esz]; simp only [List.length_take, List.length_drop, List.length_append, List.length_cons, List.length_nil]; omega), (fun p hp => FF21.ne_none hp), fun J22 p22 s22 n22 h22 => ?_⟩
        have ea := s22 _ _ ea
        have FF22 := FF21.keep s22
        have h20 := s22 _ _ h20
        have h21 := s22 _ _ h21
        have bb := bb.trans (.of s22)
        refine q _ (.ref p22) (.tuple (ds.take k ++ ds.drop (k + 1))) (bb0.trans bb) (FF22.mono (by omega)) (.tup n22 h22 (((r.k bb).take k).app ((r.k bb).drop (k + 1)))) (fine_tup (sub fun d hd => ?_) ?_)
        · exact (List.mem_append.mp hd).elim (tk d) (dk _ d)
        · rw [wt_app]
          omega
      refine no (decide_eq_false fun z => w1 (V.int.inj z)) ?_
      refine ⟨_, rfl, rfl, _, rfl, ?_⟩
      by_cases w2 : d1 = 2
      · refine yes (decide_eq_true (by rw [w2])) ?_
        refine ⟨_, rfl, _, rfl, (k : Int), rfl, a, xs, rfl, na, ea, (fun p hp => F2.ne_none hp), fun J20 p20 s20 n20 h20 => ?_⟩
        rw [cut_take xs k (by omega)] at h20
        have ea := s20 _ _ ea
        have FF20 := F2.keep s20
        have bb := bb.trans (.of s20)
        refine ⟨_, rfl, _, rfl, (k : Int), rfl, _, rfl, _, _, rfl, rfl, (k : Int) + 1, rfl, a, xs, rfl, na, ea, (fun p hp => FF20.ne_none hp), fun J21 p21 s21 n21 h21 => ?_⟩
        rw [cut_one xs k (by omega)] at h21
        have ea := s21 _ _ ea
        have FF21 := FF20.keep s21
        have h20 := s21 _ _ h20
        have bb := bb.trans (.of s21)
        refine ⟨p20, p21, _, _, rfl, rfl, n20, n21, h20, h21, (by rw [esz]; simp only [List.length_take, List.length_drop, List.length_append, List.length_cons, List.length_nil]; omega), (fun p hp => FF21.ne_none hp), fun J22 p22 s22 n22 h22 => ?_⟩
        have ea := s22 _ _ ea
        have FF22 := FF21.keep s22
        have h20 := s22 _ _ h20
        have h21 := s22 _ _ h21
        have bb := bb.trans (.of s22)
        refine ⟨_, rfl, _, rfl, (k : Int), rfl, a, xs, rfl, na, ea, (fun p hp => FF22.ne_none hp), fun J23 p23 s23 n23 h23 => ?_⟩
        rw [cut_drop xs k (by omega)] at h23
        have ea := s23 _ _ ea
        have FF23 := FF22.keep s23
        have h20 := s23 _ _ h20
        have h21 := s23 _ _ h21
        have h22 := s23 _ _ h22
        have bb := bb.trans (.of s23)
        refine ⟨p22, p23, _, _, rfl, rfl, n22, n23, h22, h23, (by rw [esz]; simp only [List.length_take, List.length_drop, List.length_append, List.length_cons, List.length_nil]; omega), (fun p hp => FF23.ne_none hp), fun J24 p24 s24 n24 h24 => ?_⟩
        have ea := s24 _ _ ea
        have FF24 := FF23.keep s24
        have h20 := s24 _ _ h20
        have h21 := s24 _ _ h21
        have h22 := s24 _ _ h22
        have h23 := s24 _ _ h23
        have bb := bb.trans (.of s24)
        refine q _ (.ref p24) (.tuple ((ds.take k ++ (ds.drop k).take 1) ++ ds.drop k)) (bb0.trans bb) (FF24.mono (by omega)) (.tup n24 h24 ((((r.k bb).take k).app (((r.k bb).drop k).take 1)).app ((r.k bb).drop k))) (fine_tup (sub fun d hd => ?_) ?_)
        · rcases List.mem_append.mp hd with hd | hd
          · exact (List.mem_append.mp hd).elim (tk d) (fun z => dk k d (List.mem_of_mem_take z))
          · exact dk k d hd
        · rw [wt_app, wt_app]
          have := wt_cut (ds.drop k) 1
          have := wt_cut ds k
          omega
      refine no (decide_eq_false fun z => w2 (V.int.inj z)) ?_
      refine ⟨_, rfl, rfl, _, rfl, ?_⟩
      by_cases w3 : d1 = 3
      · refine yes (decide_eq_true (by rw [w3])) ?_
        refine ⟨_, rfl, _, rfl, (k : Int), rfl, a, xs, rfl, na, ea, (fun p hp => F2.ne_none hp), fun J20 p20 s20 n20 h20 => ?_⟩
        rw [cut_take xs k (by omega)] at h20
        have ea := s20 _ _ ea
        have FF20 := F2.keep s20
        have bb := bb.trans (.of s20)
        have hm1 := s20 _ _ hm1
        have tm1 := tm1.k (.of s20)
        have r := r.k bb
        refine ⟨_, rfl, _, rfl, _, rfl, _, _, rfl, .inl (SqL.of hm1), f, s, ns, _, _, rfl, FF20, (by omega), (by omega), by omega, fun H9 d9 b9 F9 l9 u9 => ?_⟩
        obtain ⟨k9, v9, e9, _, _, at9, _, mem9, tr9⟩ := at_tr tm1 l9 u9
        have f9 := mF e9 mem9
        refine ⟨m, _, _, _, rfl, rfl, SqL.of (b9 _ _ nm hm1), at9, ?_⟩
        have ea := b9 _ _ na ea
        have r := r.k b9
        have tr9 := tr9.k b9
        have h20 := b9 _ _ n20 h20
        have bb := bb.trans b9
        have bc : But f H9 H9 := .of (Same.refl _)
        refine ⟨(by show 1 ≤ sizeLine; decide), fun p21 g21 => ?_⟩
        have s21 := same_new (o := .tup [v9]) g21
        have n21 := F9.ne_none g21
        have h21 := upd_same (H := H9) (a := p21) (o := .tup [v9])
        generalize upd H9 p21 (.tup [v9]) = J21 at s21 h21 ⊢
        have ea := s21 _ _ ea
        have FF21 := F9.keep s21
        have h20 := s21 _ _ h20
        have bb := bb.trans (.of s21)
        have bc := bc.trans (.of s21)
        refine ⟨p20, p21, _, _, rfl, rfl, n20, n21, h20, h21, (by rw [esz]; simp only [List.length_take, List.length_drop, List.length_append, List.length_cons, List.length_nil]; omega), (fun p hp => FF21.ne_none hp), fun J22 p22 s22 n22 h22 => ?_⟩
        have ea := s22 _ _ ea
        have FF22 := FF21.keep s22
        have h20 := s22 _ _ h20
        have h21 := s22 _ _ h21
        have bb := bb.trans (.of s22)
        have bc := bc.trans (.of s22)
        refine ⟨_, rfl, _, rfl, (k : Int), rfl, a, xs, rfl, na, ea, (fun p hp => FF22.ne_none hp), fun J23 p23 s23 n23 h23 => ?_⟩
        rw [cut_drop xs k (by omega)] at h23
        have ea := s23 _ _ ea
        have FF23 := FF22.keep s23
        have h20 := s23 _ _ h20
        have h21 := s23 _ _ h21
        have h22 := s23 _ _ h22
        have bb := bb.trans (.of s23)
        have bc := bc.trans (.of s23)
        refine ⟨p22, p23, _, _, rfl, rfl, n22, n23, h22, h23, (by rw [esz]; simp only [List.length_take, List.length_drop, List.length_append, List.length_cons, List.length_nil]; omega), (fun p hp => FF23.ne_none hp), fun J24 p24 s24 n24 h24 => ?_⟩
        have ea := s24 _ _ ea
        have FF24 := FF23.keep s24
        have h20 := s24 _ _ h20
        have h21 := s24 _ _ h21
        have h22 := s24 _ _ h22
        have h23 := s24 _ _ h23
        have bb := bb.trans (.of s24)
        have bc := bc.trans (.of s24)
        refine q _ (.ref p24) (.tuple ((ds.take k ++ [e9]) ++ ds.drop k)) (bb0.trans bb) (FF24.mono (by omega)) (.tup n24 h24 ((((r.k bc).take k).app (tr9.k bc).one).app ((r.k bc).drop k))) (fine_tup ?_ ?_)
        · intro d hd
          rcases List.mem_append.mp hd with hd | hd
          · rcases List.mem_append.mp hd with hd | hd
            · exact sub tk d hd
            · cases List.mem_singleton.mp hd
              exact ⟨f9.ok, by have := f9.dp; omega⟩
          · exact sub (dk k) d hd
        · rw [wt_app, wt_app]
          simp only [PyData.weightAll]
          have := wt_cut ds k
          have := f9.wt
          omega
      refine no (decide_eq_false fun z => w3 (V.int.inj z)) ?_
      refine ⟨_, rfl, rfl, _, rfl, ?_⟩
      by_cases w4 : d1 = 4
      · refine yes (decide_eq_true (by rw [w4])) ?_
        refine ⟨_, rfl, _, rfl, _, _, rfl, .inr (SqT.of ea), f, s, ns, _, _, rfl, F2, (by omega), (by omega), by omega, fun H9 d9 b9 F9 l9 u9 => ?_⟩
        have ea := b9 _ _ na ea
        have r := r.k b9
        obtain ⟨j, vj, y, rfl, hj, atj, hy, my, ty⟩ := at_tr r l9 u9
        have tx := tx.k b9
        have wy := wt_mem my
        refine ⟨_, rfl, a, xs, rfl, .inr (SqT.of ea), fun l hl => ?_⟩
        have sl := same_new (o := .lst xs) hl
        have nl := F9.ne_none hl
        have Fl := F9.keep sl
        have ls := F9.ne_s hl
        have hl2 := upd_same (H := H9) (a := l) (o := .lst xs)
        generalize hHl : upd H9 l (.lst xs) = Hl at sl hl2 Fl ⊢
        have ea := sl _ _ ea
        refine ⟨_, _, rfl, ?_⟩
        refine ⟨_, rfl, _, rfl, a, xs, _, vj, rfl, rfl, SqT.of ea, atj, _, rfl, _, rfl, a, xs, _, vk, rfl, rfl, SqT.of ea, atk, (by show 2 ≤ sizeLine; decide), fun t2 ht2 => ?_⟩
        have s2 := same_new (o := .tup [vj, vk]) ht2
        have g2 := upd_same (H := Hl) (a := t2) (o := .tup [vj, vk])
        generalize upd Hl t2 (.tup [vj, vk]) = H3 at s2 g2 ⊢
        have hl3 := s2 _ _ hl2
        have F3 := Fl.keep s2
        refine ⟨t2, _, rfl, SqT.of g2, rfl, vj, [vk], rfl, _, rfl, _, rfl, l, xs, _, k, rfl, rfl, hl3, ixN_nat hk, ?_⟩
        refine ⟨vk, [], rfl, _, rfl, _, rfl, l, xs.set k vj, _, j, rfl, rfl, upd_same, ixN_nat (by rw [List.length_set]; exact hj), rfl, ?_⟩
        refine ⟨_, rfl, l, (xs.set k vj).set j vk, rfl, .inl ⟨SqL.of upd_same, fun p hp => ?_⟩⟩
        rw [upd_upd] at hp ⊢
        have F5 := (F3.put (o := .lst ((xs.set k vj).set j vk)) nl ls)
        have F6 := F5.keep (same_new (o := .tup ((xs.set k vj).set j vk)) hp)
        have np := F5.ne_none hp
        have bf : But f H9 (upd (upd H3 l (.lst ((xs.set k vj).set j vk))) p (.tup ((xs.set k vj).set j vk))) := fun b o nb e => by
          have nbl : b ≠ l := ne_of_none e hl
          have e3 : (upd H3 l (.lst ((xs.set k vj).set j vk))) b = some o := by
            rw [upd_ne nbl]
            exact s2 _ _ (sl _ _ e)
          rw [upd_ne (ne_of_none e3 hp)]
          exact e3
        refine q _ (.ref p) (.tuple ((ds.set k y).set j x)) ((bb0.trans b9).trans bf) (F6.mono (by omega)) (.tup np upd_same ((((r.k bf).set k (ty.k bf))).set j (tx.k bf))) (fine_tup (sub fun d hd => ?_) ?_)
        · rcases List.mem_or_eq_of_mem_set hd with hd | rfl
          · rcases List.mem_or_eq_of_mem_set hd with hd | rfl
            · exact hd
            · exact my
          · exact mx
        · have := wt_set (ds.set k y) j x
          have := wt_set ds k y
          omega
      refine no (decide_eq_false fun z => w4 (V.int.inj z)) ?_
      refine ⟨_, rfl, rfl, _, rfl, ?_⟩
      by_cases w5 : d1 = 5
      · refine yes (decide_eq_true (by rw [w5])) ?_
        refine ⟨_, rfl, a, xs, rfl, .inr (SqT.of ea), fun l hl => ?_⟩
        have sl := same_new (o := .lst xs) hl
        refine q _ (.ref l) (.list ds) (bb0.trans (.of sl)) ((F2.keep sl).mono (by omega)) (.lst (F2.ne_none hl) upd_same (r.k (.of sl))) (fine_lst (sub fun d hd => hd) ?_)
        omega
      refine no (decide_eq_false fun z => w5 (V.int.inj z)) ?_
      refine ⟨_, rfl, _, rfl, (k : Int), rfl, a, xs, rfl, na, ea, (fun p hp => F2.ne_none hp), fun J20 p20 s20 n20 h20 => ?_⟩
      rw [cut_take xs k (by omega)] at h20
      have ea := s20 _ _ ea
      have FF20 := F2.keep s20
      have bb := bb.trans (.of s20)
      have hm1 := s20 _ _ hm1
      have tm1 := tm1.k (.of s20)
      have r := r.k bb
      have tx := tx.k bb
      have fx : Fine w (n - 1) x := ⟨(items x mx).1, (hF.item mx).wt, (items x mx).2⟩
      obtain ⟨k0, rfl, rfl⟩ : ∃ k0, n = k0 + 1 ∧ R = spSp Wm Dm k0 := hR.resolve_left (by omega)
      refine ⟨_, rfl, _, rfl, _, rfl, a, xs, _, vk, rfl, rfl, SqT.of ea, atk, _, rfl, f, s, m, ns, _, vk, x, mv, ms, w, rfl, FF20, by omega, tx, fx, hw, by omega, nm, hm1, tm1, m0, m1, mF, fun H9 v9 e9 b9 F9 tr9 f9 => ?_⟩
      have ea := b9 _ _ na ea
      have r := r.k b9
      have h20 := b9 _ _ n20 h20
      have bb := bb.trans b9
      have bc : But f H9 H9 := .of (Same.refl _)
      refine ⟨(by show 1 ≤ sizeLine; decide), fun p21 g21 => ?_⟩
      have s21 := same_new (o := .tup [v9]) g21
      have n21 := F9.ne_none g21
      have h21 := upd_same (H := H9) (a := p21) (o := .tup [v9])
      generalize upd H9 p21 (.tup [v9]) = J21 at s21 h21 ⊢
      have ea := s21 _ _ ea
      have FF21 := F9.keep s21
      have h20 := s21 _ _ h20
      have bb := bb.trans (.of s21)
      have bc := bc.trans (.of s21)
      refine ⟨p20, p21, _, _, rfl, rfl, n20, n21, h20, h21, (by rw [esz]; simp only [List.length_take, List.length_drop, List.length_append, List.length_cons, List.length_nil]; omega), (fun p hp => FF21.ne_none hp), fun J22 p22 s22 n22 h22 => ?_⟩
      have ea := s22 _ _ ea
      have FF22 := FF21.keep s22
      have h20 := s22 _ _ h20
      have h21 := s22 _ _ h21
      have bb := bb.trans (.of s22)
      have bc := bc.trans (.of s22)
      refine ⟨_, rfl, _, rfl, _, _, rfl, rfl, (k : Int) + 1, rfl, a, xs, rfl, na, ea, (fun p hp => FF22.ne_none hp), fun J23 p23 s23 n23 h23 => ?_⟩
      rw [k1, cut_drop xs (k + 1) (by omega)] at h23
      have ea := s23 _ _ ea
      have FF23 := FF22.keep s23
      have h20 := s23 _ _ h20
      have h21 := s23 _ _ h21
      have h22 := s23 _ _ h22
      have bb := bb.trans (.of s23)
      have bc := bc.trans (.of s23)
      refine ⟨p22, p23, _, _, rfl, rfl, n22, n23, h22, h23, (by rw [esz]; simp only [List.length_take, List.length_drop, List.length_append, List.length_cons, List.length_nil]; omega), (fun p hp => FF23.ne_none hp), fun J24 p24 s24 n24 h24 => ?_⟩
      have ea := s24 _ _ ea
      have FF24 := FF23.keep s24
      have h20 := s24 _ _ h20
      have h21 := s24 _ _ h21
      have h22 := s24 _ _ h22
      have h23 := s24 _ _ h23
      have bb := bb.trans (.of s24)
      have bc := bc.trans (.of s24)
      refine q _ (.ref p24) (.tuple ((ds.take k ++ [e9]) ++ ds.drop (k + 1))) (bb0.trans bb) (FF24.mono (by omega)) (.tup n24 h24 ((((r.k bc).take k).app (tr9.k bc).one).app ((r.k bc).drop (k + 1)))) (fine_tup ?_ ?_)
      · intro d hd
        rcases List.mem_append.mp hd with hd | hd
        · rcases List.mem_append.mp hd with hd | hd
          · exact sub tk d hd
          · cases List.mem_singleton.mp hd
            exact ⟨f9.ok, by have := f9.dp; omega⟩
        · exact sub (dk (k + 1)) d hd
      · rw [wt_app, wt_app]
        simp only [PyData.weightAll]
        have g9 := f9.wt
        have em : (k0 + 1 + 3) * w = (k0 + 3) * w + w := by rw [show k0 + 1 + 3 = (k0 + 3) + 1 by omega, Nat.add_mul, Nat.one_mul]
        omega
end
end K1

namespace K1
open PySem PySem.Spec PyProof.Rows L2 G Th
theorem ok_digits (a : Int) : okD (.str (Str.ofString (toString a))) = true := by
  show (Str.ofString (toString a)).cps.all (· < 0x110000) = true
  rw [Array.all_eq_true_iff_forall_mem]
  intro c hc
  have hc2 : c ∈ (Str.ofString (toString a)).cps.toList := by simpa using hc
  refine decide_eq_true ?_
  by_cases h : c < 0x110000
  · exact h
  · exact absurd hc2 (int_text_free' c ⟨by omega, .inr (by omega)⟩ a)
theorem ok_text {x : Str} (h : ∀ c ∈ x.cps.toList, c < 0x110000) : okD (.str x) = true := by
  show x.cps.all (· < 0x110000) = true
  rw [Array.all_eq_true_iff_forall_mem]
  intro c hc
  exact decide_eq_true (h c (by simpa using hc))
theorem wi {i : Int} {n : Nat} (hn : 0 < n) (h : i.natAbs < 2 ^ n) : (PyData.int i).weight ≤ n := by
  have l := PySem.Flt.log2_lt_of hn h
  show (if (i == 0) = true then 0 else i.natAbs.log2 + 1) ≤ n
  split <;> omega
theorem fi {i : Int} {n : Nat} (hn : 0 < n) (h : i.natAbs < 2 ^ n) (h3 : n ≤ 300) : Fine n 0 (.int i) :=
  ⟨decide_eq_true (Fr.bmono h h3), wi hn h, Nat.le_refl _⟩
theorem f1 {x : PyData} (hx : Fine 210 1 x) : Fine 700 2 (.tuple [x]) := by
  refine fine_tup (fun d hd => ?_) ?_
  · cases List.mem_singleton.mp hd
    exact ⟨hx.ok, hx.dp⟩
  · have := hx.wt
    simp only [PyData.weightAll]
    omega
theorem f2 {x y : PyData} (hx : Fine 210 1 x) (hy : Fine 210 1 y) : Fine 700 2 (.tuple [x, y]) := by
  refine fine_tup (fun d hd => ?_) ?_
  · simp only [List.mem_cons, List.not_mem_nil, or_false] at hd
    rcases hd with rfl | rfl
    · exact ⟨hx.ok, hx.dp⟩
    · exact ⟨hy.ok, hy.dp⟩
  · have := hx.wt
    have := hy.wt
    simp only [PyData.weightAll]
    omega
theorem l2 {x y : PyData} (hx : Fine 210 1 x) (hy : Fine 210 1 y) : Fine 700 2 (.list [x, y]) := by
  refine fine_lst (fun d hd => ?_) ?_
  · simp only [List.mem_cons, List.not_mem_nil, or_false] at hd
    rcases hd with rfl | rfl
    · exact ⟨hx.ok, hx.dp⟩
    · exact ⟨hy.ok, hy.dp⟩
  · have := hx.wt
    have := hy.wt
    simp only [PyData.weightAll]
    omega
theorem f3 {x y z : PyData} (hx : Fine 210 1 x) (hy : Fine 210 1 y) (hz : Fine 210 1 z) : Fine 700 2 (.tuple [x, y, z]) := by
  refine fine_tup (fun d hd => ?_) ?_
  · simp only [List.mem_cons, List.not_mem_nil, or_false] at hd
    rcases hd with rfl | rfl | rfl
    · exact ⟨hx.ok, hx.dp⟩
    · exact ⟨hy.ok, hy.dp⟩
    · exact ⟨hz.ok, hz.dp⟩
  · have := hx.wt
    have := hy.wt
    have := hz.wt
    simp only [PyData.weightAll]
    omega
theorem at_strs {L : List Str} {d : Int} (h0 : 0 ≤ d) (h1 : d < (L.length : Int)) : ∃ v, atI (L.map V.str) d = some (.str v) ∧ v ∈ L := by
  obtain ⟨n, rfl⟩ := Int.eq_ofNat_of_zero_le h0
  have hn : n < L.length := by omega
  refine ⟨L[n], atI_nat (j := n) ?_, List.getElem_mem hn⟩
  rw [List.getElem?_map, List.getElem?_eq_getElem hn]
  rfl
theorem joinL_nil : ∀ L : List (List Nat), TL.joinL [] L = L.flatten
  | [] => rfl
  | [p] => by simp [TL.joinL]
  | p :: q :: r => by
    show p ++ ([] ++ TL.joinL [] (q :: r)) = _
    rw [joinL_nil (q :: r)]
    rfl
section
variable {P : Program} {w : World} {K : PySem.W.Frag} {mg : Str → Option Value} {base : Heap}
theorem scText : FnScope ["_law_feed_here", "_law_signs", "_law_size", "_law_k"] ["_law_feed_here"] (defScope sText) := ⟨rfl, rfl, rfl, by decide +kernel, rfl, by decide +kernel, by decide +kernel⟩
abbrev scTextN : List Str := ["_law_feed_here", "_law_signs", "_law_size", "_law_k"]
abbrev scTextS : Scope := defScope sText
theorem scNear : FnScope ["_law_one", "_law_a", "_law_b", "_law_found"] ["_law_one"] (defScope sNear) := ⟨rfl, rfl, rfl, by decide +kernel, rfl, by decide +kernel, by decide +kernel⟩
abbrev scNearN : List Str := ["_law_one", "_law_a", "_law_b", "_law_found"]
abbrev scNearS : Scope := defScope sNear
theorem filt {ds : List PyData} {i : Nat} {d : PyData} (h : ds[i]? = some d) : (ds.take (i + 1)).filter (fun d => !isNum d) = (ds.take i).filter (fun d => !isNum d) ++ (if isNum d then [] else [d]) := by
  rw [List.take_add_one, h, List.filter_append]
  cases e : isNum d <;> simp [e]
theorem ok_lfr {f fN fC : Addr} {fd dN dC : FuncData} (F : Fun K "_law_is_fraction" "_law_is_fraction" sLFr f fd) (LN : At P w K mg base 1 "_law_is_number" ["_law_thing"] (spIs isNum) fN dN) (DV : At P w K mg base 1 "_law_divisor" ["_law_one", "_law_other"] spDiv fC dC)
    (m_isinstance : mg "isinstance" = none) (m_tuple : mg "tuple" = none) (m_len : mg "len" = none) (m_abs : mg "abs" = none) : FnOk P w K mg base CX0 2 f fd ["_law_thing"] (spIs isFr) := by
  refine F.ok scLFr (fun vs H Q E h => ?_) (fun cdv A outer s H vs Q E hr h => ?_)
  · obtain ⟨f, v, d, w, n, rfl, _⟩ := h
    rfl
  · obtain ⟨f, v, d, w, n, rfl, hT, hF, hw, hn, q⟩ := h
    have hr1 : Room 1 _ := hr
    refine ⟨_, (pss_cons (ps_if (PW.pt (pw_or (pt_not (pt_val (pe_callB call_isi (by rfl) m_isinstance (by decide +kernel) (pa_cons (pv 0) (pa_cons (pe_bltn (v := .ty "tuple") (by rfl) m_tuple (by decide +kernel) rfl) pa_nil))))) (pw_or (pt_cmpR op_ne (pe_callB call_len_seq (by rfl) m_len PySem.boot_len (pa_cons (pv 0) pa_nil)) pe_int (nomark _)) (pw_or1 (pt_cmpR (op_neD hr.units) (pe_lc (own := [("_law_one", 1)]) (g := gName 1)  rfl scLFr.nd (pi_tup (pv 0)) (blkOk_by (own := [("_law_one", 1)]) (N := scLFrN) (sc := scLFrS) (by decide +kernel)) (fun _ _ _ _ _ => (pg_name (i := 1) scLFr.nd rfl (.inl rfl))) (fun _ _ _ _ _ => pts_one (pt_not (pt_val (pe_call LN.G hr1 (by rfl) LN.g LN.k LN.b .nil pass0 (pa_cons (pv 1) pa_nil))))) (fun _ _ _ _ _ => (pv 1))) (pe_lst pa_nil) (nomark _)))))) (pss_one (ps_ret pe_bl)) pss_nil)
      (pss_one (ps_ret (pe_and (pe_cmpR op_gt (pe_ix ix_tup (pv 0) pe_int (fun _ _ => rfl)) pe_int (nomark _)) (pe_one (pe_cmpR op_eq (pe_call DV.G hr1 (by rfl) DV.g DV.k DV.b .nil pass0 (pa_cons (pe_callB call_abs (by rfl) m_abs boot_abs (pa_cons (pe_ix ix_tup (pv 0) pe_int (fun _ _ => rfl)) pa_nil)) (pa_cons (pe_ix ix_tup (pv 0) pe_int (fun _ _ => rfl)) pa_nil))) pe_int (nomark _))))))), ?_⟩
    refine ⟨_, rfl, _, _, _, _, _, rfl, .ty _, hT.tyx, kit_ty (kit_tuple _), _, rfl, ?_⟩
    cases hT with
    | int i => exact q _ (Same.refl _)
    | bl b => exact q _ (Same.refl _)
    | non => exact q _ (Same.refl _)
    | str _ => exact q _ (Same.refl _)
    | lst _ _ _ => exact q _ (Same.refl _)
    | @tup a xs ds na e r =>
      refine ⟨_, rfl, _, _, rfl, .inr (SqT.of e), rfl, _, rfl, ?_⟩
      by_cases h2 : ds.length = 2
      · obtain ⟨v1, v2, d1, d2, rfl, rfl, t1, t2⟩ := two_of r h2
        refine no (by rfl) ?_
        refine ⟨_, rfl, a, rfl, ⟨_, SqT.of e⟩, fun D hD => ?_⟩
        refine lc_it (walk_tup (K := K) (a := a) (xs := [v1, v2])) (fun i H' => ∃ vs, TrAll f H vs ((([d1, d2] : List PyData).take i).filter fun d => !isNum d) ∧ H' D = some (.lst vs) ∧ vs.length ≤ i ∧ Same H H') ⟨[], .nil, upd_same, Nat.zero_le _, same_new hD⟩ ?_ ?_ ?_
        · rintro i H1 _ ⟨_, _, _, _, sm⟩
          exact SqT.of (sm _ _ e)
        · rintro i y H1 H2 hi ⟨vs, tv, hd, lv, sm⟩ ⟨rfl, hy⟩
          obtain ⟨d, hd', ty⟩ := r.get hy
          have fd := hF.item (List.mem_of_getElem? hd')
          refine ⟨rfl, ?_⟩
          refine ⟨_, rfl, f, y, d, w, n, rfl, ty.k (.of sm), fd, hw, hn, fun H3 s3 => ?_⟩
          refine ⟨_, rfl, ?_⟩
          have st := filt hd'
          cases en : isNum d with
          | true =>
            rw [en, if_pos rfl, List.append_nil] at st
            refine no rfl ?_
            exact ⟨vs, by rw [st]; exact tv, s3 _ _ hd, by omega, sm.trans s3⟩
          | false =>
            rw [en, if_neg (by decide)] at st
            refine yes rfl ?_
            refine ⟨_, rfl, vs, s3 _ _ hd, (by have : i < 2 := hi; exact Nat.lt_of_le_of_lt (show vs.length ≤ 2 by omega) (by decide)), vs ++ [y], by rw [st]; exact tv.app ty.one, upd_same, (by rw [List.length_append]; simp; omega), ?_⟩
            intro b o eb
            rw [upd_ne (ne_of_none eb hD)]
            exact s3 _ _ (sm _ _ eb)
        · rintro H1 ⟨vs, tv, hd, lv, sm⟩
          refine ⟨Nat.zero_le _, fun t ht => ?_⟩
          have s2 := same_new (o := .lst []) ht
          have sm2 := sm.trans s2
          have e2 := sm2 _ _ e
          have mem : ∀ d ∈ (([d1, d2] : List PyData).take 2).filter (fun d => !isNum d), okD d = true ∧ d.depth ≤ 40 := fun d hd => by
            have := hF.item (List.mem_of_mem_take (List.mem_filter.mp hd).1)
            exact ⟨this.ok, Nat.le_trans this.dp hn⟩
          refine ⟨_, _, .lst (SqL.of (s2 _ _ hd)) (tv.k (.of sm2)).dp, .lst (SqL.of upd_same) .nil, shaped_list mem, by decide, _, rfl, ?_⟩
          have em : PyData.eqv (.list ((([d1, d2] : List PyData).take 2).filter fun d => !isNum d)) (.list []) = (isNum d1 && isNum d2) := by
            rw [eq_nil]
            show (([d1, d2] : List PyData).filter fun d => !isNum d).isEmpty = _
            cases h1 : isNum d1 <;> cases h2 : isNum d2 <;> simp [h1, h2]
          have nf : (isNum d1 && isNum d2) = false → isFr (.tuple [d1, d2]) = false := by
            intro z
            cases d1 <;> cases d2 <;> first | rfl | (cases z)
          have both : (isNum d1 && isNum d2) = true → ∃ a1 b1, d1 = .int a1 ∧ d2 = .int b1 := by
            intro z
            cases d1 <;> cases d2 <;> first | exact ⟨_, _, rfl, rfl⟩ | (cases z)
          cases bo : (isNum d1 && isNum d2) with
          | false =>
            refine yes ?_ ?_
            · show (!PyData.eqv (.list ((([d1, d2] : List PyData).take 2).filter fun d => !isNum d)) (.list [])) = true
              rw [em, bo]
              rfl
            · rw [nf bo] at q
              exact q _ sm2
          | true =>
            refine no ?_ ?_
            · show (!PyData.eqv (.list ((([d1, d2] : List PyData).take 2).filter fun d => !isNum d)) (.list [])) = false
              rw [em, bo]
              rfl
            · obtain ⟨a1, b1, rfl, rfl⟩ := both bo
              cases t1
              cases t2
              have lf : isFr (.tuple [.int a1, .int b1]) = (decide (0 < b1) && decide (Int.gcd a1 b1 = 1)) := rfl
              refine ⟨_, rfl, _, _, _, _, rfl, rfl, SqT.of e2, atI_nat (j := 1) rfl, _, _, rfl, rfl, _, rfl, ?_⟩
              by_cases hb : 0 < b1
              · refine yes (decide_eq_true hb) ?_
                have ab0 : 0 ≤ (if a1 < 0 then -a1 else a1) := by split <;> omega
                have ab : Int.gcd (if a1 < 0 then -a1 else a1) b1 = Int.gcd a1 b1 := by
                  split
                  · rw [Int.neg_gcd]
                  · rfl
                refine ⟨_, rfl, _, _, _, _, rfl, rfl, SqT.of e2, atI_nat (j := 0) rfl, a1, rfl, _, rfl, _, _, _, _, rfl, rfl, SqT.of e2, atI_nat (j := 1) rfl, _, b1, rfl, ab0, by omega, rfl, ?_⟩
                have e3 : decide (V.int ((Int.gcd (if a1 < 0 then -a1 else a1) b1 : Nat) : Int) = V.int 1) = isFr (.tuple [.int a1, .int b1]) := by
                  rw [ab, lf, decide_eq_true hb, Bool.true_and, Bool.eq_iff_iff, decide_eq_true_iff, decide_eq_true_iff]
                  constructor
                  · intro h
                    have := V.int.inj h
                    omega
                  · intro h
                    rw [h]
                    rfl
                rw [e3]
                exact q _ sm2
              · refine no (decide_eq_false hb) ?_
                rw [lf, decide_eq_false hb, Bool.false_and] at q
                exact q _ sm2
      · refine yes ?_ ?_
        · rw [r.len]
          rw [decide_eq_false (fun z => h2 (by have := V.int.inj z; omega))]
          rfl
        · rw [no_two h2] at q
          exact q _ (Same.refl _)
def signs8 : List Str := ["a", "A", " ", "0", "`", "{", "z", "-"]
theorem signs_ok : ∀ x ∈ signs8, ((("abcmyzaz" : Str) ++ x).cps.toList.all (fun c => decide (c < 0x110000)) && decide ((("abcmyzaz" : Str) ++ x).cps.toList.length = 9) && decide (x.length = 1)) = true := by decide +kernel
theorem abc8 : ("abcmyzaz" : Str).length = 8 := by decide +kernel
def spText : Sp := fun vs H Q _ => ∃ (f s : Addr) (ns : List Int) (B : Int), vs = [.ref f] ∧ Fd H f s ns B ∧ B < 2 ^ 38 ∧ ∀ H' x, But f H H' → Fd H' f s ns (B + 12) → okD (.str x) = true → x.length ≤ 9 → Q (.str x) H'
theorem ok_txt {f fD : Addr} {fd dD : FuncData} (F : Fun K "_law_text" "_law_text" sText f fd) (DR : At P w K mg base 1 "_law_draw" ["_law_feed_here", "_law_many"] spDraw fD dD) (mRange : mg "range" = none) : FnOk P w K mg base CX0 2 f fd ["_law_feed_here"] spText := by
  refine F.ok scText (fun vs H Q E h => ?_) (fun cdv A outer s0 H vs Q E hr h => ?_)
  · obtain ⟨f, s, ns, B, rfl, _⟩ := h
    rfl
  · obtain ⟨f, s, ns, B, rfl, FD, hB, q⟩ := h
    have hr1 : Room 1 _ := hr
    have e38 : (2 : Int) ^ 38 = 274877906944 := by decide
    have e40 : (2 : Int) ^ 40 = 1099511627776 := by decide
    refine ⟨_, (pss_cons (ps_set (i := 1) scText.nd rfl (.inr rfl) (pe_op op_add_str pe_str (pe_ix ix_list (pe_lst (pa_cons pe_str (pa_cons pe_str (pa_cons pe_str (pa_cons pe_str (pa_cons pe_str (pa_cons pe_str (pa_cons pe_str (pa_cons pe_str pa_nil))))))))) (pe_call DR.G hr1 (by rfl) DR.g DR.k DR.b .nil pass0 (pa_cons (pv 0) (pa_cons pe_int pa_nil))) (fun _ _ => rfl))))
      (pss_cons (ps_set (i := 2) scText.nd rfl (.inl rfl) (pe_call DR.G hr1 (by rfl) DR.g DR.k DR.b .nil pass0 (pa_cons (pv 0) (pa_cons pe_int pa_nil))))
      (pss_one (ps_ret (pe_join pe_str (pe_lc (own := [("_law_k", 3)]) (g := gName 3) (tt := tYes) rfl scText.nd (pi_range1 (by rfl) mRange (pa_cons (pv 2) pa_nil)) (blkOk_by (own := [("_law_k", 3)]) (N := scTextN) (sc := scTextS) (by decide +kernel)) (fun _ _ _ _ _ => (pg_name (i := 3) scText.nd rfl (.inl rfl))) (fun _ _ _ _ _ => pts_nil) (fun _ _ _ _ _ => (pe_ix ix_str (pv 1) (pe_call DR.G hr1 (by rfl) DR.g DR.k DR.b .nil pass0 (pa_cons (pv 0) (pa_cons pe_int pa_nil))) (fun _ _ => rfl))))))))), ?_⟩
    refine ⟨(by show 8 ≤ sizeLine; decide), fun t ht => ?_⟩
    have st := same_new (o := .lst (signs8.map V.str)) ht
    have ht1 := upd_same (H := H) (a := t) (o := .lst (signs8.map V.str))
    have e8 : upd H t (.lst [.str "a", .str "A", .str " ", .str "0", .str "`", .str "{", .str "z", .str "-"]) = upd H t (.lst (signs8.map V.str)) := rfl
    rw [e8]
    generalize upd H t (.lst (signs8.map V.str)) = H1 at st ht1 ⊢
    refine ⟨_, rfl, f, s, ns, _, 8, rfl, FD.keep st, (by decide), (by decide), by omega, fun H2 d2 b2 F2 l2 u2 => ?_⟩
    obtain ⟨x, hx, mx⟩ := at_strs (L := signs8) l2 u2
    have ok := signs_ok x mx
    rw [Bool.and_eq_true, Bool.and_eq_true, decide_eq_true_iff, decide_eq_true_iff] at ok
    have ok1 := List.all_eq_true.mp ok.1.1
    have ok2 := ok.1.2
    have ok3 := ok.2
    have len : (("abcmyzaz" : Str) ++ x).length = 9 := by
      have z : (("abcmyzaz" : Str) ++ x).cps.toList.length = (("abcmyzaz" : Str) ++ x).length := Array.length_toList
      omega
    refine ⟨t, _, _, _, rfl, rfl, SqL.of (b2 _ _ (FD.ne_none ht) ht1), hx, _, _, rfl, rfl, ?_, ?_⟩
    · rw [abc8, ok3]
      decide
    · refine ⟨_, rfl, f, s, ns, _, 10, rfl, F2, (by decide), (by decide), by omega, fun H3 d3 b3 F3 l3 u3 => ?_⟩
      generalize (("abcmyzaz" : Str) ++ x) = z at ok1 ok2 len ⊢
      refine ⟨⟨_, rfl⟩, _, rfl, d3, rfl, by omega, by omega, fun D hD => ?_⟩
      have nDf := F3.ne_none hD
      have nDs := F3.ne_s hD
      have bt3 : But f H H3 := (But.of st).trans (b2.trans b3)
      refine lc_range (lo := 0) (n := d3.toNat) (fun i H' => ∃ L : List Nat, L.length = i ∧ (∀ c ∈ L, c < 0x110000) ∧ H' D = some (.lst (L.map fun c => V.str ⟨#[c]⟩)) ∧ But f H3 H' ∧ Fd H' f s ns (B + 2 + i)) ?_ ?_ ?_
      · exact ⟨[], rfl, by simp, upd_same, .of (same_new hD), (F3.put nDf nDs).mono (by omega)⟩
      · rintro i H' hi ⟨L, hL, hv, hl, bt, F4⟩
        refine ⟨rfl, ?_⟩
        refine ⟨_, rfl, _, rfl, f, s, ns, _, 9, rfl, F4, (by decide), (by decide), by omega, fun H5 d5 b5 F5 l5 u5 => ?_⟩
        obtain ⟨k5, rfl⟩ := Int.eq_ofNat_of_zero_le l5
        have hk : k5 < z.cps.toList.length := by omega
        refine ⟨z, _, z.cps.toList[k5], rfl, rfl, (by rw [len]; decide), atI_nat (j := k5) (List.getElem?_eq_getElem hk), _, b5 _ _ nDf hl, (by rw [List.length_map, hL]; exact Nat.lt_of_lt_of_le hi (Nat.le_trans (show d3.toNat ≤ 10 by omega) (by decide))), L ++ [z.cps.toList[k5]], (by rw [List.length_append, hL]; rfl), ?_, ?_, ?_, ?_⟩
        · intro c hc
          rcases List.mem_append.mp hc with hc | hc
          · exact hv c hc
          · cases List.mem_singleton.mp hc
            exact of_decide_eq_true (ok1 _ (List.getElem_mem hk))
        · rw [upd_same, List.map_append]
          rfl
        · intro b o nb e
          rw [upd_ne (ne_of_none e hD)]
          exact b5 _ _ nb (bt _ _ nb e)
        · exact (F5.put nDf nDs).mono (by omega)
      · rintro H' ⟨L, hL, hv, hl, bt, F4⟩
        have em : (L.map fun c => V.str ⟨#[c]⟩) = ((L.map fun c => [c]).map SX.S).map V.str := by
          rw [List.map_map, List.map_map]
          rfl
        have ls : (((L.map fun c => [c]).map SX.S).map (·.length)).sum = L.length := by
          clear hL hv hl em
          induction L with
          | nil => rfl
          | cons c r ih =>
            rw [List.map_cons, List.map_cons, List.map_cons, List.sum_cons, ih, List.length_cons]
            show 1 + r.length = _
            omega
        have ej : Txt.join ("" : Str) ((L.map fun c => [c]).map SX.S) = SX.S L := by
          have e0 : ("" : Str) = SX.S [] := by decide +kernel
          rw [e0, SX.join_S, joinL_nil]
          congr 1
          clear hL hv hl em ls
          induction L with
          | nil => rfl
          | cons c r ih =>
            rw [List.map_cons, List.flatten_cons, ih]
            rfl
        refine ⟨_, D, (L.map fun c => [c]).map SX.S, rfl, rfl, .inl ?_, ?_, ?_⟩
        · rw [← em]
          exact SqL.of hl
        · rw [ls, List.length_map, List.length_map]
          have : ("" : Str).length = 0 := by decide +kernel
          rw [this]
          omega
        · rw [ej]
          refine q _ _ (bt3.trans bt) (F4.mono (by omega)) (ok_text fun c hc => hv c ?_) ?_
          · simpa [SX.S] using hc
          · show L.toArray.size ≤ 9
            rw [List.size_toArray]
            omega
end
end K1

namespace K1
open PySem PySem.Spec PyProof.Rows L2 G Th
theorem all_app {ds es : List PyData} {p : PyData → Prop} (h1 : ∀ d ∈ ds, p d) (h2 : ∀ d ∈ es, p d) : ∀ d ∈ ds ++ es, p d := fun d hd => (List.mem_append.mp hd).elim (h1 d) (h2 d)
theorem all_one {e : PyData} {p : PyData → Prop} (h : p e) : ∀ d ∈ [e], p d := fun d hd => by
  cases List.mem_singleton.mp hd
  exact h
theorem all_nil {p : PyData → Prop} : ∀ d ∈ ([] : List PyData), p d := fun d hd => nomatch hd
section
variable {P : Program} {w : World} {K : PySem.W.Frag} {mg : Str → Option Value} {base : Heap}
def spNear : Sp := fun vs H Q _ => ∃ (f p : Addr) (a b : Int), vs = [.ref p] ∧ p ≠ f ∧ H p = some (.tup [.int a, .int b]) ∧ a.natAbs < 2 ^ 20 ∧ b.natAbs < 2 ^ 20 ∧ (∀ q, H q = none → q ≠ f) ∧ (∃ o, H f = some o) ∧
  ∀ H' l vs ds, Same H H' → l ≠ f → H' l = some (.lst vs) → vs.length = 25 → TrAll f H' vs ds → (∀ d ∈ ds, Fine 700 2 d) → Q (.ref l) H'
theorem fin_in {a : Int} (ha : a.natAbs < 2 ^ 20) : Fine 210 1 (.tuple [.int a, .int 1]) := by
  refine fine_tup (fun d hd => ?_) ?_
  · simp only [List.mem_cons, List.not_mem_nil, or_false] at hd
    rcases hd with rfl | rfl
    · exact ⟨(fi (n := 20) (by decide) ha (by decide)).ok, Nat.le_refl _⟩
    · exact ⟨by decide, Nat.le_refl _⟩
  · have := wi (n := 20) (by decide) ha
    have := wi (n := 1) (i := 1) (by decide) (by decide)
    simp only [PyData.weightAll]
    omega
theorem ok_near {f : Addr} {fd : FuncData} (F : Fun K "_law_near" "_law_near" sNear f fd) (m_str : mg "str" = none) : FnOk P w K mg base CX0 1 f fd ["_law_one"] spNear := by
  refine F.ok scNear (fun vs H Q E h => ?_) (fun cdv A outer s0 H vs Q E hr h => ?_)
  · obtain ⟨f, p, a, b, rfl, _⟩ := h
    rfl
  · obtain ⟨f, p, a, b, rfl, np, hp, ha, hb, nf, fo, q⟩ := h
    have la : a.natAbs.log2 < 1920 := Nat.lt_trans (PySem.Flt.log2_lt_of (by decide) ha) (by decide)
    have wdig : PyData.weight (.str (Str.ofString (toString a))) ≤ 200 := by
      have t := int_text_length_le (a := a) (k := 20) (by decide) (PySem.Flt.log2_lt_of (by decide) ha)
      have e : (Str.ofString (toString a)).length = (toString a).length := PySem.ofString_length _
      show (Str.ofString (toString a)).length ≤ 200
      omega
    refine ⟨_, (pss_cons (ps_asg (pv 0) (pg_tup rfl (pgs_cons (pg_name (i := 1) scNear.nd rfl (.inl rfl)) (pgs_cons (pg_name (i := 2) scNear.nd rfl (.inl rfl)) pgs_nil))))
      (pss_cons (ps_set (i := 3) scNear.nd rfl (.inl rfl) (pe_lst (pa_cons (pv 0) (pa_cons (pe_tup (pa_cons (pe_op op_mulW (pv 1) pe_int) (pa_cons (pe_op op_mulW (pv 2) pe_int) pa_nil))) (pa_cons (pe_tup (pa_cons (pe_op op_sub pe_int (pv 1)) (pa_cons (pe_op op_sub pe_int (pv 2)) pa_nil))) (pa_cons (pe_tup (pa_cons (pv 1) (pa_cons pe_int pa_nil))) (pa_cons (pe_tup (pa_cons pe_int (pa_cons (pv 2) pa_nil))) (pa_cons (pe_tup (pa_cons (pv 1) (pa_cons pe_bl pa_nil))) (pa_cons (pe_tup (pa_cons pe_bl (pa_cons (pv 2) pa_nil))) (pa_cons (pe_tup (pa_cons (pv 1) (pa_cons (pv 2) (pa_cons pe_int pa_nil)))) (pa_cons (pe_tup (pa_cons (pv 1) pa_nil)) (pa_cons (pe_lst (pa_cons (pv 1) (pa_cons (pv 2) pa_nil))) (pa_cons (pv 1) pa_nil)))))))))))))
      (pss_cons (ps_set (i := 3) scNear.nd rfl (.inl rfl) (pe_op op_cat (pv 3) (pe_lst (pa_cons (pe_tup (pa_cons (pe_op op_mulW (pv 1) pe_int) (pa_cons (pe_op op_mulW (pv 2) pe_int) pa_nil))) (pa_cons (pe_tup (pa_cons (pe_op op_add (pv 1) (pv 2)) (pa_cons (pv 2) pa_nil))) (pa_cons (pe_tup (pa_cons (pe_callTy call_str_int (by rfl) m_str (by decide +kernel) (pa_cons (pv 1) pa_nil)) (pa_cons (pv 2) pa_nil))) (pa_cons (pe_tup (pa_cons (pv 1) (pa_cons pe_non pa_nil))) (pa_cons (pe_tup (pa_cons (pe_tup (pa_cons (pv 1) (pa_cons pe_int pa_nil))) (pa_cons (pv 2) pa_nil))) (pa_cons (pe_tup (pa_cons (pv 2) (pa_cons (pv 2) pa_nil))) (pa_cons (pe_tup (pa_cons pe_int (pa_cons pe_int pa_nil))) (pa_cons (pe_tup (pa_cons pe_int (pa_cons pe_int pa_nil))) (pa_cons (pe_tup (pa_cons pe_int (pa_cons pe_int pa_nil))) pa_nil))))))))))))
      (pss_one (ps_ret (pe_op op_cat (pv 3) (pe_lst (pa_cons (pe_tup (pa_cons pe_int (pa_cons (pe_op op_pow pe_int pe_int) pa_nil))) (pa_cons (pe_tup (pa_cons (pe_op op_add (pe_op op_pow pe_int pe_int) pe_int) (pa_cons (pe_op op_pow pe_int pe_int) pa_nil))) (pa_cons (pe_tup (pa_cons (pe_op op_pow pe_int pe_int) (pa_cons (pe_op op_pow pe_int pe_int) pa_nil))) (pa_cons (pe_tup (pa_cons (pe_op op_pow pe_int pe_int) (pa_cons pe_int pa_nil))) (pa_cons (pe_tup (pa_cons (pe_un un_neg pe_int) (pa_cons (pe_op op_pow pe_int pe_int) pa_nil))) pa_nil)))))))))))), ?_⟩
    have tone : Tr f H (.ref p) (.tuple [.int a, .int b]) := .tup np hp (.cons (.int a) (.cons (.int b) .nil))
    have sm : Same H H := Same.refl _
    have acc : TrAll f H [] [] := .nil
    have fin : ∀ d ∈ ([] : List PyData), Fine 700 2 d := all_nil
    refine ⟨_, rfl, p, _, rfl, SqT.of hp, rfl, _, _, rfl, _, _, rfl, rfl, ?_⟩
    have acc : TrAll f H [.ref p] [.tuple [.int a, .int b]] := acc.app (Tr.one (f := f) (show Tr f H (.ref p) (.tuple [.int a, .int b]) from tone))
    have fin : ∀ d ∈ ([.tuple [.int a, .int b]] : List PyData), Fine 700 2 d := all_app fin (all_one (e := .tuple [.int a, .int b]) (f2 ((fi (n := 200) (by decide) (Fr.bmono ha (by decide)) (by decide)).mono (by decide) (by decide)) ((fi (n := 200) (by decide) (Fr.bmono hb (by decide)) (by decide)).mono (by decide) (by decide))))
    refine ⟨_, rfl, _, rfl, _, _, rfl, rfl, mw (Fr.bmono ha (by decide)) (by decide), _, rfl, _, _, rfl, rfl, mw (Fr.bmono hb (by decide)) (by decide), (by show 2 ≤ sizeLine; decide), fun p1 g1 => ?_⟩
    have n1 := nf p1 g1
    have s1 := same_new (o := .tup [.int (a * 2), .int (b * 2)]) g1
    have t_1 : Tr f (upd H p1 (.tup [.int (a * 2), .int (b * 2)])) (.ref p1) (.tuple [.int (a * 2), .int (b * 2)]) := .tup n1 upd_same (.cons (.int (a * 2)) (.cons (.int (b * 2)) .nil))
    generalize upd H p1 (.tup [.int (a * 2), .int (b * 2)]) = J1 at s1 t_1 ⊢
    have acc := acc.k (.of s1)
    have tone := tone.k (f := f) (.of s1)
    have sm := sm.trans s1
    have nf : ∀ q, J1 q = none → q ≠ f := fun q hq => nf q (s1.free hq)
    have acc : TrAll f J1 [.ref p, .ref p1] [.tuple [.int a, .int b], .tuple [.int (a * 2), .int (b * 2)]] := acc.app (Tr.one (f := f) (show Tr f J1 (.ref p1) (.tuple [.int (a * 2), .int (b * 2)]) from t_1))
    have fin : ∀ d ∈ ([.tuple [.int a, .int b], .tuple [.int (a * 2), .int (b * 2)]] : List PyData), Fine 700 2 d := all_app fin (all_one (e := .tuple [.int (a * 2), .int (b * 2)]) (f2 ((fi (n := 200) (by decide) (Fr.bmono (Fr.bmul ha (show (2 : Int).natAbs < 2 ^ 3 by decide)) (by decide)) (by decide)).mono (by decide) (by decide)) ((fi (n := 200) (by decide) (Fr.bmono (Fr.bmul hb (show (2 : Int).natAbs < 2 ^ 3 by decide)) (by decide)) (by decide)).mono (by decide) (by decide))))
    refine ⟨_, rfl, _, _, rfl, rfl, _, rfl, _, _, rfl, rfl, (by show 2 ≤ sizeLine; decide), fun p2 g2 => ?_⟩
    have n2 := nf p2 g2
    have s2 := same_new (o := .tup [.int (0 - a), .int (0 - b)]) g2
    have t_2 : Tr f (upd J1 p2 (.tup [.int (0 - a), .int (0 - b)])) (.ref p2) (.tuple [.int (0 - a), .int (0 - b)]) := .tup n2 upd_same (.cons (.int (0 - a)) (.cons (.int (0 - b)) .nil))
    generalize upd J1 p2 (.tup [.int (0 - a), .int (0 - b)]) = J2 at s2 t_2 ⊢
    have acc := acc.k (.of s2)
    have tone := tone.k (f := f) (.of s2)
    have sm := sm.trans s2
    have nf : ∀ q, J2 q = none → q ≠ f := fun q hq => nf q (s2.free hq)
    have acc : TrAll f J2 [.ref p, .ref p1, .ref p2] [.tuple [.int a, .int b], .tuple [.int (a * 2), .int (b * 2)], .tuple [.int (0 - a), .int (0 - b)]] := acc.app (Tr.one (f := f) (show Tr f J2 (.ref p2) (.tuple [.int (0 - a), .int (0 - b)]) from t_2))
    have fin : ∀ d ∈ ([.tuple [.int a, .int b], .tuple [.int (a * 2), .int (b * 2)], .tuple [.int (0 - a), .int (0 - b)]] : List PyData), Fine 700 2 d := all_app fin (all_one (e := .tuple [.int (0 - a), .int (0 - b)]) (f2 ((fi (n := 200) (by decide) (Fr.bmono (Fr.bsub (show (0 : Int).natAbs < 2 ^ 20 by decide) ha) (by decide)) (by decide)).mono (by decide) (by decide)) ((fi (n := 200) (by decide) (Fr.bmono (Fr.bsub (show (0 : Int).natAbs < 2 ^ 20 by decide) hb) (by decide)) (by decide)).mono (by decide) (by decide))))
    refine ⟨_, rfl, (by show 2 ≤ sizeLine; decide), fun p3 g3 => ?_⟩
    have n3 := nf p3 g3
    have s3 := same_new (o := .tup [.int a, .int 0]) g3
    have t_3 : Tr f (upd J2 p3 (.tup [.int a, .int 0])) (.ref p3) (.tuple [.int a, .int 0]) := .tup n3 upd_same (.cons (.int a) (.cons (.int 0) .nil))
    generalize upd J2 p3 (.tup [.int a, .int 0]) = J3 at s3 t_3 ⊢
    have acc := acc.k (.of s3)
    have tone := tone.k (f := f) (.of s3)
    have sm := sm.trans s3
    have nf : ∀ q, J3 q = none → q ≠ f := fun q hq => nf q (s3.free hq)
    have acc : TrAll f J3 [.ref p, .ref p1, .ref p2, .ref p3] [.tuple [.int a, .int b], .tuple [.int (a * 2), .int (b * 2)], .tuple [.int (0 - a), .int (0 - b)], .tuple [.int a, .int 0]] := acc.app (Tr.one (f := f) (show Tr f J3 (.ref p3) (.tuple [.int a, .int 0]) from t_3))
    have fin : ∀ d ∈ ([.tuple [.int a, .int b], .tuple [.int (a * 2), .int (b * 2)], .tuple [.int (0 - a), .int (0 - b)], .tuple [.int a, .int 0]] : List PyData), Fine 700 2 d := all_app fin (all_one (e := .tuple [.int a, .int 0]) (f2 ((fi (n := 200) (by decide) (Fr.bmono ha (by decide)) (by decide)).mono (by decide) (by decide)) ((fi (n := 200) (by decide) (by decide) (by decide)).mono (by decide) (by decide))))
    refine ⟨_, rfl, (by show 2 ≤ sizeLine; decide), fun p4 g4 => ?_⟩
    have n4 := nf p4 g4
    have s4 := same_new (o := .tup [.int 0, .int b]) g4
    have t_4 : Tr f (upd J3 p4 (.tup [.int 0, .int b])) (.ref p4) (.tuple [.int 0, .int b]) := .tup n4 upd_same (.cons (.int 0) (.cons (.int b) .nil))
    generalize upd J3 p4 (.tup [.int 0, .int b]) = J4 at s4 t_4 ⊢
    have acc := acc.k (.of s4)
    have tone := tone.k (f := f) (.of s4)
    have sm := sm.trans s4
    have nf : ∀ q, J4 q = none → q ≠ f := fun q hq => nf q (s4.free hq)
    have acc : TrAll f J4 [.ref p, .ref p1, .ref p2, .ref p3, .ref p4] [.tuple [.int a, .int b], .tuple [.int (a * 2), .int (b * 2)], .tuple [.int (0 - a), .int (0 - b)], .tuple [.int a, .int 0], .tuple [.int 0, .int b]] := acc.app (Tr.one (f := f) (show Tr f J4 (.ref p4) (.tuple [.int 0, .int b]) from t_4))
    have fin : ∀ d ∈ ([.tuple [.int a, .int b], .tuple [.int (a * 2), .int (b * 2)], .tuple [.int (0 - a), .int (0 - b)], .tuple [.int a, .int 0], .tuple [.int 0, .int b]] : List PyData), Fine 700 2 d := all_app fin (all_one (e := .tuple [.int 0, .int b]) (f2 ((fi (n := 200) (by decide) (by decide) (by decide)).mono (by decide) (by decide)) ((fi (n := 200) (by decide) (Fr.bmono hb (by decide)) (by decide)).mono (by decide) (by decide))))
    refine ⟨_, rfl, (by show 2 ≤ sizeLine; decide), fun p5 g5 => ?_⟩
    have n5 := nf p5 g5
    have s5 := same_new (o := .tup [.int a, .bl true]) g5
    have t_5 : Tr f (upd J4 p5 (.tup [.int a, .bl true])) (.ref p5) (.tuple [.int a, .bool true]) := .tup n5 upd_same (.cons (.int a) (.cons (.bl true) .nil))
    generalize upd J4 p5 (.tup [.int a, .bl true]) = J5 at s5 t_5 ⊢
    have acc := acc.k (.of s5)
    have tone := tone.k (f := f) (.of s5)
    have sm := sm.trans s5
    have nf : ∀ q, J5 q = none → q ≠ f := fun q hq => nf q (s5.free hq)
    have acc : TrAll f J5 [.ref p, .ref p1, .ref p2, .ref p3, .ref p4, .ref p5] [.tuple [.int a, .int b], .tuple [.int (a * 2), .int (b * 2)], .tuple [.int (0 - a), .int (0 - b)], .tuple [.int a, .int 0], .tuple [.int 0, .int b], .tuple [.int a, .bool true]] := acc.app (Tr.one (f := f) (show Tr f J5 (.ref p5) (.tuple [.int a, .bool true]) from t_5))
    have fin : ∀ d ∈ ([.tuple [.int a, .int b], .tuple [.int (a * 2), .int (b * 2)], .tuple [.int (0 - a), .int (0 - b)], .tuple [.int a, .int 0], .tuple [.int 0, .int b], .tuple [.int a, .bool true]] : List PyData), Fine 700 2 d := all_app fin (all_one (e := .tuple [.int a, .bool true]) (f2 ((fi (n := 200) (by decide) (Fr.bmono ha (by decide)) (by decide)).mono (by decide) (by decide)) ⟨rfl, by decide, by decide⟩))
    refine ⟨_, rfl, (by show 2 ≤ sizeLine; decide), fun p6 g6 => ?_⟩
    have n6 := nf p6 g6
    have s6 := same_new (o := .tup [.bl false, .int b]) g6
    have t_6 : Tr f (upd J5 p6 (.tup [.bl false, .int b])) (.ref p6) (.tuple [.bool false, .int b]) := .tup n6 upd_same (.cons (.bl false) (.cons (.int b) .nil))
    generalize upd J5 p6 (.tup [.bl false, .int b]) = J6 at s6 t_6 ⊢
    have acc := acc.k (.of s6)
    have tone := tone.k (f := f) (.of s6)
    have sm := sm.trans s6
    have nf : ∀ q, J6 q = none → q ≠ f := fun q hq => nf q (s6.free hq)
    have acc : TrAll f J6 [.ref p, .ref p1, .ref p2, .ref p3, .ref p4, .ref p5, .ref p6] [.tuple [.int a, .int b], .tuple [.int (a * 2), .int (b * 2)], .tuple [.int (0 - a), .int (0 - b)], .tuple [.int a, .int 0], .tuple [.int 0, .int b], .tuple [.int a, .bool true], .tuple [.bool false, .int b]] := acc.app (Tr.one (f := f) (show Tr f J6 (.ref p6) (.tuple [.bool false, .int b]) from t_6))
    have fin : ∀ d ∈ ([.tuple [.int a, .int b], .tuple [.int (a * 2), .int (b * 2)], .tuple [.int (0 - a), .int (0 - b)], .tuple [.int a, .int 0], .tuple [.int 0, .int b], .tuple [.int a, .bool true], .tuple [.bool false, .int b]] : List PyData), Fine 700 2 d := all_app fin (all_one (e := .tuple [.bool false, .int b]) (f2 ⟨rfl, by decide, by decide⟩ ((fi (n := 200) (by decide) (Fr.bmono hb (by decide)) (by decide)).mono (by decide) (by decide))))
    refine ⟨_, rfl, _, rfl, (by show 3 ≤ sizeLine; decide), fun p7 g7 => ?_⟩
    have n7 := nf p7 g7
    have s7 := same_new (o := .tup [.int a, .int b, .int 1]) g7
    have t_7 : Tr f (upd J6 p7 (.tup [.int a, .int b, .int 1])) (.ref p7) (.tuple [.int a, .int b, .int 1]) := .tup n7 upd_same (.cons (.int a) (.cons (.int b) (.cons (.int 1) .nil)))
    generalize upd J6 p7 (.tup [.int a, .int b, .int 1]) = J7 at s7 t_7 ⊢
    have acc := acc.k (.of s7)
    have tone := tone.k (f := f) (.of s7)
    have sm := sm.trans s7
    have nf : ∀ q, J7 q = none → q ≠ f := fun q hq => nf q (s7.free hq)
    have acc : TrAll f J7 [.ref p, .ref p1, .ref p2, .ref p3, .ref p4, .ref p5, .ref p6, .ref p7] [.tuple [.int a, .int b], .tuple [.int (a * 2), .int (b * 2)], .tuple [.int (0 - a), .int (0 - b)], .tuple [.int a, .int 0], .tuple [.int 0, .int b], .tuple [.int a, .bool true], .tuple [.bool false, .int b], .tuple [.int a, .int b, .int 1]] := acc.app (Tr.one (f := f) (show Tr f J7 (.ref p7) (.tuple [.int a, .int b, .int 1]) from t_7))
    have fin : ∀ d ∈ ([.tuple [.int a, .int b], .tuple [.int (a * 2), .int (b * 2)], .tuple [.int (0 - a), .int (0 - b)], .tuple [.int a, .int 0], .tuple [.int 0, .int b], .tuple [.int a, .bool true], .tuple [.bool false, .int b], .tuple [.int a, .int b, .int 1]] : List PyData), Fine 700 2 d := all_app fin (all_one (e := .tuple [.int a, .int b, .int 1]) (f3 ((fi (n := 200) (by decide) (Fr.bmono ha (by decide)) (by decide)).mono (by decide) (by decide)) ((fi (n := 200) (by decide) (Fr.bmono hb (by decide)) (by decide)).mono (by decide) (by decide)) ((fi (n := 200) (by decide) (by decide) (by decide)).mono (by decide) (by decide))))
    refine ⟨_, rfl, (by show 1 ≤ sizeLine; decide), fun p8 g8 => ?_⟩
    have n8 := nf p8 g8
    have s8 := same_new (o := .tup [.int a]) g8
    have t_8 : Tr f (upd J7 p8 (.tup [.int a])) (.ref p8) (.tuple [.int a]) := .tup n8 upd_same (.cons (.int a) .nil)
    generalize upd J7 p8 (.tup [.int a]) = J8 at s8 t_8 ⊢
    have acc := acc.k (.of s8)
    have tone := tone.k (f := f) (.of s8)
    have sm := sm.trans s8
    have nf : ∀ q, J8 q = none → q ≠ f := fun q hq => nf q (s8.free hq)
    have acc : TrAll f J8 [.ref p, .ref p1, .ref p2, .ref p3, .ref p4, .ref p5, .ref p6, .ref p7, .ref p8] [.tuple [.int a, .int b], .tuple [.int (a * 2), .int (b * 2)], .tuple [.int (0 - a), .int (0 - b)], .tuple [.int a, .int 0], .tuple [.int 0, .int b], .tuple [.int a, .bool true], .tuple [.bool false, .int b], .tuple [.int a, .int b, .int 1], .tuple [.int a]] := acc.app (Tr.one (f := f) (show Tr f J8 (.ref p8) (.tuple [.int a]) from t_8))
    have fin : ∀ d ∈ ([.tuple [.int a, .int b], .tuple [.int (a * 2), .int (b * 2)], .tuple [.int (0 - a), .int (0 - b)], .tuple [.int a, .int 0], .tuple [.int 0, .int b], .tuple [.int a, .bool true], .tuple [.bool false, .int b], .tuple [.int a, .int b, .int 1], .tuple [.int a]] : List PyData), Fine 700 2 d := all_app fin (all_one (e := .tuple [.int a]) (f1 ((fi (n := 200) (by decide) (Fr.bmono ha (by decide)) (by decide)).mono (by decide) (by decide))))
    refine ⟨_, rfl, _, rfl, (by show 2 ≤ sizeLine; decide), fun p9 g9 => ?_⟩
    have n9 := nf p9 g9
    have s9 := same_new (o := .lst [.int a, .int b]) g9
    have t_9 : Tr f (upd J8 p9 (.lst [.int a, .int b])) (.ref p9) (.list [.int a, .int b]) := .lst n9 upd_same (.cons (.int a) (.cons (.int b) .nil))
    generalize upd J8 p9 (.lst [.int a, .int b]) = J9 at s9 t_9 ⊢
    have acc := acc.k (.of s9)
    have tone := tone.k (f := f) (.of s9)
    have sm := sm.trans s9
    have nf : ∀ q, J9 q = none → q ≠ f := fun q hq => nf q (s9.free hq)
    have acc : TrAll f J9 [.ref p, .ref p1, .ref p2, .ref p3, .ref p4, .ref p5, .ref p6, .ref p7, .ref p8, .ref p9] [.tuple [.int a, .int b], .tuple [.int (a * 2), .int (b * 2)], .tuple [.int (0 - a), .int (0 - b)], .tuple [.int a, .int 0], .tuple [.int 0, .int b], .tuple [.int a, .bool true], .tuple [.bool false, .int b], .tuple [.int a, .int b, .int 1], .tuple [.int a], .list [.int a, .int b]] := acc.app (Tr.one (f := f) (show Tr f J9 (.ref p9) (.list [.int a, .int b]) from t_9))
    have fin : ∀ d ∈ ([.tuple [.int a, .int b], .tuple [.int (a * 2), .int (b * 2)], .tuple [.int (0 - a), .int (0 - b)], .tuple [.int a, .int 0], .tuple [.int 0, .int b], .tuple [.int a, .bool true], .tuple [.bool false, .int b], .tuple [.int a, .int b, .int 1], .tuple [.int a], .list [.int a, .int b]] : List PyData), Fine 700 2 d := all_app fin (all_one (e := .list [.int a, .int b]) (l2 ((fi (n := 200) (by decide) (Fr.bmono ha (by decide)) (by decide)).mono (by decide) (by decide)) ((fi (n := 200) (by decide) (Fr.bmono hb (by decide)) (by decide)).mono (by decide) (by decide))))
    have acc : TrAll f J9 [.ref p, .ref p1, .ref p2, .ref p3, .ref p4, .ref p5, .ref p6, .ref p7, .ref p8, .ref p9, .int a] [.tuple [.int a, .int b], .tuple [.int (a * 2), .int (b * 2)], .tuple [.int (0 - a), .int (0 - b)], .tuple [.int a, .int 0], .tuple [.int 0, .int b], .tuple [.int a, .bool true], .tuple [.bool false, .int b], .tuple [.int a, .int b, .int 1], .tuple [.int a], .list [.int a, .int b], .int a] := acc.app (Tr.one (f := f) (show Tr f J9 (.int a) (.int a) from .int a))
    have fin : ∀ d ∈ ([.tuple [.int a, .int b], .tuple [.int (a * 2), .int (b * 2)], .tuple [.int (0 - a), .int (0 - b)], .tuple [.int a, .int 0], .tuple [.int 0, .int b], .tuple [.int a, .bool true], .tuple [.bool false, .int b], .tuple [.int a, .int b, .int 1], .tuple [.int a], .list [.int a, .int b], .int a] : List PyData), Fine 700 2 d := all_app fin (all_one (e := .int a) (((fi (n := 200) (by decide) (Fr.bmono ha (by decide)) (by decide)) : Fine 200 0 _).mono (by decide) (by decide)))
    refine ⟨_, rfl, (by show 11 ≤ sizeLine; decide), fun p10 g10 => ?_⟩
    have n10 := nf p10 g10
    have s10 := same_new (o := .lst [.ref p, .ref p1, .ref p2, .ref p3, .ref p4, .ref p5, .ref p6, .ref p7, .ref p8, .ref p9, .int a]) g10
    have LN := upd_same (H := J9) (a := p10) (o := .lst [.ref p, .ref p1, .ref p2, .ref p3, .ref p4, .ref p5, .ref p6, .ref p7, .ref p8, .ref p9, .int a])
    generalize upd J9 p10 (.lst [.ref p, .ref p1, .ref p2, .ref p3, .ref p4, .ref p5, .ref p6, .ref p7, .ref p8, .ref p9, .int a]) = J10 at s10 LN ⊢
    have acc := acc.k (.of s10)
    have tone := tone.k (f := f) (.of s10)
    have sm := sm.trans s10
    have nf : ∀ q, J10 q = none → q ≠ f := fun q hq => nf q (s10.free hq)
    have LP := LN
    refine ⟨_, rfl, _, rfl, _, _, rfl, rfl, mw (Fr.bmono ha (by decide)) (by decide), _, rfl, _, _, rfl, rfl, mw (Fr.bmono hb (by decide)) (by decide), (by show 2 ≤ sizeLine; decide), fun p11 g11 => ?_⟩
    have n11 := nf p11 g11
    have s11 := same_new (o := .tup [.int (a * 7), .int (b * 7)]) g11
    have t_11 : Tr f (upd J10 p11 (.tup [.int (a * 7), .int (b * 7)])) (.ref p11) (.tuple [.int (a * 7), .int (b * 7)]) := .tup n11 upd_same (.cons (.int (a * 7)) (.cons (.int (b * 7)) .nil))
    generalize upd J10 p11 (.tup [.int (a * 7), .int (b * 7)]) = J11 at s11 t_11 ⊢
    have acc := acc.k (.of s11)
    have tone := tone.k (f := f) (.of s11)
    have LP := s11 _ _ LP
    have sm := sm.trans s11
    have nf : ∀ q, J11 q = none → q ≠ f := fun q hq => nf q (s11.free hq)
    have acc : TrAll f J11 [.ref p, .ref p1, .ref p2, .ref p3, .ref p4, .ref p5, .ref p6, .ref p7, .ref p8, .ref p9, .int a, .ref p11] [.tuple [.int a, .int b], .tuple [.int (a * 2), .int (b * 2)], .tuple [.int (0 - a), .int (0 - b)], .tuple [.int a, .int 0], .tuple [.int 0, .int b], .tuple [.int a, .bool true], .tuple [.bool false, .int b], .tuple [.int a, .int b, .int 1], .tuple [.int a], .list [.int a, .int b], .int a, .tuple [.int (a * 7), .int (b * 7)]] := acc.app (Tr.one (f := f) (show Tr f J11 (.ref p11) (.tuple [.int (a * 7), .int (b * 7)]) from t_11))
    have fin : ∀ d ∈ ([.tuple [.int a, .int b], .tuple [.int (a * 2), .int (b * 2)], .tuple [.int (0 - a), .int (0 - b)], .tuple [.int a, .int 0], .tuple [.int 0, .int b], .tuple [.int a, .bool true], .tuple [.bool false, .int b], .tuple [.int a, .int b, .int 1], .tuple [.int a], .list [.int a, .int b], .int a, .tuple [.int (a * 7), .int (b * 7)]] : List PyData), Fine 700 2 d := all_app fin (all_one (e := .tuple [.int (a * 7), .int (b * 7)]) (f2 ((fi (n := 200) (by decide) (Fr.bmono (Fr.bmul ha (show (7 : Int).natAbs < 2 ^ 3 by decide)) (by decide)) (by decide)).mono (by decide) (by decide)) ((fi (n := 200) (by decide) (Fr.bmono (Fr.bmul hb (show (7 : Int).natAbs < 2 ^ 3 by decide)) (by decide)) (by decide)).mono (by decide) (by decide))))
    refine ⟨_, rfl, _, rfl, _, _, rfl, rfl, _, rfl, (by show 2 ≤ sizeLine; decide), fun p12 g12 => ?_⟩
    have n12 := nf p12 g12
    have s12 := same_new (o := .tup [.int (a + b), .int b]) g12
    have t_12 : Tr f (upd J11 p12 (.tup [.int (a + b), .int b])) (.ref p12) (.tuple [.int (a + b), .int b]) := .tup n12 upd_same (.cons (.int (a + b)) (.cons (.int b) .nil))
    generalize upd J11 p12 (.tup [.int (a + b), .int b]) = J12 at s12 t_12 ⊢
    have acc := acc.k (.of s12)
    have tone := tone.k (f := f) (.of s12)
    have LP := s12 _ _ LP
    have sm := sm.trans s12
    have nf : ∀ q, J12 q = none → q ≠ f := fun q hq => nf q (s12.free hq)
    have acc : TrAll f J12 [.ref p, .ref p1, .ref p2, .ref p3, .ref p4, .ref p5, .ref p6, .ref p7, .ref p8, .ref p9, .int a, .ref p11, .ref p12] [.tuple [.int a, .int b], .tuple [.int (a * 2), .int (b * 2)], .tuple [.int (0 - a), .int (0 - b)], .tuple [.int a, .int 0], .tuple [.int 0, .int b], .tuple [.int a, .bool true], .tuple [.bool false, .int b], .tuple [.int a, .int b, .int 1], .tuple [.int a], .list [.int a, .int b], .int a, .tuple [.int (a * 7), .int (b * 7)], .tuple [.int (a + b), .int b]] := acc.app (Tr.one (f := f) (show Tr f J12 (.ref p12) (.tuple [.int (a + b), .int b]) from t_12))
    have fin : ∀ d ∈ ([.tuple [.int a, .int b], .tuple [.int (a * 2), .int (b * 2)], .tuple [.int (0 - a), .int (0 - b)], .tuple [.int a, .int 0], .tuple [.int 0, .int b], .tuple [.int a, .bool true], .tuple [.bool false, .int b], .tuple [.int a, .int b, .int 1], .tuple [.int a], .list [.int a, .int b], .int a, .tuple [.int (a * 7), .int (b * 7)], .tuple [.int (a + b), .int b]] : List PyData), Fine 700 2 d := all_app fin (all_one (e := .tuple [.int (a + b), .int b]) (f2 ((fi (n := 200) (by decide) (Fr.bmono (Fr.badd ha hb) (by decide)) (by decide)).mono (by decide) (by decide)) ((fi (n := 200) (by decide) (Fr.bmono hb (by decide)) (by decide)).mono (by decide) (by decide))))
    refine ⟨_, rfl, a, rfl, la, _, rfl, (by show 2 ≤ sizeLine; decide), fun p13 g13 => ?_⟩
    have n13 := nf p13 g13
    have s13 := same_new (o := .tup [.str (toString a), .int b]) g13
    have t_13 : Tr f (upd J12 p13 (.tup [.str (toString a), .int b])) (.ref p13) (.tuple [.str (toString a), .int b]) := .tup n13 upd_same (.cons (.str _) (.cons (.int b) .nil))
    generalize upd J12 p13 (.tup [.str (toString a), .int b]) = J13 at s13 t_13 ⊢
    have acc := acc.k (.of s13)
    have tone := tone.k (f := f) (.of s13)
    have LP := s13 _ _ LP
    have sm := sm.trans s13
    have nf : ∀ q, J13 q = none → q ≠ f := fun q hq => nf q (s13.free hq)
    have acc : TrAll f J13 [.ref p, .ref p1, .ref p2, .ref p3, .ref p4, .ref p5, .ref p6, .ref p7, .ref p8, .ref p9, .int a, .ref p11, .ref p12, .ref p13] [.tuple [.int a, .int b], .tuple [.int (a * 2), .int (b * 2)], .tuple [.int (0 - a), .int (0 - b)], .tuple [.int a, .int 0], .tuple [.int 0, .int b], .tuple [.int a, .bool true], .tuple [.bool false, .int b], .tuple [.int a, .int b, .int 1], .tuple [.int a], .list [.int a, .int b], .int a, .tuple [.int (a * 7), .int (b * 7)], .tuple [.int (a + b), .int b], .tuple [.str (toString a), .int b]] := acc.app (Tr.one (f := f) (show Tr f J13 (.ref p13) (.tuple [.str (toString a), .int b]) from t_13))
    have fin : ∀ d ∈ ([.tuple [.int a, .int b], .tuple [.int (a * 2), .int (b * 2)], .tuple [.int (0 - a), .int (0 - b)], .tuple [.int a, .int 0], .tuple [.int 0, .int b], .tuple [.int a, .bool true], .tuple [.bool false, .int b], .tuple [.int a, .int b, .int 1], .tuple [.int a], .list [.int a, .int b], .int a, .tuple [.int (a * 7), .int (b * 7)], .tuple [.int (a + b), .int b], .tuple [.str (toString a), .int b]] : List PyData), Fine 700 2 d := all_app fin (all_one (e := .tuple [.str (toString a), .int b]) (f2 ⟨ok_digits a, Nat.le_trans wdig (by decide), Nat.zero_le _⟩ ((fi (n := 200) (by decide) (Fr.bmono hb (by decide)) (by decide)).mono (by decide) (by decide))))
    refine ⟨_, rfl, (by show 2 ≤ sizeLine; decide), fun p14 g14 => ?_⟩
    have n14 := nf p14 g14
    have s14 := same_new (o := .tup [.int a, .non]) g14
    have t_14 : Tr f (upd J13 p14 (.tup [.int a, .non])) (.ref p14) (.tuple [.int a, .none]) := .tup n14 upd_same (.cons (.int a) (.cons (.non) .nil))
    generalize upd J13 p14 (.tup [.int a, .non]) = J14 at s14 t_14 ⊢
    have acc := acc.k (.of s14)
    have tone := tone.k (f := f) (.of s14)
    have LP := s14 _ _ LP
    have sm := sm.trans s14
    have nf : ∀ q, J14 q = none → q ≠ f := fun q hq => nf q (s14.free hq)
    have acc : TrAll f J14 [.ref p, .ref p1, .ref p2, .ref p3, .ref p4, .ref p5, .ref p6, .ref p7, .ref p8, .ref p9, .int a, .ref p11, .ref p12, .ref p13, .ref p14] [.tuple [.int a, .int b], .tuple [.int (a * 2), .int (b * 2)], .tuple [.int (0 - a), .int (0 - b)], .tuple [.int a, .int 0], .tuple [.int 0, .int b], .tuple [.int a, .bool true], .tuple [.bool false, .int b], .tuple [.int a, .int b, .int 1], .tuple [.int a], .list [.int a, .int b], .int a, .tuple [.int (a * 7), .int (b * 7)], .tuple [.int (a + b), .int b], .tuple [.str (toString a), .int b], .tuple [.int a, .none]] := acc.app (Tr.one (f := f) (show Tr f J14 (.ref p14) (.tuple [.int a, .none]) from t_14))
    have fin : ∀ d ∈ ([.tuple [.int a, .int b], .tuple [.int (a * 2), .int (b * 2)], .tuple [.int (0 - a), .int (0 - b)], .tuple [.int a, .int 0], .tuple [.int 0, .int b], .tuple [.int a, .bool true], .tuple [.bool false, .int b], .tuple [.int a, .int b, .int 1], .tuple [.int a], .list [.int a, .int b], .int a, .tuple [.int (a * 7), .int (b * 7)], .tuple [.int (a + b), .int b], .tuple [.str (toString a), .int b], .tuple [.int a, .none]] : List PyData), Fine 700 2 d := all_app fin (all_one (e := .tuple [.int a, .none]) (f2 ((fi (n := 200) (by decide) (Fr.bmono ha (by decide)) (by decide)).mono (by decide) (by decide)) ⟨rfl, by decide, by decide⟩))
    refine ⟨_, rfl, (by show 2 ≤ sizeLine; decide), fun p15 g15 => ?_⟩
    have n15 := nf p15 g15
    have s15 := same_new (o := .tup [.int a, .int 1]) g15
    have t_15 : Tr f (upd J14 p15 (.tup [.int a, .int 1])) (.ref p15) (.tuple [.int a, .int 1]) := .tup n15 upd_same (.cons (.int a) (.cons (.int 1) .nil))
    generalize upd J14 p15 (.tup [.int a, .int 1]) = J15 at s15 t_15 ⊢
    have acc := acc.k (.of s15)
    have tone := tone.k (f := f) (.of s15)
    have LP := s15 _ _ LP
    have sm := sm.trans s15
    have nf : ∀ q, J15 q = none → q ≠ f := fun q hq => nf q (s15.free hq)
    refine ⟨_, rfl, (by show 2 ≤ sizeLine; decide), fun p16 g16 => ?_⟩
    have n16 := nf p16 g16
    have s16 := same_new (o := .tup [.ref p15, .int b]) g16
    have t_16 : Tr f (upd J15 p16 (.tup [.ref p15, .int b])) (.ref p16) (.tuple [.tuple [.int a, .int 1], .int b]) := .tup n16 upd_same (.cons (t_15.k (.of s16)) (.cons (.int b) .nil))
    generalize upd J15 p16 (.tup [.ref p15, .int b]) = J16 at s16 t_16 ⊢
    have acc := acc.k (.of s16)
    have tone := tone.k (f := f) (.of s16)
    have LP := s16 _ _ LP
    have sm := sm.trans s16
    have nf : ∀ q, J16 q = none → q ≠ f := fun q hq => nf q (s16.free hq)
    have acc : TrAll f J16 [.ref p, .ref p1, .ref p2, .ref p3, .ref p4, .ref p5, .ref p6, .ref p7, .ref p8, .ref p9, .int a, .ref p11, .ref p12, .ref p13, .ref p14, .ref p16] [.tuple [.int a, .int b], .tuple [.int (a * 2), .int (b * 2)], .tuple [.int (0 - a), .int (0 - b)], .tuple [.int a, .int 0], .tuple [.int 0, .int b], .tuple [.int a, .bool true], .tuple [.bool false, .int b], .tuple [.int a, .int b, .int 1], .tuple [.int a], .list [.int a, .int b], .int a, .tuple [.int (a * 7), .int (b * 7)], .tuple [.int (a + b), .int b], .tuple [.str (toString a), .int b], .tuple [.int a, .none], .tuple [.tuple [.int a, .int 1], .int b]] := acc.app (Tr.one (f := f) (show Tr f J16 (.ref p16) (.tuple [.tuple [.int a, .int 1], .int b]) from t_16))
    have fin : ∀ d ∈ ([.tuple [.int a, .int b], .tuple [.int (a * 2), .int (b * 2)], .tuple [.int (0 - a), .int (0 - b)], .tuple [.int a, .int 0], .tuple [.int 0, .int b], .tuple [.int a, .bool true], .tuple [.bool false, .int b], .tuple [.int a, .int b, .int 1], .tuple [.int a], .list [.int a, .int b], .int a, .tuple [.int (a * 7), .int (b * 7)], .tuple [.int (a + b), .int b], .tuple [.str (toString a), .int b], .tuple [.int a, .none], .tuple [.tuple [.int a, .int 1], .int b]] : List PyData), Fine 700 2 d := all_app fin (all_one (e := .tuple [.tuple [.int a, .int 1], .int b]) (f2 ((fin_in ha).mono (by decide) (by decide)) ((fi (n := 200) (by decide) (Fr.bmono hb (by decide)) (by decide)).mono (by decide) (by decide))))
    refine ⟨_, rfl, _, rfl, (by show 2 ≤ sizeLine; decide), fun p17 g17 => ?_⟩
    have n17 := nf p17 g17
    have s17 := same_new (o := .tup [.int b, .int b]) g17
    have t_17 : Tr f (upd J16 p17 (.tup [.int b, .int b])) (.ref p17) (.tuple [.int b, .int b]) := .tup n17 upd_same (.cons (.int b) (.cons (.int b) .nil))
    generalize upd J16 p17 (.tup [.int b, .int b]) = J17 at s17 t_17 ⊢
    have acc := acc.k (.of s17)
    have tone := tone.k (f := f) (.of s17)
    have LP := s17 _ _ LP
    have sm := sm.trans s17
    have nf : ∀ q, J17 q = none → q ≠ f := fun q hq => nf q (s17.free hq)
    have acc : TrAll f J17 [.ref p, .ref p1, .ref p2, .ref p3, .ref p4, .ref p5, .ref p6, .ref p7, .ref p8, .ref p9, .int a, .ref p11, .ref p12, .ref p13, .ref p14, .ref p16, .ref p17] [.tuple [.int a, .int b], .tuple [.int (a * 2), .int (b * 2)], .tuple [.int (0 - a), .int (0 - b)], .tuple [.int a, .int 0], .tuple [.int 0, .int b], .tuple [.int a, .bool true], .tuple [.bool false, .int b], .tuple [.int a, .int b, .int 1], .tuple [.int a], .list [.int a, .int b], .int a, .tuple [.int (a * 7), .int (b * 7)], .tuple [.int (a + b), .int b], .tuple [.str (toString a), .int b], .tuple [.int a, .none], .tuple [.tuple [.int a, .int 1], .int b], .tuple [.int b, .int b]] := acc.app (Tr.one (f := f) (show Tr f J17 (.ref p17) (.tuple [.int b, .int b]) from t_17))
    have fin : ∀ d ∈ ([.tuple [.int a, .int b], .tuple [.int (a * 2), .int (b * 2)], .tuple [.int (0 - a), .int (0 - b)], .tuple [.int a, .int 0], .tuple [.int 0, .int b], .tuple [.int a, .bool true], .tuple [.bool false, .int b], .tuple [.int a, .int b, .int 1], .tuple [.int a], .list [.int a, .int b], .int a, .tuple [.int (a * 7), .int (b * 7)], .tuple [.int (a + b), .int b], .tuple [.str (toString a), .int b], .tuple [.int a, .none], .tuple [.tuple [.int a, .int 1], .int b], .tuple [.int b, .int b]] : List PyData), Fine 700 2 d := all_app fin (all_one (e := .tuple [.int b, .int b]) (f2 ((fi (n := 200) (by decide) (Fr.bmono hb (by decide)) (by decide)).mono (by decide) (by decide)) ((fi (n := 200) (by decide) (Fr.bmono hb (by decide)) (by decide)).mono (by decide) (by decide))))
    refine ⟨(by show 2 ≤ sizeLine; decide), fun p18 g18 => ?_⟩
    have n18 := nf p18 g18
    have s18 := same_new (o := .tup [.int 0, .int 1]) g18
    have t_18 : Tr f (upd J17 p18 (.tup [.int 0, .int 1])) (.ref p18) (.tuple [.int 0, .int 1]) := .tup n18 upd_same (.cons (.int 0) (.cons (.int 1) .nil))
    generalize upd J17 p18 (.tup [.int 0, .int 1]) = J18 at s18 t_18 ⊢
    have acc := acc.k (.of s18)
    have tone := tone.k (f := f) (.of s18)
    have LP := s18 _ _ LP
    have sm := sm.trans s18
    have nf : ∀ q, J18 q = none → q ≠ f := fun q hq => nf q (s18.free hq)
    have acc : TrAll f J18 [.ref p, .ref p1, .ref p2, .ref p3, .ref p4, .ref p5, .ref p6, .ref p7, .ref p8, .ref p9, .int a, .ref p11, .ref p12, .ref p13, .ref p14, .ref p16, .ref p17, .ref p18] [.tuple [.int a, .int b], .tuple [.int (a * 2), .int (b * 2)], .tuple [.int (0 - a), .int (0 - b)], .tuple [.int a, .int 0], .tuple [.int 0, .int b], .tuple [.int a, .bool true], .tuple [.bool false, .int b], .tuple [.int a, .int b, .int 1], .tuple [.int a], .list [.int a, .int b], .int a, .tuple [.int (a * 7), .int (b * 7)], .tuple [.int (a + b), .int b], .tuple [.str (toString a), .int b], .tuple [.int a, .none], .tuple [.tuple [.int a, .int 1], .int b], .tuple [.int b, .int b], .tuple [.int 0, .int 1]] := acc.app (Tr.one (f := f) (show Tr f J18 (.ref p18) (.tuple [.int 0, .int 1]) from t_18))
    have fin : ∀ d ∈ ([.tuple [.int a, .int b], .tuple [.int (a * 2), .int (b * 2)], .tuple [.int (0 - a), .int (0 - b)], .tuple [.int a, .int 0], .tuple [.int 0, .int b], .tuple [.int a, .bool true], .tuple [.bool false, .int b], .tuple [.int a, .int b, .int 1], .tuple [.int a], .list [.int a, .int b], .int a, .tuple [.int (a * 7), .int (b * 7)], .tuple [.int (a + b), .int b], .tuple [.str (toString a), .int b], .tuple [.int a, .none], .tuple [.tuple [.int a, .int 1], .int b], .tuple [.int b, .int b], .tuple [.int 0, .int 1]] : List PyData), Fine 700 2 d := all_app fin (all_one (e := .tuple [.int 0, .int 1]) (f2 ((fi (n := 200) (by decide) (by decide) (by decide)).mono (by decide) (by decide)) ((fi (n := 200) (by decide) (by decide) (by decide)).mono (by decide) (by decide))))
    refine ⟨(by show 2 ≤ sizeLine; decide), fun p19 g19 => ?_⟩
    have n19 := nf p19 g19
    have s19 := same_new (o := .tup [.int 0, .int 0]) g19
    have t_19 : Tr f (upd J18 p19 (.tup [.int 0, .int 0])) (.ref p19) (.tuple [.int 0, .int 0]) := .tup n19 upd_same (.cons (.int 0) (.cons (.int 0) .nil))
    generalize upd J18 p19 (.tup [.int 0, .int 0]) = J19 at s19 t_19 ⊢
    have acc := acc.k (.of s19)
    have tone := tone.k (f := f) (.of s19)
    have LP := s19 _ _ LP
    have sm := sm.trans s19
    have nf : ∀ q, J19 q = none → q ≠ f := fun q hq => nf q (s19.free hq)
    have acc : TrAll f J19 [.ref p, .ref p1, .ref p2, .ref p3, .ref p4, .ref p5, .ref p6, .ref p7, .ref p8, .ref p9, .int a, .ref p11, .ref p12, .ref p13, .ref p14, .ref p16, .ref p17, .ref p18, .ref p19] [.tuple [.int a, .int b], .tuple [.int (a * 2), .int (b * 2)], .tuple [.int (0 - a), .int (0 - b)], .tuple [.int a, .int 0], .tuple [.int 0, .int b], .tuple [.int a, .bool true], .tuple [.bool false, .int b], .tuple [.int a, .int b, .int 1], .tuple [.int a], .list [.int a, .int b], .int a, .tuple [.int (a * 7), .int (b * 7)], .tuple [.int (a + b), .int b], .tuple [.str (toString a), .int b], .tuple [.int a, .none], .tuple [.tuple [.int a, .int 1], .int b], .tuple [.int b, .int b], .tuple [.int 0, .int 1], .tuple [.int 0, .int 0]] := acc.app (Tr.one (f := f) (show Tr f J19 (.ref p19) (.tuple [.int 0, .int 0]) from t_19))
    have fin : ∀ d ∈ ([.tuple [.int a, .int b], .tuple [.int (a * 2), .int (b * 2)], .tuple [.int (0 - a), .int (0 - b)], .tuple [.int a, .int 0], .tuple [.int 0, .int b], .tuple [.int a, .bool true], .tuple [.bool false, .int b], .tuple [.int a, .int b, .int 1], .tuple [.int a], .list [.int a, .int b], .int a, .tuple [.int (a * 7), .int (b * 7)], .tuple [.int (a + b), .int b], .tuple [.str (toString a), .int b], .tuple [.int a, .none], .tuple [.tuple [.int a, .int 1], .int b], .tuple [.int b, .int b], .tuple [.int 0, .int 1], .tuple [.int 0, .int 0]] : List PyData), Fine 700 2 d := all_app fin (all_one (e := .tuple [.int 0, .int 0]) (f2 ((fi (n := 200) (by decide) (by decide) (by decide)).mono (by decide) (by decide)) ((fi (n := 200) (by decide) (by decide) (by decide)).mono (by decide) (by decide))))
    refine ⟨(by show 2 ≤ sizeLine; decide), fun p20 g20 => ?_⟩
    have n20 := nf p20 g20
    have s20 := same_new (o := .tup [.int 0, .int 2]) g20
    have t_20 : Tr f (upd J19 p20 (.tup [.int 0, .int 2])) (.ref p20) (.tuple [.int 0, .int 2]) := .tup n20 upd_same (.cons (.int 0) (.cons (.int 2) .nil))
    generalize upd J19 p20 (.tup [.int 0, .int 2]) = J20 at s20 t_20 ⊢
    have acc := acc.k (.of s20)
    have tone := tone.k (f := f) (.of s20)
    have LP := s20 _ _ LP
    have sm := sm.trans s20
    have nf : ∀ q, J20 q = none → q ≠ f := fun q hq => nf q (s20.free hq)
    have acc : TrAll f J20 [.ref p, .ref p1, .ref p2, .ref p3, .ref p4, .ref p5, .ref p6, .ref p7, .ref p8, .ref p9, .int a, .ref p11, .ref p12, .ref p13, .ref p14, .ref p16, .ref p17, .ref p18, .ref p19, .ref p20] [.tuple [.int a, .int b], .tuple [.int (a * 2), .int (b * 2)], .tuple [.int (0 - a), .int (0 - b)], .tuple [.int a, .int 0], .tuple [.int 0, .int b], .tuple [.int a, .bool true], .tuple [.bool false, .int b], .tuple [.int a, .int b, .int 1], .tuple [.int a], .list [.int a, .int b], .int a, .tuple [.int (a * 7), .int (b * 7)], .tuple [.int (a + b), .int b], .tuple [.str (toString a), .int b], .tuple [.int a, .none], .tuple [.tuple [.int a, .int 1], .int b], .tuple [.int b, .int b], .tuple [.int 0, .int 1], .tuple [.int 0, .int 0], .tuple [.int 0, .int 2]] := acc.app (Tr.one (f := f) (show Tr f J20 (.ref p20) (.tuple [.int 0, .int 2]) from t_20))
    have fin : ∀ d ∈ ([.tuple [.int a, .int b], .tuple [.int (a * 2), .int (b * 2)], .tuple [.int (0 - a), .int (0 - b)], .tuple [.int a, .int 0], .tuple [.int 0, .int b], .tuple [.int a, .bool true], .tuple [.bool false, .int b], .tuple [.int a, .int b, .int 1], .tuple [.int a], .list [.int a, .int b], .int a, .tuple [.int (a * 7), .int (b * 7)], .tuple [.int (a + b), .int b], .tuple [.str (toString a), .int b], .tuple [.int a, .none], .tuple [.tuple [.int a, .int 1], .int b], .tuple [.int b, .int b], .tuple [.int 0, .int 1], .tuple [.int 0, .int 0], .tuple [.int 0, .int 2]] : List PyData), Fine 700 2 d := all_app fin (all_one (e := .tuple [.int 0, .int 2]) (f2 ((fi (n := 200) (by decide) (by decide) (by decide)).mono (by decide) (by decide)) ((fi (n := 200) (by decide) (by decide) (by decide)).mono (by decide) (by decide))))
    refine ⟨(by show 9 ≤ sizeLine; decide), fun p21 g21 => ?_⟩
    have n21 := nf p21 g21
    have s21 := same_new (o := .lst [.ref p11, .ref p12, .ref p13, .ref p14, .ref p16, .ref p17, .ref p18, .ref p19, .ref p20]) g21
    have LN := upd_same (H := J20) (a := p21) (o := .lst [.ref p11, .ref p12, .ref p13, .ref p14, .ref p16, .ref p17, .ref p18, .ref p19, .ref p20])
    generalize upd J20 p21 (.lst [.ref p11, .ref p12, .ref p13, .ref p14, .ref p16, .ref p17, .ref p18, .ref p19, .ref p20]) = J21 at s21 LN ⊢
    have acc := acc.k (.of s21)
    have tone := tone.k (f := f) (.of s21)
    have sm := sm.trans s21
    have LP := s21 _ _ LP
    have nf : ∀ q, J21 q = none → q ≠ f := fun q hq => nf q (s21.free hq)
    refine ⟨p10, p21, _, _, rfl, rfl, LP, LN, (by show 20 ≤ sizeLine; decide), fun p22 g22 => ?_⟩
    have n22 := nf p22 g22
    have s22 := same_new (o := .lst ([.ref p, .ref p1, .ref p2, .ref p3, .ref p4, .ref p5, .ref p6, .ref p7, .ref p8, .ref p9, .int a] ++ [.ref p11, .ref p12, .ref p13, .ref p14, .ref p16, .ref p17, .ref p18, .ref p19, .ref p20])) g22
    have LC := upd_same (H := J21) (a := p22) (o := .lst ([.ref p, .ref p1, .ref p2, .ref p3, .ref p4, .ref p5, .ref p6, .ref p7, .ref p8, .ref p9, .int a] ++ [.ref p11, .ref p12, .ref p13, .ref p14, .ref p16, .ref p17, .ref p18, .ref p19, .ref p20]))
    generalize upd J21 p22 (.lst ([.ref p, .ref p1, .ref p2, .ref p3, .ref p4, .ref p5, .ref p6, .ref p7, .ref p8, .ref p9, .int a] ++ [.ref p11, .ref p12, .ref p13, .ref p14, .ref p16, .ref p17, .ref p18, .ref p19, .ref p20])) = J22 at s22 LC ⊢
    have acc := acc.k (.of s22)
    have tone := tone.k (f := f) (.of s22)
    have sm := sm.trans s22
    have LP := s22 _ _ LP
    have nf : ∀ q, J22 q = none → q ≠ f := fun q hq => nf q (s22.free hq)
    have LP := LC
    refine ⟨_, rfl, _, _, rfl, rfl, ⟨by decide, by decide, by decide⟩, (by show 2 ≤ sizeLine; decide), fun p23 g23 => ?_⟩
    have n23 := nf p23 g23
    have s23 := same_new (o := .tup [.int 1, .int (10 ^ (30 : Int).toNat)]) g23
    have t_23 : Tr f (upd J22 p23 (.tup [.int 1, .int (10 ^ (30 : Int).toNat)])) (.ref p23) (.tuple [.int 1, .int (10 ^ (30 : Int).toNat)]) := .tup n23 upd_same (.cons (.int 1) (.cons (.int (10 ^ (30 : Int).toNat)) .nil))
    generalize upd J22 p23 (.tup [.int 1, .int (10 ^ (30 : Int).toNat)]) = J23 at s23 t_23 ⊢
    have acc := acc.k (.of s23)
    have tone := tone.k (f := f) (.of s23)
    have LP := s23 _ _ LP
    have sm := sm.trans s23
    have nf : ∀ q, J23 q = none → q ≠ f := fun q hq => nf q (s23.free hq)
    have acc : TrAll f J23 [.ref p, .ref p1, .ref p2, .ref p3, .ref p4, .ref p5, .ref p6, .ref p7, .ref p8, .ref p9, .int a, .ref p11, .ref p12, .ref p13, .ref p14, .ref p16, .ref p17, .ref p18, .ref p19, .ref p20, .ref p23] [.tuple [.int a, .int b], .tuple [.int (a * 2), .int (b * 2)], .tuple [.int (0 - a), .int (0 - b)], .tuple [.int a, .int 0], .tuple [.int 0, .int b], .tuple [.int a, .bool true], .tuple [.bool false, .int b], .tuple [.int a, .int b, .int 1], .tuple [.int a], .list [.int a, .int b], .int a, .tuple [.int (a * 7), .int (b * 7)], .tuple [.int (a + b), .int b], .tuple [.str (toString a), .int b], .tuple [.int a, .none], .tuple [.tuple [.int a, .int 1], .int b], .tuple [.int b, .int b], .tuple [.int 0, .int 1], .tuple [.int 0, .int 0], .tuple [.int 0, .int 2], .tuple [.int 1, .int (10 ^ (30 : Int).toNat)]] := acc.app (Tr.one (f := f) (show Tr f J23 (.ref p23) (.tuple [.int 1, .int (10 ^ (30 : Int).toNat)]) from t_23))
    have fin : ∀ d ∈ ([.tuple [.int a, .int b], .tuple [.int (a * 2), .int (b * 2)], .tuple [.int (0 - a), .int (0 - b)], .tuple [.int a, .int 0], .tuple [.int 0, .int b], .tuple [.int a, .bool true], .tuple [.bool false, .int b], .tuple [.int a, .int b, .int 1], .tuple [.int a], .list [.int a, .int b], .int a, .tuple [.int (a * 7), .int (b * 7)], .tuple [.int (a + b), .int b], .tuple [.str (toString a), .int b], .tuple [.int a, .none], .tuple [.tuple [.int a, .int 1], .int b], .tuple [.int b, .int b], .tuple [.int 0, .int 1], .tuple [.int 0, .int 0], .tuple [.int 0, .int 2], .tuple [.int 1, .int (10 ^ (30 : Int).toNat)]] : List PyData), Fine 700 2 d := all_app fin (all_one (e := .tuple [.int 1, .int (10 ^ (30 : Int).toNat)]) (f2 ((fi (n := 200) (by decide) (by decide) (by decide)).mono (by decide) (by decide)) ((fi (n := 200) (by decide) (by decide) (by decide)).mono (by decide) (by decide))))
    refine ⟨_, _, rfl, rfl, ⟨by decide, by decide, by decide⟩, _, _, rfl, rfl, _, _, rfl, rfl, ⟨by decide, by decide, by decide⟩, (by show 2 ≤ sizeLine; decide), fun p24 g24 => ?_⟩
    have n24 := nf p24 g24
    have s24 := same_new (o := .tup [.int ((10 ^ (30 : Int).toNat) + 1), .int (10 ^ (30 : Int).toNat)]) g24
    have t_24 : Tr f (upd J23 p24 (.tup [.int ((10 ^ (30 : Int).toNat) + 1), .int (10 ^ (30 : Int).toNat)])) (.ref p24) (.tuple [.int ((10 ^ (30 : Int).toNat) + 1), .int (10 ^ (30 : Int).toNat)]) := .tup n24 upd_same (.cons (.int ((10 ^ (30 : Int).toNat) + 1)) (.cons (.int (10 ^ (30 : Int).toNat)) .nil))
    generalize upd J23 p24 (.tup [.int ((10 ^ (30 : Int).toNat) + 1), .int (10 ^ (30 : Int).toNat)]) = J24 at s24 t_24 ⊢
    have acc := acc.k (.of s24)
    have tone := tone.k (f := f) (.of s24)
    have LP := s24 _ _ LP
    have sm := sm.trans s24
    have nf : ∀ q, J24 q = none → q ≠ f := fun q hq => nf q (s24.free hq)
    have acc : TrAll f J24 [.ref p, .ref p1, .ref p2, .ref p3, .ref p4, .ref p5, .ref p6, .ref p7, .ref p8, .ref p9, .int a, .ref p11, .ref p12, .ref p13, .ref p14, .ref p16, .ref p17, .ref p18, .ref p19, .ref p20, .ref p23, .ref p24] [.tuple [.int a, .int b], .tuple [.int (a * 2), .int (b * 2)], .tuple [.int (0 - a), .int (0 - b)], .tuple [.int a, .int 0], .tuple [.int 0, .int b], .tuple [.int a, .bool true], .tuple [.bool false, .int b], .tuple [.int a, .int b, .int 1], .tuple [.int a], .list [.int a, .int b], .int a, .tuple [.int (a * 7), .int (b * 7)], .tuple [.int (a + b), .int b], .tuple [.str (toString a), .int b], .tuple [.int a, .none], .tuple [.tuple [.int a, .int 1], .int b], .tuple [.int b, .int b], .tuple [.int 0, .int 1], .tuple [.int 0, .int 0], .tuple [.int 0, .int 2], .tuple [.int 1, .int (10 ^ (30 : Int).toNat)], .tuple [.int ((10 ^ (30 : Int).toNat) + 1), .int (10 ^ (30 : Int).toNat)]] := acc.app (Tr.one (f := f) (show Tr f J24 (.ref p24) (.tuple [.int ((10 ^ (30 : Int).toNat) + 1), .int (10 ^ (30 : Int).toNat)]) from t_24))
    have fin : ∀ d ∈ ([.tuple [.int a, .int b], .tuple [.int (a * 2), .int (b * 2)], .tuple [.int (0 - a), .int (0 - b)], .tuple [.int a, .int 0], .tuple [.int 0, .int b], .tuple [.int a, .bool true], .tuple [.bool false, .int b], .tuple [.int a, .int b, .int 1], .tuple [.int a], .list [.int a, .int b], .int a, .tuple [.int (a * 7), .int (b * 7)], .tuple [.int (a + b), .int b], .tuple [.str (toString a), .int b], .tuple [.int a, .none], .tuple [.tuple [.int a, .int 1], .int b], .tuple [.int b, .int b], .tuple [.int 0, .int 1], .tuple [.int 0, .int 0], .tuple [.int 0, .int 2], .tuple [.int 1, .int (10 ^ (30 : Int).toNat)], .tuple [.int ((10 ^ (30 : Int).toNat) + 1), .int (10 ^ (30 : Int).toNat)]] : List PyData), Fine 700 2 d := all_app fin (all_one (e := .tuple [.int ((10 ^ (30 : Int).toNat) + 1), .int (10 ^ (30 : Int).toNat)]) (f2 ((fi (n := 200) (by decide) (by decide) (by decide)).mono (by decide) (by decide)) ((fi (n := 200) (by decide) (by decide) (by decide)).mono (by decide) (by decide))))
    refine ⟨_, _, rfl, rfl, ⟨by decide, by decide, by decide⟩, _, _, rfl, rfl, ⟨by decide, by decide, by decide⟩, (by show 2 ≤ sizeLine; decide), fun p25 g25 => ?_⟩
    have n25 := nf p25 g25
    have s25 := same_new (o := .tup [.int (10 ^ (30 : Int).toNat), .int (10 ^ (15 : Int).toNat)]) g25
    have t_25 : Tr f (upd J24 p25 (.tup [.int (10 ^ (30 : Int).toNat), .int (10 ^ (15 : Int).toNat)])) (.ref p25) (.tuple [.int (10 ^ (30 : Int).toNat), .int (10 ^ (15 : Int).toNat)]) := .tup n25 upd_same (.cons (.int (10 ^ (30 : Int).toNat)) (.cons (.int (10 ^ (15 : Int).toNat)) .nil))
    generalize upd J24 p25 (.tup [.int (10 ^ (30 : Int).toNat), .int (10 ^ (15 : Int).toNat)]) = J25 at s25 t_25 ⊢
    have acc := acc.k (.of s25)
    have tone := tone.k (f := f) (.of s25)
    have LP := s25 _ _ LP
    have sm := sm.trans s25
    have nf : ∀ q, J25 q = none → q ≠ f := fun q hq => nf q (s25.free hq)
    have acc : TrAll f J25 [.ref p, .ref p1, .ref p2, .ref p3, .ref p4, .ref p5, .ref p6, .ref p7, .ref p8, .ref p9, .int a, .ref p11, .ref p12, .ref p13, .ref p14, .ref p16, .ref p17, .ref p18, .ref p19, .ref p20, .ref p23, .ref p24, .ref p25] [.tuple [.int a, .int b], .tuple [.int (a * 2), .int (b * 2)], .tuple [.int (0 - a), .int (0 - b)], .tuple [.int a, .int 0], .tuple [.int 0, .int b], .tuple [.int a, .bool true], .tuple [.bool false, .int b], .tuple [.int a, .int b, .int 1], .tuple [.int a], .list [.int a, .int b], .int a, .tuple [.int (a * 7), .int (b * 7)], .tuple [.int (a + b), .int b], .tuple [.str (toString a), .int b], .tuple [.int a, .none], .tuple [.tuple [.int a, .int 1], .int b], .tuple [.int b, .int b], .tuple [.int 0, .int 1], .tuple [.int 0, .int 0], .tuple [.int 0, .int 2], .tuple [.int 1, .int (10 ^ (30 : Int).toNat)], .tuple [.int ((10 ^ (30 : Int).toNat) + 1), .int (10 ^ (30 : Int).toNat)], .tuple [.int (10 ^ (30 : Int).toNat), .int (10 ^ (15 : Int).toNat)]] := acc.app (Tr.one (f := f) (show Tr f J25 (.ref p25) (.tuple [.int (10 ^ (30 : Int).toNat), .int (10 ^ (15 : Int).toNat)]) from t_25))
    have fin : ∀ d ∈ ([.tuple [.int a, .int b], .tuple [.int (a * 2), .int (b * 2)], .tuple [.int (0 - a), .int (0 - b)], .tuple [.int a, .int 0], .tuple [.int 0, .int b], .tuple [.int a, .bool true], .tuple [.bool false, .int b], .tuple [.int a, .int b, .int 1], .tuple [.int a], .list [.int a, .int b], .int a, .tuple [.int (a * 7), .int (b * 7)], .tuple [.int (a + b), .int b], .tuple [.str (toString a), .int b], .tuple [.int a, .none], .tuple [.tuple [.int a, .int 1], .int b], .tuple [.int b, .int b], .tuple [.int 0, .int 1], .tuple [.int 0, .int 0], .tuple [.int 0, .int 2], .tuple [.int 1, .int (10 ^ (30 : Int).toNat)], .tuple [.int ((10 ^ (30 : Int).toNat) + 1), .int (10 ^ (30 : Int).toNat)], .tuple [.int (10 ^ (30 : Int).toNat), .int (10 ^ (15 : Int).toNat)]] : List PyData), Fine 700 2 d := all_app fin (all_one (e := .tuple [.int (10 ^ (30 : Int).toNat), .int (10 ^ (15 : Int).toNat)]) (f2 ((fi (n := 200) (by decide) (by decide) (by decide)).mono (by decide) (by decide)) ((fi (n := 200) (by decide) (by decide) (by decide)).mono (by decide) (by decide))))
    refine ⟨_, _, rfl, rfl, ⟨by decide, by decide, by decide⟩, (by show 2 ≤ sizeLine; decide), fun p26 g26 => ?_⟩
    have n26 := nf p26 g26
    have s26 := same_new (o := .tup [.int (10 ^ (59 : Int).toNat), .int 1]) g26
    have t_26 : Tr f (upd J25 p26 (.tup [.int (10 ^ (59 : Int).toNat), .int 1])) (.ref p26) (.tuple [.int (10 ^ (59 : Int).toNat), .int 1]) := .tup n26 upd_same (.cons (.int (10 ^ (59 : Int).toNat)) (.cons (.int 1) .nil))
    generalize upd J25 p26 (.tup [.int (10 ^ (59 : Int).toNat), .int 1]) = J26 at s26 t_26 ⊢
    have acc := acc.k (.of s26)
    have tone := tone.k (f := f) (.of s26)
    have LP := s26 _ _ LP
    have sm := sm.trans s26
    have nf : ∀ q, J26 q = none → q ≠ f := fun q hq => nf q (s26.free hq)
    have acc : TrAll f J26 [.ref p, .ref p1, .ref p2, .ref p3, .ref p4, .ref p5, .ref p6, .ref p7, .ref p8, .ref p9, .int a, .ref p11, .ref p12, .ref p13, .ref p14, .ref p16, .ref p17, .ref p18, .ref p19, .ref p20, .ref p23, .ref p24, .ref p25, .ref p26] [.tuple [.int a, .int b], .tuple [.int (a * 2), .int (b * 2)], .tuple [.int (0 - a), .int (0 - b)], .tuple [.int a, .int 0], .tuple [.int 0, .int b], .tuple [.int a, .bool true], .tuple [.bool false, .int b], .tuple [.int a, .int b, .int 1], .tuple [.int a], .list [.int a, .int b], .int a, .tuple [.int (a * 7), .int (b * 7)], .tuple [.int (a + b), .int b], .tuple [.str (toString a), .int b], .tuple [.int a, .none], .tuple [.tuple [.int a, .int 1], .int b], .tuple [.int b, .int b], .tuple [.int 0, .int 1], .tuple [.int 0, .int 0], .tuple [.int 0, .int 2], .tuple [.int 1, .int (10 ^ (30 : Int).toNat)], .tuple [.int ((10 ^ (30 : Int).toNat) + 1), .int (10 ^ (30 : Int).toNat)], .tuple [.int (10 ^ (30 : Int).toNat), .int (10 ^ (15 : Int).toNat)], .tuple [.int (10 ^ (59 : Int).toNat), .int 1]] := acc.app (Tr.one (f := f) (show Tr f J26 (.ref p26) (.tuple [.int (10 ^ (59 : Int).toNat), .int 1]) from t_26))
    have fin : ∀ d ∈ ([.tuple [.int a, .int b], .tuple [.int (a * 2), .int (b * 2)], .tuple [.int (0 - a), .int (0 - b)], .tuple [.int a, .int 0], .tuple [.int 0, .int b], .tuple [.int a, .bool true], .tuple [.bool false, .int b], .tuple [.int a, .int b, .int 1], .tuple [.int a], .list [.int a, .int b], .int a, .tuple [.int (a * 7), .int (b * 7)], .tuple [.int (a + b), .int b], .tuple [.str (toString a), .int b], .tuple [.int a, .none], .tuple [.tuple [.int a, .int 1], .int b], .tuple [.int b, .int b], .tuple [.int 0, .int 1], .tuple [.int 0, .int 0], .tuple [.int 0, .int 2], .tuple [.int 1, .int (10 ^ (30 : Int).toNat)], .tuple [.int ((10 ^ (30 : Int).toNat) + 1), .int (10 ^ (30 : Int).toNat)], .tuple [.int (10 ^ (30 : Int).toNat), .int (10 ^ (15 : Int).toNat)], .tuple [.int (10 ^ (59 : Int).toNat), .int 1]] : List PyData), Fine 700 2 d := all_app fin (all_one (e := .tuple [.int (10 ^ (59 : Int).toNat), .int 1]) (f2 ((fi (n := 200) (by decide) (by decide) (by decide)).mono (by decide) (by decide)) ((fi (n := 200) (by decide) (by decide) (by decide)).mono (by decide) (by decide))))
    refine ⟨1, rfl, _, _, rfl, rfl, ⟨by decide, by decide, by decide⟩, (by show 2 ≤ sizeLine; decide), fun p27 g27 => ?_⟩
    have n27 := nf p27 g27
    have s27 := same_new (o := .tup [.int (-1), .int (10 ^ (59 : Int).toNat)]) g27
    have t_27 : Tr f (upd J26 p27 (.tup [.int (-1), .int (10 ^ (59 : Int).toNat)])) (.ref p27) (.tuple [.int (-1), .int (10 ^ (59 : Int).toNat)]) := .tup n27 upd_same (.cons (.int (-1)) (.cons (.int (10 ^ (59 : Int).toNat)) .nil))
    generalize upd J26 p27 (.tup [.int (-1), .int (10 ^ (59 : Int).toNat)]) = J27 at s27 t_27 ⊢
    have acc := acc.k (.of s27)
    have tone := tone.k (f := f) (.of s27)
    have LP := s27 _ _ LP
    have sm := sm.trans s27
    have nf : ∀ q, J27 q = none → q ≠ f := fun q hq => nf q (s27.free hq)
    have acc : TrAll f J27 [.ref p, .ref p1, .ref p2, .ref p3, .ref p4, .ref p5, .ref p6, .ref p7, .ref p8, .ref p9, .int a, .ref p11, .ref p12, .ref p13, .ref p14, .ref p16, .ref p17, .ref p18, .ref p19, .ref p20, .ref p23, .ref p24, .ref p25, .ref p26, .ref p27] [.tuple [.int a, .int b], .tuple [.int (a * 2), .int (b * 2)], .tuple [.int (0 - a), .int (0 - b)], .tuple [.int a, .int 0], .tuple [.int 0, .int b], .tuple [.int a, .bool true], .tuple [.bool false, .int b], .tuple [.int a, .int b, .int 1], .tuple [.int a], .list [.int a, .int b], .int a, .tuple [.int (a * 7), .int (b * 7)], .tuple [.int (a + b), .int b], .tuple [.str (toString a), .int b], .tuple [.int a, .none], .tuple [.tuple [.int a, .int 1], .int b], .tuple [.int b, .int b], .tuple [.int 0, .int 1], .tuple [.int 0, .int 0], .tuple [.int 0, .int 2], .tuple [.int 1, .int (10 ^ (30 : Int).toNat)], .tuple [.int ((10 ^ (30 : Int).toNat) + 1), .int (10 ^ (30 : Int).toNat)], .tuple [.int (10 ^ (30 : Int).toNat), .int (10 ^ (15 : Int).toNat)], .tuple [.int (10 ^ (59 : Int).toNat), .int 1], .tuple [.int (-1), .int (10 ^ (59 : Int).toNat)]] := acc.app (Tr.one (f := f) (show Tr f J27 (.ref p27) (.tuple [.int (-1), .int (10 ^ (59 : Int).toNat)]) from t_27))
    have fin : ∀ d ∈ ([.tuple [.int a, .int b], .tuple [.int (a * 2), .int (b * 2)], .tuple [.int (0 - a), .int (0 - b)], .tuple [.int a, .int 0], .tuple [.int 0, .int b], .tuple [.int a, .bool true], .tuple [.bool false, .int b], .tuple [.int a, .int b, .int 1], .tuple [.int a], .list [.int a, .int b], .int a, .tuple [.int (a * 7), .int (b * 7)], .tuple [.int (a + b), .int b], .tuple [.str (toString a), .int b], .tuple [.int a, .none], .tuple [.tuple [.int a, .int 1], .int b], .tuple [.int b, .int b], .tuple [.int 0, .int 1], .tuple [.int 0, .int 0], .tuple [.int 0, .int 2], .tuple [.int 1, .int (10 ^ (30 : Int).toNat)], .tuple [.int ((10 ^ (30 : Int).toNat) + 1), .int (10 ^ (30 : Int).toNat)], .tuple [.int (10 ^ (30 : Int).toNat), .int (10 ^ (15 : Int).toNat)], .tuple [.int (10 ^ (59 : Int).toNat), .int 1], .tuple [.int (-1), .int (10 ^ (59 : Int).toNat)]] : List PyData), Fine 700 2 d := all_app fin (all_one (e := .tuple [.int (-1), .int (10 ^ (59 : Int).toNat)]) (f2 ((fi (n := 200) (by decide) (by decide) (by decide)).mono (by decide) (by decide)) ((fi (n := 200) (by decide) (by decide) (by decide)).mono (by decide) (by decide))))
    refine ⟨(by show 5 ≤ sizeLine; decide), fun p28 g28 => ?_⟩
    have n28 := nf p28 g28
    have s28 := same_new (o := .lst [.ref p23, .ref p24, .ref p25, .ref p26, .ref p27]) g28
    have LN := upd_same (H := J27) (a := p28) (o := .lst [.ref p23, .ref p24, .ref p25, .ref p26, .ref p27])
    generalize upd J27 p28 (.lst [.ref p23, .ref p24, .ref p25, .ref p26, .ref p27]) = J28 at s28 LN ⊢
    have acc := acc.k (.of s28)
    have tone := tone.k (f := f) (.of s28)
    have sm := sm.trans s28
    have LP := s28 _ _ LP
    have nf : ∀ q, J28 q = none → q ≠ f := fun q hq => nf q (s28.free hq)
    refine ⟨p22, p28, _, _, rfl, rfl, LP, LN, (by show 25 ≤ sizeLine; decide), fun p29 g29 => ?_⟩
    have n29 := nf p29 g29
    have s29 := same_new (o := .lst (([.ref p, .ref p1, .ref p2, .ref p3, .ref p4, .ref p5, .ref p6, .ref p7, .ref p8, .ref p9, .int a] ++ [.ref p11, .ref p12, .ref p13, .ref p14, .ref p16, .ref p17, .ref p18, .ref p19, .ref p20]) ++ [.ref p23, .ref p24, .ref p25, .ref p26, .ref p27])) g29
    have LC := upd_same (H := J28) (a := p29) (o := .lst (([.ref p, .ref p1, .ref p2, .ref p3, .ref p4, .ref p5, .ref p6, .ref p7, .ref p8, .ref p9, .int a] ++ [.ref p11, .ref p12, .ref p13, .ref p14, .ref p16, .ref p17, .ref p18, .ref p19, .ref p20]) ++ [.ref p23, .ref p24, .ref p25, .ref p26, .ref p27]))
    generalize upd J28 p29 (.lst (([.ref p, .ref p1, .ref p2, .ref p3, .ref p4, .ref p5, .ref p6, .ref p7, .ref p8, .ref p9, .int a] ++ [.ref p11, .ref p12, .ref p13, .ref p14, .ref p16, .ref p17, .ref p18, .ref p19, .ref p20]) ++ [.ref p23, .ref p24, .ref p25, .ref p26, .ref p27])) = J29 at s29 LC ⊢
    have acc := acc.k (.of s29)
    have tone := tone.k (f := f) (.of s29)
    have sm := sm.trans s29
    have LP := s29 _ _ LP
    have nf : ∀ q, J29 q = none → q ≠ f := fun q hq => nf q (s29.free hq)
    have LP := LC
    have LP : J29 p29 = some (.lst [.ref p, .ref p1, .ref p2, .ref p3, .ref p4, .ref p5, .ref p6, .ref p7, .ref p8, .ref p9, .int a, .ref p11, .ref p12, .ref p13, .ref p14, .ref p16, .ref p17, .ref p18, .ref p19, .ref p20, .ref p23, .ref p24, .ref p25, .ref p26, .ref p27]) := LP
    exact q J29 p29 [.ref p, .ref p1, .ref p2, .ref p3, .ref p4, .ref p5, .ref p6, .ref p7, .ref p8, .ref p9, .int a, .ref p11, .ref p12, .ref p13, .ref p14, .ref p16, .ref p17, .ref p18, .ref p19, .ref p20, .ref p23, .ref p24, .ref p25, .ref p26, .ref p27] [.tuple [.int a, .int b], .tuple [.int (a * 2), .int (b * 2)], .tuple [.int (0 - a), .int (0 - b)], .tuple [.int a, .int 0], .tuple [.int 0, .int b], .tuple [.int a, .bool true], .tuple [.bool false, .int b], .tuple [.int a, .int b, .int 1], .tuple [.int a], .list [.int a, .int b], .int a, .tuple [.int (a * 7), .int (b * 7)], .tuple [.int (a + b), .int b], .tuple [.str (toString a), .int b], .tuple [.int a, .none], .tuple [.tuple [.int a, .int 1], .int b], .tuple [.int b, .int b], .tuple [.int 0, .int 1], .tuple [.int 0, .int 0], .tuple [.int 0, .int 2], .tuple [.int 1, .int (10 ^ (30 : Int).toNat)], .tuple [.int ((10 ^ (30 : Int).toNat) + 1), .int (10 ^ (30 : Int).toNat)], .tuple [.int (10 ^ (30 : Int).toNat), .int (10 ^ (15 : Int).toNat)], .tuple [.int (10 ^ (59 : Int).toNat), .int 1], .tuple [.int (-1), .int (10 ^ (59 : Int).toNat)]] sm n29 LP rfl acc fin
end
end K1

namespace K1
open PySem PySem.Spec PyProof.Rows L2 G Th
section
variable {X : Cx}
theorem call_repE (hg : X.A.guards = some []) (hu : X.A.units + 64 < cLine) : CallR X (.builtin "repr") (fun xs H Q => ∃ f, rRep f xs H Q) := by
  intro pins s σ H xs us Q I r h
  obtain ⟨f, h⟩ := h
  exact call_rep (f := f) hg hu pins s σ H xs us Q I r h
def rMulS : R2 := fun x y H Q => ∃ (z : Str) (n : Int), x = .str z ∧ y = .int n ∧ 1 < n ∧ n ≤ 100 ∧ 0 < z.length ∧ z.length ≤ 100 ∧ ¬ ((z.length : Int) > (2 ^ 63 - 1) / n) ∧ Builtin.Str.tooLong (z.length * n.toNat) = false ∧ (⟨(List.replicate n.toNat z.cps).foldl (· ++ ·) #[]⟩ : Str).length ≤ sizeLine ∧ Q (.str ⟨(List.replicate n.toNat z.cps).foldl (· ++ ·) #[]⟩) H
theorem op_mulS : OpR X (binaryOp .Mult) rMulS := by
  intro pins s σ H x y v u Q I rx ry h
  obtain ⟨z, n, rfl, rfl, n1, n2, z1, z2, dv, tl, sz, q⟩ := h
  obtain ⟨t, rfl⟩ := rx
  obtain ⟨t2, rfl⟩ := ry
  have c1 : ¬ n < 1 := by omega
  have c2 : (n == 1 || z.length == 0) = false := by
    rw [Bool.or_eq_false_iff]
    exact ⟨by simp; omega, by simp; omega⟩
  refine P.mul_str ?_ ?_ ?_ ?_
  · rw [Bool.or_eq_false_iff]
    exact ⟨decide_eq_false (by omega), decide_eq_false (by omega)⟩
  · intro _ _
    exact dv
  · intro _ _
    exact tl
  · rw [if_neg c1, if_neg (by rw [c2]; decide)]
    exact ⟨sz, .str _, H, I.tok _, ⟨_, rfl⟩, q⟩
end
section
variable {P : Program} {w : World} {K : PySem.W.Frag} {mg : Str → Option Value} {base : Heap}
abbrev oneD (x : Int × Int) : PyData := .tuple [.int x.1, .int x.2]
theorem fineOne {x : Int × Int} (h : Fr.Ok 20 x) : Fine 100 1 (oneD x) := by
  refine fine_tup (fun d hd => ?_) ?_
  · simp only [List.mem_cons, List.not_mem_nil, or_false] at hd
    rcases hd with rfl | rfl
    · exact ⟨(fi (n := 20) (by decide) h.b1 (by decide)).ok, Nat.le_refl _⟩
    · exact ⟨(fi (n := 20) (by decide) h.b2 (by decide)).ok, Nat.le_refl _⟩
  · have := wi (n := 20) (by decide) h.b1
    have := wi (n := 20) (by decide) h.b2
    simp only [PyData.weightAll]
    omega
theorem trStrs {f : Addr} {H : Hp} : ∀ L : List Str, TrAll f H (L.map V.str) (L.map PyData.str)
  | [] => .nil
  | x :: r => .cons (.str x) (trStrs r)
theorem fine3 (a b c : Bool) : Fine 10 2 (.list [.bool a, .bool b, .bool c]) := ⟨rfl, by simp [PyData.weight, PyData.weightAll], by simp [PyData.depth, PyData.depthAll]⟩
theorem fineS8 : Fine 700 2 (.str ⟨(List.replicate (8 : Int).toNat ("a" : Str).cps).foldl (· ++ ·) #[]⟩) := ⟨by decide +kernel, by decide +kernel, by decide +kernel⟩
theorem fineS9 : Fine 700 2 (.str ⟨(List.replicate (9 : Int).toNat ("a" : Str).cps).foldl (· ++ ·) #[]⟩) := ⟨by decide +kernel, by decide +kernel, by decide +kernel⟩
def spLaw (K : PySem.W.Frag) : Sp := fun vs H Q _ => ∃ (a : Addr) (ns : List Int), vs = [.ref a] ∧ SqL K H a (ns.map V.int) ∧ ns.length ≤ 63 ∧ ∀ H', Q (.bl true) H'
theorem scLaw : FnScope ["_law_script", "_law_feed_here", "_law_turn", "_law_one", "_law_menu", "_law_some", "_law_k", "_law_bent", "_law_thing", "_law_kept", "_law_told", "_law_due"] ["_law_script"] (defScope sLaw) := ⟨rfl, rfl, rfl, by decide +kernel, rfl, by decide +kernel, by decide +kernel⟩
abbrev scLawN : List Str := ["_law_script", "_law_feed_here", "_law_turn", "_law_one", "_law_menu", "_law_some", "_law_k", "_law_bent", "_law_thing", "_law_kept", "_law_told", "_law_due"]
abbrev scLawS : Scope := defScope sLaw
theorem ok_law {f fE fF fG fX fS fN fW fA fO fU fV : Addr} {fd dE dF dG dX dS dN dW dA dO dU dV : FuncData} (F : Fun K "law" "law" sLaw f fd)
    (FE : At P w K mg base 1 "_law_feed" ["_law_script"] (spFeed K) fE dE) (FR : At P w K mg base 3 "_law_fraction" ["_law_feed_here"] spFrac fF dF) (NE : At P w K mg base 1 "_law_near" ["_law_one"] spNear fG dG) (TX : At P w K mg base 2 "_law_text" ["_law_feed_here"] spText fX dX)
    (S1 : At P w K mg base 3 "_law_spoilt" ["_law_feed_here", "_law_thing", "_law_menu"] (spSp 300 1 1) fS dS) (S3 : At P w K mg base 5 "_law_spoilt" ["_law_feed_here", "_law_thing", "_law_menu"] (spSp 300 1 3) fS dS)
    (NU : At P w K mg base 1 "is_number" ["thing"] (spIs isNum) fN dN) (WO : At P w K mg base 1 "is_word" ["thing"] (spIs isWord) fW dW) (FA : At P w K mg base 2 "is_fraction" ["thing"] (spIs isFr) fA dA)
    (LN : At P w K mg base 1 "_law_is_number" ["_law_thing"] (spIs isNum) fO dO) (LW : At P w K mg base 1 "_law_is_word" ["_law_thing"] (spIs isWord) fU dU) (LF : At P w K mg base 2 "_law_is_fraction" ["_law_thing"] (spIs isFr) fV dV)
    (m_repr : mg "repr" = none) (mRange : mg "range" = none) : FnG P w K mg base 6 f fd ["_law_script"] (spLaw K) := by
  refine fn_g F scLaw (fun vs H Q E h => ?_) (fun cdv A outer s0 H vs Q E hg hr h => ?_)
  · obtain ⟨a, ns, rfl, _⟩ := h
    rfl
  · obtain ⟨a0, ns, rfl, hS, hl, q⟩ := h
    have hr3 : Room 3 _ := hr.mono (by decide)
    have hr2 : Room 2 _ := hr.mono (by decide)
    have hr1 : Room 1 _ := hr.mono (by decide)
    refine ⟨_, (pss_cons (ps_set (i := 1) scLaw.nd rfl (.inr rfl) (pe_call FE.G hr1 (by rfl) FE.g FE.k FE.b .nil pass0 (pa_cons (pv 0) pa_nil)))
      (pss_cons (ps_for PassesOwn.never rfl (pi_range1 (by rfl) mRange (pa_cons pe_int pa_nil)) (pg_name (i := 2) scLaw.nd rfl (.inl rfl)) (pss_cons (ps_set (i := 3) scLaw.nd rfl (.inl rfl) (pe_call FR.G hr3 (by rfl) FR.g FR.k FR.b .nil pass0 (pa_cons (pv 1) pa_nil)))
      (pss_cons (ps_set (i := 4) scLaw.nd rfl (.inl rfl) (pe_lst (pa_cons pe_non (pa_cons pe_bl (pa_cons pe_int (pa_cons pe_int (pa_cons (pe_un un_neg pe_int) (pa_cons pe_int (pa_cons pe_str (pa_cons pe_str (pa_cons (pe_tup pa_nil) (pa_cons (pe_lst pa_nil) (pa_cons (pv 3) (pa_cons (pe_op op_pow pe_int pe_int) (pa_cons pe_str (pa_cons pe_str (pa_cons (pe_tup (pa_cons pe_str pa_nil)) pa_nil)))))))))))))))))
      (pss_cons (ps_set (i := 5) scLaw.nd rfl (.inl rfl) (pe_op op_cat (pe_op op_cat (pe_op op_cat (pe_call NE.G hr1 (by rfl) NE.g NE.k NE.b .nil pass0 (pa_cons (pv 3) pa_nil)) (pv 4)) (pe_lc (own := [("_law_k", 6)]) (g := gName 6) (tt := tYes) rfl scLaw.nd (pi_range1 (by rfl) mRange (pa_cons pe_int pa_nil)) (blkOk_by (own := [("_law_k", 6)]) (N := scLawN) (sc := scLawS) (by decide +kernel)) (fun _ _ _ _ _ => (pg_name (i := 6) scLaw.nd rfl (.inl rfl))) (fun _ _ _ _ _ => pts_nil) (fun _ _ _ _ _ => (pe_call TX.G hr2 (by rfl) TX.g TX.k TX.b .nil pass0 (pa_cons (pv 1) pa_nil))))) (pe_lst (pa_cons (pe_op op_mulS pe_str pe_int) (pa_cons (pe_op op_mulS pe_str pe_int) pa_nil)))))
      (pss_cons (ps_for PassesOwn.never rfl (pi_range1 (by rfl) mRange (pa_cons pe_int pa_nil)) (pg_name (i := 6) scLaw.nd rfl (.inl rfl)) (pss_cons (ps_set (i := 7) scLaw.nd rfl (.inl rfl) (pe_call S1.G hr3 (by rfl) S1.g S1.k S1.b .nil pass0 (pa_cons (pv 1) (pa_cons (pv 3) (pa_cons (pv 4) pa_nil)))))
      (pss_one (ps_set (i := 5) scLaw.nd rfl (.inl rfl) (pe_op op_cat (pv 5) (pe_lst (pa_cons (pv 7) (pa_cons (pe_call S3.G hr (by rfl) S3.g S3.k S3.b .nil pass0 (pa_cons (pv 1) (pa_cons (pv 7) (pa_cons (pv 4) pa_nil)))) pa_nil))))))))
      (pss_one (ps_for PassesOwn.never rfl (pi_list (pv 5)) (pg_name (i := 8) scLaw.nd rfl (.inl rfl)) (pss_cons (ps_set (i := 9) scLaw.nd rfl (.inl rfl) (pe_callB (call_repE hg hr.units) (by rfl) m_repr boot_repr (pa_cons (pv 8) pa_nil)))
      (pss_cons (ps_set (i := 10) scLaw.nd rfl (.inl rfl) (pe_lst (pa_cons (pe_call NU.G hr1 (by rfl) NU.g NU.k NU.b .nil pass0 (pa_cons (pv 8) pa_nil)) (pa_cons (pe_call WO.G hr1 (by rfl) WO.g WO.k WO.b .nil pass0 (pa_cons (pv 8) pa_nil)) (pa_cons (pe_call FA.G hr2 (by rfl) FA.g FA.k FA.b .nil pass0 (pa_cons (pv 8) pa_nil)) pa_nil)))))
      (pss_cons (ps_set (i := 11) scLaw.nd rfl (.inl rfl) (pe_lst (pa_cons (pe_call LN.G hr1 (by rfl) LN.g LN.k LN.b .nil pass0 (pa_cons (pv 8) pa_nil)) (pa_cons (pe_call LW.G hr1 (by rfl) LW.g LW.k LW.b .nil pass0 (pa_cons (pv 8) pa_nil)) (pa_cons (pe_call LF.G hr2 (by rfl) LF.g LF.k LF.b .nil pass0 (pa_cons (pv 8) pa_nil)) pa_nil)))))
      (pss_one (ps_if (PW.pt (pw_or (pt_cmpR op_ne (pe_callB (call_repE hg hr.units) (by rfl) m_repr boot_repr (pa_cons (pv 10) pa_nil)) (pe_callB (call_repE hg hr.units) (by rfl) m_repr boot_repr (pa_cons (pv 11) pa_nil)) (nomark _)) (pw_or1 (pt_cmpR op_ne (pe_callB (call_repE hg hr.units) (by rfl) m_repr boot_repr (pa_cons (pv 8) pa_nil)) (pv 9) (nomark _))))) (pss_one (ps_ret pe_bl)) pss_nil))))))))))))
      (pss_one (ps_ret pe_bl)))), ?_⟩
    have e38 : (2 : Int) ^ 38 = 274877906944 := by decide
    have e39 : (2 : Int) ^ 39 = 549755813888 := by decide
    refine ⟨_, rfl, a0, ns, rfl, hS, hl, fun H0 f s sm0 nf0 ns0 FD => ?_⟩
    refine ⟨4, rfl, by decide, by decide, for_range (lo := 0) (n := 4) (fun i σ H' => ∃ y2 y3 y4 y5 y6 y7 y8 y9 y10 y11 : Option V, σ = [some (.ref a0), some (.ref f), y2, y3, y4, y5, y6, y7, y8, y9, y10, y11] ∧ Fd H' f s ns (200 * i)) ⟨_, _, _, _, _, _, _, _, _, _, rfl, FD.mono (by decide)⟩ ?_ ?_⟩
    · rintro i0 σ H' hi0 ⟨y2, y3, y4, y5, y6, y7, y8, y9, y10, y11, rfl, F0⟩
      refine ⟨_, rfl, f, s, ns, _, rfl, F0, by omega, fun H1 p0 x bt np0 hp0 ox F1 => ?_⟩
      have n0 : p0 ≠ f := F0.ne_none np0
      have tone : Tr f H1 (.ref p0) (oneD x) := .tup n0 hp0 (.cons (.int _) (.cons (.int _) .nil))
      have fone := fineOne ox
      refine ⟨1, rfl, (by show 0 ≤ sizeLine; decide), fun p1 g1 => ?_⟩
      have n1 := F1.ne_none g1
      have s1 := same_new (o := .tup []) g1
      have t_1 : Tr f (upd H1 p1 (.tup [])) (.ref p1) (.tuple []) := .tup n1 upd_same .nil
      generalize upd H1 p1 (.tup []) = J1 at s1 t_1 ⊢
      have F1 := F1.keep s1
      have bt := bt.trans (.of s1)
      have tone := tone.k (f := f) (.of s1)
      refine ⟨(by show 0 ≤ sizeLine; decide), fun p2 g2 => ?_⟩
      have n2 := F1.ne_none g2
      have s2 := same_new (o := .lst []) g2
      have t_2 : Tr f (upd J1 p2 (.lst [])) (.ref p2) (.list []) := .lst n2 upd_same .nil
      generalize upd J1 p2 (.lst []) = J2 at s2 t_2 ⊢
      have F1 := F1.keep s2
      have bt := bt.trans (.of s2)
      have tone := tone.k (f := f) (.of s2)
      have t_1 := t_1.k (f := f) (.of s2)
      refine ⟨_, rfl, _, _, rfl, rfl, ⟨by decide, by decide, by decide⟩, (by show 1 ≤ sizeLine; decide), fun p3 g3 => ?_⟩
      have n3 := F1.ne_none g3
      have s3 := same_new (o := .tup [.str "a"]) g3
      have t_3 : Tr f (upd J2 p3 (.tup [.str "a"])) (.ref p3) (.tuple [.str "a"]) := .tup n3 upd_same (.cons (.str _) .nil)
      generalize upd J2 p3 (.tup [.str "a"]) = J3 at s3 t_3 ⊢
      have F1 := F1.keep s3
      have bt := bt.trans (.of s3)
      have tone := tone.k (f := f) (.of s3)
      have t_1 := t_1.k (f := f) (.of s3)
      have t_2 := t_2.k (f := f) (.of s3)
      refine ⟨(by show 15 ≤ sizeLine; decide), fun pm gm => ?_⟩
      have nm := F1.ne_none gm
      have sm := same_new (o := .lst [.non, .bl true, .int 0, .int 1, .int (-1), .int 2, .str "", .str "1/2", .ref p1, .ref p2, .ref p0, .int (10 ^ (59 : Int).toNat), .str "A", .str "abcdefghi", .ref p3]) gm
      have hm := upd_same (H := J3) (a := pm) (o := .lst [.non, .bl true, .int 0, .int 1, .int (-1), .int 2, .str "", .str "1/2", .ref p1, .ref p2, .ref p0, .int (10 ^ (59 : Int).toNat), .str "A", .str "abcdefghi", .ref p3])
      generalize upd J3 pm (.lst [.non, .bl true, .int 0, .int 1, .int (-1), .int 2, .str "", .str "1/2", .ref p1, .ref p2, .ref p0, .int (10 ^ (59 : Int).toNat), .str "A", .str "abcdefghi", .ref p3]) = Hm at sm hm ⊢
      have F1 := F1.keep sm
      have bt := bt.trans (.of sm)
      have tone := tone.k (f := f) (.of sm)
      have t_1 := t_1.k (f := f) (.of sm)
      have t_2 := t_2.k (f := f) (.of sm)
      have t_3 := t_3.k (f := f) (.of sm)
      have tm : TrAll f Hm [.non, .bl true, .int 0, .int 1, .int (-1), .int 2, .str "", .str "1/2", .ref p1, .ref p2, .ref p0, .int (10 ^ (59 : Int).toNat), .str "A", .str "abcdefghi", .ref p3] ([.none, .bool true, .int 0, .int 1, .int (-1), .int 2, .str "", .str "1/2", .tuple [], .list [], oneD x, .int (10 ^ (59 : Int).toNat), .str "A", .str "abcdefghi", .tuple [.str "a"]] : List PyData) := (.cons (.non) (.cons (.bl true) (.cons (.int 0) (.cons (.int 1) (.cons (.int (-1)) (.cons (.int 2) (.cons (.str "") (.cons (.str "1/2") (.cons (t_1) (.cons (t_2) (.cons (tone) (.cons (.int (10 ^ (59 : Int).toNat)) (.cons (.str "A") (.cons (.str "abcdefghi") (.cons (t_3) .nil)))))))))))))))
      have mF : ∀ d ∈ ([.none, .bool true, .int 0, .int 1, .int (-1), .int 2, .str "", .str "1/2", .tuple [], .list [], oneD x, .int (10 ^ (59 : Int).toNat), .str "A", .str "abcdefghi", .tuple [.str "a"]] : List PyData), Fine 300 1 d := by
        intro d hd
        simp only [List.mem_cons, List.not_mem_nil, or_false] at hd
        rcases hd with rfl | rfl | rfl | rfl | rfl | rfl | rfl | rfl | rfl | rfl | rfl | rfl | rfl | rfl | rfl
        · exact ⟨rfl, by decide, by decide⟩
        · exact ⟨rfl, by decide, by decide⟩
        · exact ⟨by decide, by decide, by decide⟩
        · exact ⟨by decide, by decide, by decide⟩
        · exact ⟨by decide, by decide, by decide⟩
        · exact ⟨by decide, by decide, by decide⟩
        · exact ⟨by decide +kernel, by decide +kernel, by decide⟩
        · exact ⟨by decide +kernel, by decide +kernel, by decide⟩
        · exact ⟨rfl, by decide, by decide⟩
        · exact ⟨rfl, by decide, by decide⟩
        · exact (fone.mono (by decide) (by decide))
        · exact ⟨by decide, by decide, by decide⟩
        · exact ⟨by decide +kernel, by decide +kernel, by decide⟩
        · exact ⟨by decide +kernel, by decide +kernel, by decide⟩
        · exact ⟨by decide +kernel, by decide +kernel, by decide⟩
      generalize hmv : ([.non, .bl true, .int 0, .int 1, .int (-1), .int 2, .str "", .str "1/2", .ref p1, .ref p2, .ref p0, .int (10 ^ (59 : Int).toNat), .str "A", .str "abcdefghi", .ref p3] : List V) = mv at hm tm
      generalize hms : ([.none, .bool true, .int 0, .int 1, .int (-1), .int 2, .str "", .str "1/2", .tuple [], .list [], oneD x, .int (10 ^ (59 : Int).toNat), .str "A", .str "abcdefghi", .tuple [.str "a"]] : List PyData) = ms at tm mF
      have mvl : mv.length = 15 := by rw [← hmv]; rfl
      have msl : ms.length = 15 := by rw [← hms]; rfl
      clear hmv hms
      -- near + menu
      have hp1 : Hm p0 = some (.tup [.int x.1, .int x.2]) := by
        cases tone with
        | tup _ e r =>
          cases r with
          | cons r1 r2 =>
            cases r1
            cases r2 with
            | cons r3 r4 =>
              cases r3
              cases r4
              exact e
      obtain ⟨_, _, _, hfe, _⟩ := F1.ex
      refine ⟨_, rfl, f, p0, x.1, x.2, rfl, n0, hp1, ox.b1, ox.b2, (fun q hq => F1.ne_none hq), ⟨_, hfe⟩, fun H5 l5 vs ds s5 n5 h5 len5 tr5 fin5 => ?_⟩
      have F5 := F1.keep s5
      have tone5 := tone.k (f := f) (.of s5)
      have tm5 := tm.k (.of s5)
      have hm5 := s5 _ _ hm
      refine ⟨_, rfl, l5, pm, _, _, rfl, rfl, h5, hm5, (by rw [len5, mvl]; decide), fun l6 g6 => ?_⟩
      have s6 := same_new (o := .lst (vs ++ mv)) g6
      have h6 := upd_same (H := H5) (a := l6) (o := .lst (vs ++ mv))
      have n6 := F5.ne_none g6
      generalize upd H5 l6 (.lst (vs ++ mv)) = H6 at s6 h6 ⊢
      have F6 := F5.keep s6
      have tr6 := (tr5.app tm5).k (.of s6)
      have tone6 := tone5.k (f := f) (.of s6)
      have tm6 := tm5.k (.of s6)
      have hm6 := s6 _ _ hm5
      have fin6 : ∀ d ∈ ds ++ ms, Fine 700 2 d := all_app fin5 fun d hd => (mF d hd).mono (by decide) (by decide)
      have len6 : (vs ++ mv).length = 40 := by rw [List.length_append, len5, mvl]
      generalize vs ++ mv = vs6 at h6 tr6 len6
      generalize ds ++ ms = ds6 at tr6 fin6
      -- the texts
      refine ⟨9, rfl, by decide, by decide, fun D hD => ?_⟩
      have nDf := F6.ne_none hD
      have nDs := F6.ne_s hD
      refine lc_range (lo := 0) (n := 9) (fun i H' => ∃ L : List Str, L.length = i ∧ (∀ z ∈ L, okD (.str z) = true ∧ z.length ≤ 9) ∧ H' D = some (.lst (L.map V.str)) ∧ But f H6 H' ∧ Fd H' f s ns (200 * i0 + 6 + 12 * i)) ⟨[], rfl, by simp, upd_same, .of (same_new hD), (F6.put nDf nDs).mono (by omega)⟩ ?_ ?_
      · rintro i H2 hi ⟨L, hL, hv, hl2, b2, F2⟩
        refine ⟨rfl, ?_⟩
        refine ⟨_, rfl, f, s, ns, _, rfl, F2, by omega, fun H3 z b3 F3 oz lz => ?_⟩
        refine ⟨_, b3 _ _ nDf hl2, (by rw [List.length_map, hL]; exact Nat.lt_trans hi (by decide)), L ++ [z], (by rw [List.length_append, hL]; rfl), ?_, ?_, ?_, ?_⟩
        · intro y hy
          rcases List.mem_append.mp hy with hy | hy
          · exact hv y hy
          · cases List.mem_singleton.mp hy
            exact ⟨oz, lz⟩
        · rw [upd_same, List.map_append]
          rfl
        · intro b o nb e
          rw [upd_ne (ne_of_none e hD)]
          exact b3 _ _ nb (b2 _ _ nb e)
        · exact (F3.put nDf nDs).mono (by omega)
      rintro H7 ⟨L, hL, hv, hl7, b7, F7⟩
      have tr7 := tr6.k b7
      have tone7 := tone6.k b7
      have tm7 := tm6.k b7
      have hm7 := b7 _ _ nm hm6
      have h67 := b7 _ _ n6 h6
      refine ⟨l6, D, _, _, rfl, rfl, h67, hl7, (by rw [len6, List.length_map, hL]; decide), fun l8 g8 => ?_⟩
      have s8 := same_new (o := .lst (vs6 ++ L.map V.str)) g8
      have h8 := upd_same (H := H7) (a := l8) (o := .lst (vs6 ++ L.map V.str))
      have n8 := F7.ne_none g8
      generalize upd H7 l8 (.lst (vs6 ++ L.map V.str)) = H8 at s8 h8 ⊢
      have F8 := F7.keep s8
      have tr8 := (tr7.app (trStrs L)).k (.of s8)
      have fin8 : ∀ d ∈ ds6 ++ L.map PyData.str, Fine 700 2 d := all_app fin6 fun d hd => by
        obtain ⟨z, hz, rfl⟩ := List.mem_map.mp hd
        exact ⟨(hv z hz).1, Nat.le_trans (hv z hz).2 (by decide), Nat.zero_le _⟩
      have tone8 := tone7.k (f := f) (.of s8)
      have tm8 := tm7.k (.of s8)
      have hm8 := s8 _ _ hm7
      -- two more texts
      refine ⟨_, _, rfl, rfl, by decide, by decide, by decide +kernel, by decide +kernel, by decide +kernel, by decide +kernel, by decide +kernel, _, _, rfl, rfl, by decide, by decide, by decide +kernel, by decide +kernel, by decide +kernel, by decide +kernel, by decide +kernel, (by show 2 ≤ sizeLine; decide), fun l9 g9 => ?_⟩
      have s9 := same_new (o := .lst [.str ⟨(List.replicate (8 : Int).toNat ("a" : Str).cps).foldl (· ++ ·) #[]⟩, .str ⟨(List.replicate (9 : Int).toNat ("a" : Str).cps).foldl (· ++ ·) #[]⟩]) g9
      have h9 := upd_same (H := H8) (a := l9) (o := .lst [.str ⟨(List.replicate (8 : Int).toNat ("a" : Str).cps).foldl (· ++ ·) #[]⟩, .str ⟨(List.replicate (9 : Int).toNat ("a" : Str).cps).foldl (· ++ ·) #[]⟩])
      generalize upd H8 l9 (.lst [.str ⟨(List.replicate (8 : Int).toNat ("a" : Str).cps).foldl (· ++ ·) #[]⟩, .str ⟨(List.replicate (9 : Int).toNat ("a" : Str).cps).foldl (· ++ ·) #[]⟩]) = H9 at s9 h9 ⊢
      have F9 := F8.keep s9
      have tr9 := (tr8.k (.of s9)).app (.cons (.str ⟨(List.replicate (8 : Int).toNat ("a" : Str).cps).foldl (· ++ ·) #[]⟩) (.cons (.str ⟨(List.replicate (9 : Int).toNat ("a" : Str).cps).foldl (· ++ ·) #[]⟩) .nil))
      have fin9 := all_app fin8 (all_app (all_one fineS8) (all_one fineS9))
      have h89 := s9 _ _ h8
      have len8 : (vs6 ++ L.map V.str).length = 49 := by rw [List.length_append, len6, List.length_map, hL]
      refine ⟨l8, l9, _, _, rfl, rfl, h89, h9, (by rw [len8]; decide), fun l10 g10 => ?_⟩
      have s10 := same_new (o := .lst ((vs6 ++ L.map V.str) ++ [.str ⟨(List.replicate (8 : Int).toNat ("a" : Str).cps).foldl (· ++ ·) #[]⟩, .str ⟨(List.replicate (9 : Int).toNat ("a" : Str).cps).foldl (· ++ ·) #[]⟩])) g10
      have h10 := upd_same (H := H9) (a := l10) (o := .lst ((vs6 ++ L.map V.str) ++ [.str ⟨(List.replicate (8 : Int).toNat ("a" : Str).cps).foldl (· ++ ·) #[]⟩, .str ⟨(List.replicate (9 : Int).toNat ("a" : Str).cps).foldl (· ++ ·) #[]⟩]))
      have n10 := F9.ne_none g10
      generalize upd H9 l10 (.lst ((vs6 ++ L.map V.str) ++ [.str ⟨(List.replicate (8 : Int).toNat ("a" : Str).cps).foldl (· ++ ·) #[]⟩, .str ⟨(List.replicate (9 : Int).toNat ("a" : Str).cps).foldl (· ++ ·) #[]⟩])) = H10 at s10 h10 ⊢
      have F10 := F9.keep s10
      have tr10 := tr9.k (.of s10)
      have tone10 := (tone8.k (f := f) (.of s9)).k (f := f) (.of s10)
      have tm10 := (tm8.k (.of s9)).k (.of s10)
      have hm10 := s10 _ _ (s9 _ _ hm8)
      have len10 : ((vs6 ++ L.map V.str) ++ [V.str ⟨(List.replicate (8 : Int).toNat ("a" : Str).cps).foldl (· ++ ·) #[]⟩, V.str ⟨(List.replicate (9 : Int).toNat ("a" : Str).cps).foldl (· ++ ·) #[]⟩]).length = 51 := by rw [List.length_append, len8]; rfl
      -- the bent ones
      refine ⟨4, rfl, by decide, by decide, for_range (lo := 0) (n := 4) (fun i σ' Hk => ∃ (z6 z7 z8 z9 z10 z11 : Option V) (ls : Addr) (ws : List V) (es : List PyData), σ' = [some (.ref a0), some (.ref f), some (.int (0 + (i0 : Int))), some (.ref p0), some (.ref pm), some (.ref ls), z6, z7, z8, z9, z10, z11] ∧
        ls ≠ f ∧ Hk ls = some (.lst ws) ∧ TrAll f Hk ws es ∧ (∀ d ∈ es, Fine 5000 6 d) ∧ ws.length = 51 + 2 * i ∧ Tr f Hk (.ref p0) (oneD x) ∧ Hk pm = some (.lst mv) ∧ TrAll f Hk mv ms ∧ Fd Hk f s ns (200 * i0 + 120 + 18 * i))
        ⟨_, _, _, _, _, _, l10, _, _, rfl, n10, h10, tr10, (fun d hd => (fin9 d hd).mono (by decide) (by decide)), len10, tone10, hm10, tm10, F10.mono (by omega)⟩ ?_ ?_⟩
      · rintro i σ' Hk hi ⟨z6, z7, z8, z9, z10, z11, ls, ws, es, rfl, nls, hls, tw, fw, lw, to, hmk, tmk, Fk⟩
        refine ⟨_, rfl, _, rfl, _, rfl, f, s, pm, ns, _, .ref p0, oneD x, mv, ms, 100, rfl, Fk, by omega, to, fone, by decide, by decide, nm, hmk, tmk, by omega, by omega, mF, fun H2 v2 d2 b2 F2 t2 f2 => ?_⟩
        refine ⟨_, rfl, _, rfl, _, rfl, _, rfl, _, rfl, f, s, pm, ns, _, v2, d2, mv, ms, 703, rfl, F2, by omega, t2, f2.mono (by decide) (by decide), by decide, by decide, nm, b2 _ _ nm hmk, tmk.k b2, by omega, by omega, mF, fun H3 v3 d3 b3 F3 t3 f3 => ?_⟩
        refine ⟨(by show 2 ≤ sizeLine; decide), fun l4 g4 => ?_⟩
        have s4 := same_new (o := .lst [v2, v3]) g4
        have h4 := upd_same (H := H3) (a := l4) (o := .lst [v2, v3])
        generalize upd H3 l4 (.lst [v2, v3]) = H4 at s4 h4 ⊢
        have F4 := F3.keep s4
        have b4 := (b2.trans b3).trans (.of s4)
        have hls4 := b4 _ _ nls hls
        refine ⟨ls, l4, _, _, rfl, rfl, hls4, h4, (by rw [lw]; show 51 + 2 * i + 2 ≤ sizeLine; exact Nat.le_trans (show 51 + 2 * i + 2 ≤ 100 by omega) (by decide)), fun l5 g5 => ?_⟩
        have s5' := same_new (o := .lst (ws ++ [v2, v3])) g5
        have bb := b4.trans (.of s5')
        refine ⟨_, _, _, _, _, _, l5, ws ++ [v2, v3], es ++ [d2, d3], rfl, F4.ne_none g5, upd_same, (tw.k bb).app (.cons (t2.k ((b3.trans (.of s4)).trans (.of s5'))) (.cons (t3.k ((But.of s4).trans (.of s5'))) .nil)), ?_, ?_, to.k bb, bb _ _ nm hmk, tmk.k bb, (F4.keep s5').mono (by omega)⟩
        · refine all_app fw fun d hd => ?_
          simp only [List.mem_cons, List.not_mem_nil, or_false] at hd
          rcases hd with rfl | rfl
          · exact f2.mono (by decide) (by decide)
          · exact f3.mono (by decide) (by decide)
        · rw [List.length_append, lw]
          show 51 + 2 * i + 2 = _
          omega
      rintro σ' Hs ⟨z6, z7, z8, z9, z10, z11, ls, ws, es, rfl, nls, hls, tw, fw, lw, to, hmk, tmk, Fk⟩
      -- each thing
      refine ⟨_, rfl, ls, rfl, ⟨_, SqL.of hls⟩, for_list (K := K) (a := ls) (xs := ws) (fun i σ' Hk => ∃ z8 z9 z10 z11 : Option V, σ' = [some (.ref a0), some (.ref f), some (.int (0 + (i0 : Int))), some (.ref p0), some (.ref pm), some (.ref ls), z6, z7, z8, z9, z10, z11] ∧ Same Hs Hk)
        ⟨_, _, _, _, rfl, Same.refl _⟩ (fun i σ' Hk _ ⟨_, _, _, _, _, sk⟩ => SqL.of (sk _ _ hls)) ?_ ?_⟩
      · rintro i v σ' Hk hv ⟨z8, z9, z10, z11, rfl, sk⟩
        obtain ⟨d, hd, tv0⟩ := tw.get hv
        have fv := fw d (List.mem_of_getElem? hd)
        have tv := tv0.k (f := f) (.of sk)
        refine ⟨_, rfl, f, v, d, 5000, 6, rfl, tv, fv, by decide, by decide, ?_⟩
        refine ⟨_, rfl, f, v, d, 5000, 6, rfl, tv, fv, by decide, by decide, fun Ha sa => ?_⟩
        have tv := tv.k (f := f) (.of sa)
        refine ⟨_, rfl, f, v, d, 5000, 6, rfl, tv, fv, by decide, by decide, fun Hb sb => ?_⟩
        have tv := tv.k (f := f) (.of sb)
        refine ⟨_, rfl, f, v, d, 5000, 6, rfl, tv, fv, by decide, by decide, fun Hc sc => ?_⟩
        have tv := tv.k (f := f) (.of sc)
        refine ⟨(by show 3 ≤ sizeLine; decide), fun l1 g1 => ?_⟩
        have s1 := same_new (o := .lst [.bl (isNum d), .bl (isWord d), .bl (isFr d)]) g1
        have h1 := upd_same (H := Hc) (a := l1) (o := .lst [.bl (isNum d), .bl (isWord d), .bl (isFr d)])
        generalize upd Hc l1 (.lst [.bl (isNum d), .bl (isWord d), .bl (isFr d)]) = Hd at s1 h1 ⊢
        have tv := tv.k (f := f) (.of s1)
        refine ⟨_, rfl, f, v, d, 5000, 6, rfl, tv, fv, by decide, by decide, fun He se => ?_⟩
        have tv := tv.k (f := f) (.of se)
        refine ⟨_, rfl, f, v, d, 5000, 6, rfl, tv, fv, by decide, by decide, fun Hf sf => ?_⟩
        have tv := tv.k (f := f) (.of sf)
        refine ⟨_, rfl, f, v, d, 5000, 6, rfl, tv, fv, by decide, by decide, fun Hg sg => ?_⟩
        have tv := tv.k (f := f) (.of sg)
        refine ⟨(by show 3 ≤ sizeLine; decide), fun l2 g2 => ?_⟩
        have s2 := same_new (o := .lst [.bl (isNum d), .bl (isWord d), .bl (isFr d)]) g2
        have h2 := upd_same (H := Hg) (a := l2) (o := .lst [.bl (isNum d), .bl (isWord d), .bl (isFr d)])
        generalize upd Hg l2 (.lst [.bl (isNum d), .bl (isWord d), .bl (isFr d)]) = Hh at s2 h2 ⊢
        have tv := tv.k (f := f) (.of s2)
        have sall : Same Hs Hh := (((((((sk.trans sa).trans sb).trans sc).trans s1).trans se).trans sf).trans sg).trans s2
        have Fh := Fk.keep sall
        have h1h := s2 _ _ (sg _ _ (sf _ _ (se _ _ h1)))
        have nl1 : l1 ≠ f := (Fk.keep (((sk.trans sa).trans sb).trans sc)).ne_none g1
        have nl2 : l2 ≠ f := (Fk.keep (((((((sk.trans sa).trans sb).trans sc).trans s1).trans se).trans sf).trans sg)).ne_none g2
        have T1 : Tr f Hh (.ref l1) (.list [.bool (isNum d), .bool (isWord d), .bool (isFr d)]) := .lst nl1 h1h (.cons (.bl _) (.cons (.bl _) (.cons (.bl _) .nil)))
        have T2 : Tr f Hh (.ref l2) (.list [.bool (isNum d), .bool (isWord d), .bool (isFr d)]) := .lst nl2 h2 (.cons (.bl _) (.cons (.bl _) (.cons (.bl _) .nil)))
        refine ⟨_, rfl, f, .ref l1, _, 10, 2, rfl, T1, fine3 _ _ _, by decide, by decide, _, rfl, f, .ref l2, _, 10, 2, rfl, T2, fine3 _ _ _, by decide, by decide, rfl, _, rfl, ?_⟩
        refine no (by rw [decide_eq_true rfl]; rfl) ?_
        refine ⟨_, rfl, f, v, d, 5000, 6, rfl, tv, fv, by decide, by decide, _, rfl, rfl, _, rfl, ?_⟩
        refine no (by rw [decide_eq_true rfl]; rfl) ?_
        exact ⟨_, _, _, _, rfl, sall⟩
      · rintro σ' Hk ⟨z8, z9, z10, z11, rfl, sk⟩
        exact ⟨_, _, _, _, _, _, _, _, _, _, rfl, (Fk.keep sk).mono (by omega)⟩
    · rintro σ H' ⟨y2, y3, y4, y5, y6, y7, y8, y9, y10, y11, rfl, F0⟩
      exact q _
end
end K1

namespace K1
open PySem PySem.Spec PyProof.Rows L2 G Th
theorem all_mk {l : PySem.W.OpenLaw} {w : World} {K : PySem.W.Frag} {h : Heap} {mg : Str → Option Value} {fa : Addr} {tk tl : Tok} (X : K.In h) (G : h.Ns mainGlobals mg) (hfa : mg "law" = some (.ref fa))
    {o0 : Value} {od0 an0 : Option Addr} {sl0 : Array (Option Value)} {kV0 dc0 pm0 cd0 ct0 : Value} {f0 : Addr} {o1 : Value} {od1 an1 : Option Addr} {sl1 : Array (Option Value)} {kV1 dc1 pm1 cd1 ct1 : Value} {f1 : Addr} {o2 : Value} {od2 an2 : Option Addr} {sl2 : Array (Option Value)} {kV2 dc2 pm2 cd2 ct2 : Value} {f2 : Addr} {o3 : Value} {od3 an3 : Option Addr} {sl3 : Array (Option Value)} {kV3 dc3 pm3 cd3 ct3 : Value} {f3 : Addr} {o4 : Value} {od4 an4 : Option Addr} {sl4 : Array (Option Value)} {kV4 dc4 pm4 cd4 ct4 : Value} {f4 : Addr} {o5 : Value} {od5 an5 : Option Addr} {sl5 : Array (Option Value)} {kV5 dc5 pm5 cd5 ct5 : Value} {f5 : Addr} {o6 : Value} {od6 an6 : Option Addr} {sl6 : Array (Option Value)} {kV6 dc6 pm6 cd6 ct6 : Value} {f6 : Addr} {o7 : Value} {od7 an7 : Option Addr} {sl7 : Array (Option Value)} {kV7 dc7 pm7 cd7 ct7 : Value} {f7 : Addr} {o8 : Value} {od8 an8 : Option Addr} {sl8 : Array (Option Value)} {kV8 dc8 pm8 cd8 ct8 : Value} {f8 : Addr} {o9 : Value} {od9 an9 : Option Addr} {sl9 : Array (Option Value)} {kV9 dc9 pm9 cd9 ct9 : Value} {f9 : Addr} {o10 : Value} {od10 an10 : Option Addr} {sl10 : Array (Option Value)} {kV10 dc10 pm10 cd10 ct10 : Value} {f10 : Addr} {o11 : Value} {od11 an11 : Option Addr} {sl11 : Array (Option Value)} {kV11 dc11 pm11 cd11 ct11 : Value} {f11 : Addr} {o12 : Value} {od12 an12 : Option Addr} {sl12 : Array (Option Value)} {kV12 dc12 pm12 cd12 ct12 : Value} {f12 : Addr} {o13 : Value} {od13 an13 : Option Addr} {sl13 : Array (Option Value)} {kV13 dc13 pm13 cd13 ct13 : Value} {f13 : Addr} {o14 : Value} {od14 an14 : Option Addr} {sl14 : Array (Option Value)} {kV14 dc14 pm14 cd14 ct14 : Value} {f14 : Addr} {o15 : Value} {od15 an15 : Option Addr} {sl15 : Array (Option Value)} {kV15 dc15 pm15 cd15 ct15 : Value} {f15 : Addr}
    (a0 : PySem.W.nsIn K mainGlobals "is_number" = some (some (.ref f0))) (l0 : K.lookup f0 = some ⟨o0, od0, .func (PySem.W.fnOf "is_number" "is_number" (defArgs sNum) (defBody sNum) (defScope sNum) .none kV0 dc0 pm0 an0 cd0 ct0), sl0⟩) (c0 : PySem.W.codeIn K cd0 "is_number" = true) (k0 : PySem.W.keepIn K (.ref f0) = true)
    (a1 : PySem.W.nsIn K mainGlobals "is_word" = some (some (.ref f1))) (l1 : K.lookup f1 = some ⟨o1, od1, .func (PySem.W.fnOf "is_word" "is_word" (defArgs sWord) (defBody sWord) (defScope sWord) .none kV1 dc1 pm1 an1 cd1 ct1), sl1⟩) (c1 : PySem.W.codeIn K cd1 "is_word" = true) (k1 : PySem.W.keepIn K (.ref f1) = true)
    (a2 : PySem.W.nsIn K mainGlobals "is_fraction" = some (some (.ref f2))) (l2 : K.lookup f2 = some ⟨o2, od2, .func (PySem.W.fnOf "is_fraction" "is_fraction" (defArgs sIsFr) (defBody sIsFr) (defScope sIsFr) .none kV2 dc2 pm2 an2 cd2 ct2), sl2⟩) (c2 : PySem.W.codeIn K cd2 "is_fraction" = true) (k2 : PySem.W.keepIn K (.ref f2) = true)
    (a3 : PySem.W.nsIn K mainGlobals "common_divisor" = some (some (.ref f3))) (l3 : K.lookup f3 = some ⟨o3, od3, .func (PySem.W.fnOf "common_divisor" "common_divisor" (defArgs sCd) (defBody sCd) (defScope sCd) .none kV3 dc3 pm3 an3 cd3 ct3), sl3⟩) (c3 : PySem.W.codeIn K cd3 "common_divisor" = true) (k3 : PySem.W.keepIn K (.ref f3) = true)
    (a4 : PySem.W.nsIn K mainGlobals "_law_feed" = some (some (.ref f4))) (l4 : K.lookup f4 = some ⟨o4, od4, .func (PySem.W.fnOf "_law_feed" "_law_feed" (defArgs sFeed) (defBody sFeed) (defScope sFeed) .none kV4 dc4 pm4 an4 cd4 ct4), sl4⟩) (c4 : PySem.W.codeIn K cd4 "_law_feed" = true) (k4 : PySem.W.keepIn K (.ref f4) = true)
    (a5 : PySem.W.nsIn K mainGlobals "_law_draw" = some (some (.ref f5))) (l5 : K.lookup f5 = some ⟨o5, od5, .func (PySem.W.fnOf "_law_draw" "_law_draw" (defArgs sDraw) (defBody sDraw) (defScope sDraw) .none kV5 dc5 pm5 an5 cd5 ct5), sl5⟩) (c5 : PySem.W.codeIn K cd5 "_law_draw" = true) (k5 : PySem.W.keepIn K (.ref f5) = true)
    (a6 : PySem.W.nsIn K mainGlobals "_law_spoilt" = some (some (.ref f6))) (l6 : K.lookup f6 = some ⟨o6, od6, .func (PySem.W.fnOf "_law_spoilt" "_law_spoilt" (defArgs sSpoilt) (defBody sSpoilt) (defScope sSpoilt) .none kV6 dc6 pm6 an6 cd6 ct6), sl6⟩) (c6 : PySem.W.codeIn K cd6 "_law_spoilt" = true) (k6 : PySem.W.keepIn K (.ref f6) = true)
    (a7 : PySem.W.nsIn K mainGlobals "_law_divisor" = some (some (.ref f7))) (l7 : K.lookup f7 = some ⟨o7, od7, .func (PySem.W.fnOf "_law_divisor" "_law_divisor" (defArgs sDiv) (defBody sDiv) (defScope sDiv) .none kV7 dc7 pm7 an7 cd7 ct7), sl7⟩) (c7 : PySem.W.codeIn K cd7 "_law_divisor" = true) (k7 : PySem.W.keepIn K (.ref f7) = true)
    (a8 : PySem.W.nsIn K mainGlobals "_law_made" = some (some (.ref f8))) (l8 : K.lookup f8 = some ⟨o8, od8, .func (PySem.W.fnOf "_law_made" "_law_made" (defArgs sMade) (defBody sMade) (defScope sMade) .none kV8 dc8 pm8 an8 cd8 ct8), sl8⟩) (c8 : PySem.W.codeIn K cd8 "_law_made" = true) (k8 : PySem.W.keepIn K (.ref f8) = true)
    (a9 : PySem.W.nsIn K mainGlobals "_law_fraction" = some (some (.ref f9))) (l9 : K.lookup f9 = some ⟨o9, od9, .func (PySem.W.fnOf "_law_fraction" "_law_fraction" (defArgs sFrac) (defBody sFrac) (defScope sFrac) .none kV9 dc9 pm9 an9 cd9 ct9), sl9⟩) (c9 : PySem.W.codeIn K cd9 "_law_fraction" = true) (k9 : PySem.W.keepIn K (.ref f9) = true)
    (a10 : PySem.W.nsIn K mainGlobals "_law_is_number" = some (some (.ref f10))) (l10 : K.lookup f10 = some ⟨o10, od10, .func (PySem.W.fnOf "_law_is_number" "_law_is_number" (defArgs sLNum) (defBody sLNum) (defScope sLNum) .none kV10 dc10 pm10 an10 cd10 ct10), sl10⟩) (c10 : PySem.W.codeIn K cd10 "_law_is_number" = true) (k10 : PySem.W.keepIn K (.ref f10) = true)
    (a11 : PySem.W.nsIn K mainGlobals "_law_is_fraction" = some (some (.ref f11))) (l11 : K.lookup f11 = some ⟨o11, od11, .func (PySem.W.fnOf "_law_is_fraction" "_law_is_fraction" (defArgs sLFr) (defBody sLFr) (defScope sLFr) .none kV11 dc11 pm11 an11 cd11 ct11), sl11⟩) (c11 : PySem.W.codeIn K cd11 "_law_is_fraction" = true) (k11 : PySem.W.keepIn K (.ref f11) = true)
    (a12 : PySem.W.nsIn K mainGlobals "_law_is_word" = some (some (.ref f12))) (l12 : K.lookup f12 = some ⟨o12, od12, .func (PySem.W.fnOf "_law_is_word" "_law_is_word" (defArgs sLWord) (defBody sLWord) (defScope sLWord) .none kV12 dc12 pm12 an12 cd12 ct12), sl12⟩) (c12 : PySem.W.codeIn K cd12 "_law_is_word" = true) (k12 : PySem.W.keepIn K (.ref f12) = true)
    (a13 : PySem.W.nsIn K mainGlobals "_law_text" = some (some (.ref f13))) (l13 : K.lookup f13 = some ⟨o13, od13, .func (PySem.W.fnOf "_law_text" "_law_text" (defArgs sText) (defBody sText) (defScope sText) .none kV13 dc13 pm13 an13 cd13 ct13), sl13⟩) (c13 : PySem.W.codeIn K cd13 "_law_text" = true) (k13 : PySem.W.keepIn K (.ref f13) = true)
    (a14 : PySem.W.nsIn K mainGlobals "_law_near" = some (some (.ref f14))) (l14 : K.lookup f14 = some ⟨o14, od14, .func (PySem.W.fnOf "_law_near" "_law_near" (defArgs sNear) (defBody sNear) (defScope sNear) .none kV14 dc14 pm14 an14 cd14 ct14), sl14⟩) (c14 : PySem.W.codeIn K cd14 "_law_near" = true) (k14 : PySem.W.keepIn K (.ref f14) = true)
    (a15 : PySem.W.nsIn K mainGlobals "law" = some (some (.ref f15))) (l15 : K.lookup f15 = some ⟨o15, od15, .func (PySem.W.fnOf "law" "law" (defArgs sLaw) (defBody sLaw) (defScope sLaw) .none kV15 dc15 pm15 an15 cd15 ct15), sl15⟩) (c15 : PySem.W.codeIn K cd15 "law" = true) (k15 : PySem.W.keepIn K (.ref f15) = true)
    (z_abs : PySem.W.nsIn K mainGlobals "abs" = some none) (z_len : PySem.W.nsIn K mainGlobals "len" = some none) (z_repr : PySem.W.nsIn K mainGlobals "repr" = some none) (z_int : PySem.W.nsIn K mainGlobals "int" = some none) (z_range : PySem.W.nsIn K mainGlobals "range" = some none) (z_isinstance : PySem.W.nsIn K mainGlobals "isinstance" = some none) (z_bool : PySem.W.nsIn K mainGlobals "bool" = some none) (z_str : PySem.W.nsIn K mainGlobals "str" = some none) (z_tuple : PySem.W.nsIn K mainGlobals "tuple" = some none) (z_list : PySem.W.nsIn K mainGlobals "list" = some none) (z_all : PySem.W.nsIn K mainGlobals "all" = some none) (gl : PySem.W.nsIn K mainGlobals "LONGEST_WORD" = some (some (.int 8 tk))) (gs : PySem.W.nsIn K mainGlobals "SMALL_LETTERS" = some (some (.str letters tl))) :
    ∃ fd : FuncData, (∀ (s : Shared) (v : Value), BindsTo s fd ⟨[v], []⟩ [("_law_script", v)]) ∧ ∀ base : Heap, K.In base → base.Ns mainGlobals mg → FnG l.prog w K mg base 6 fa fd ["_law_script"] (spLaw K) := by
  have e := hfa.symm.trans (PySem.W.mg_of X G a15)
  cases e
  have F0 := fun_mk (st := sNum) l0 c0 k0
  have g0 := PySem.W.mg_of X G a0
  have b0 := F0.binds (ps := ["thing"]) fun _ _ _ _ _ _ us hl => match us, hl with | [_], _ => rfl
  have F1 := fun_mk (st := sWord) l1 c1 k1
  have g1 := PySem.W.mg_of X G a1
  have b1 := F1.binds (ps := ["thing"]) fun _ _ _ _ _ _ us hl => match us, hl with | [_], _ => rfl
  have F2 := fun_mk (st := sIsFr) l2 c2 k2
  have g2 := PySem.W.mg_of X G a2
  have b2 := F2.binds (ps := ["thing"]) fun _ _ _ _ _ _ us hl => match us, hl with | [_], _ => rfl
  have F3 := fun_mk (st := sCd) l3 c3 k3
  have g3 := PySem.W.mg_of X G a3
  have b3 := F3.binds (ps := ["a", "b"]) fun _ _ _ _ _ _ us hl => match us, hl with | [_, _], _ => rfl
  have F4 := fun_mk (st := sFeed) l4 c4 k4
  have g4 := PySem.W.mg_of X G a4
  have b4 := F4.binds (ps := ["_law_script"]) fun _ _ _ _ _ _ us hl => match us, hl with | [_], _ => rfl
  have F5 := fun_mk (st := sDraw) l5 c5 k5
  have g5 := PySem.W.mg_of X G a5
  have b5 := F5.binds (ps := ["_law_feed_here", "_law_many"]) fun _ _ _ _ _ _ us hl => match us, hl with | [_, _], _ => rfl
  have F6 := fun_mk (st := sSpoilt) l6 c6 k6
  have g6 := PySem.W.mg_of X G a6
  have b6 := F6.binds (ps := ["_law_feed_here", "_law_thing", "_law_menu"]) fun _ _ _ _ _ _ us hl => match us, hl with | [_, _, _], _ => rfl
  have F7 := fun_mk (st := sDiv) l7 c7 k7
  have g7 := PySem.W.mg_of X G a7
  have b7 := F7.binds (ps := ["_law_one", "_law_other"]) fun _ _ _ _ _ _ us hl => match us, hl with | [_, _], _ => rfl
  have F8 := fun_mk (st := sMade) l8 c8 k8
  have g8 := PySem.W.mg_of X G a8
  have b8 := F8.binds (ps := ["_law_a", "_law_b"]) fun _ _ _ _ _ _ us hl => match us, hl with | [_, _], _ => rfl
  have F9 := fun_mk (st := sFrac) l9 c9 k9
  have g9 := PySem.W.mg_of X G a9
  have b9 := F9.binds (ps := ["_law_feed_here"]) fun _ _ _ _ _ _ us hl => match us, hl with | [_], _ => rfl
  have F10 := fun_mk (st := sLNum) l10 c10 k10
  have g10 := PySem.W.mg_of X G a10
  have b10 := F10.binds (ps := ["_law_thing"]) fun _ _ _ _ _ _ us hl => match us, hl with | [_], _ => rfl
  have F11 := fun_mk (st := sLFr) l11 c11 k11
  have g11 := PySem.W.mg_of X G a11
  have b11 := F11.binds (ps := ["_law_thing"]) fun _ _ _ _ _ _ us hl => match us, hl with | [_], _ => rfl
  have F12 := fun_mk (st := sLWord) l12 c12 k12
  have g12 := PySem.W.mg_of X G a12
  have b12 := F12.binds (ps := ["_law_thing"]) fun _ _ _ _ _ _ us hl => match us, hl with | [_], _ => rfl
  have F13 := fun_mk (st := sText) l13 c13 k13
  have g13 := PySem.W.mg_of X G a13
  have b13 := F13.binds (ps := ["_law_feed_here"]) fun _ _ _ _ _ _ us hl => match us, hl with | [_], _ => rfl
  have F14 := fun_mk (st := sNear) l14 c14 k14
  have g14 := PySem.W.mg_of X G a14
  have b14 := F14.binds (ps := ["_law_one"]) fun _ _ _ _ _ _ us hl => match us, hl with | [_], _ => rfl
  have F15 := fun_mk (st := sLaw) l15 c15 k15
  have g15 := PySem.W.mg_of X G a15
  have m_abs := PySem.W.mg_none_of X G z_abs
  have m_len := PySem.W.mg_none_of X G z_len
  have m_repr := PySem.W.mg_none_of X G z_repr
  have m_int := PySem.W.mg_none_of X G z_int
  have m_range := PySem.W.mg_none_of X G z_range
  have m_isinstance := PySem.W.mg_none_of X G z_isinstance
  have m_bool := PySem.W.mg_none_of X G z_bool
  have m_str := PySem.W.mg_none_of X G z_str
  have m_tuple := PySem.W.mg_none_of X G z_tuple
  have m_list := PySem.W.mg_none_of X G z_list
  have m_all := PySem.W.mg_none_of X G z_all
  have gLW := PySem.W.mg_of X G gl
  have gSL := PySem.W.mg_of X G gs
  refine ⟨PySem.W.fnOf "law" "law" (defArgs sLaw) (defBody sLaw) (defScope sLaw) .none kV15 dc15 pm15 an15 cd15 ct15, fun s v => .of_eq rfl, fun base _ _ => ?_⟩
  have NU : At l.prog w K mg base 1 "is_number" ["thing"] (spIs isNum) f0 _ := ⟨ok_num F0 m_isinstance m_int m_bool, b0, g0, k0⟩
  have WO : At l.prog w K mg base 1 "is_word" ["thing"] (spIs isWord) f1 _ := ⟨ok_word F1 m_isinstance m_str m_len m_all gLW gSL, b1, g1, k1⟩
  have CD : At l.prog w K mg base 1 "common_divisor" ["a", "b"] spCd f3 _ := ⟨ok_cd F3 m_abs, b3, g3, k3⟩
  have FA : At l.prog w K mg base 2 "is_fraction" ["thing"] (spIs isFr) f2 _ := ⟨ok_isfr F2 NU CD m_isinstance m_tuple m_len, b2, g2, k2⟩
  have DR : At l.prog w K mg base 1 "_law_draw" ["_law_feed_here", "_law_many"] spDraw f5 _ := ⟨ok_draw F5 m_len, b5, g5, k5⟩
  have DV : At l.prog w K mg base 1 "_law_divisor" ["_law_one", "_law_other"] spDiv f7 _ := ⟨ok_div F7, b7, g7, k7⟩
  have M : At l.prog w K mg base 2 "_law_made" ["_law_a", "_law_b"] spRatio f8 _ := ⟨ok_made F8 F7 b7 g7 m_abs, b8, g8, k8⟩
  have FR : At l.prog w K mg base 3 "_law_fraction" ["_law_feed_here"] spFrac f9 _ := ⟨ok_frac F9 DR M, b9, g9, k9⟩
  have LN : At l.prog w K mg base 1 "_law_is_number" ["_law_thing"] (spIs isNum) f10 _ := ⟨ok_lnum F10 m_isinstance m_int m_bool, b10, g10, k10⟩
  have LF : At l.prog w K mg base 2 "_law_is_fraction" ["_law_thing"] (spIs isFr) f11 _ := ⟨ok_lfr F11 LN DV m_isinstance m_tuple m_len m_abs, b11, g11, k11⟩
  have LW : At l.prog w K mg base 1 "_law_is_word" ["_law_thing"] (spIs isWord) f12 _ := ⟨ok_lword F12 m_isinstance m_str m_len, b12, g12, k12⟩
  have TX : At l.prog w K mg base 2 "_law_text" ["_law_feed_here"] spText f13 _ := ⟨ok_txt F13 DR m_range, b13, g13, k13⟩
  have NE : At l.prog w K mg base 1 "_law_near" ["_law_one"] spNear f14 _ := ⟨ok_near F14 m_str, b14, g14, k14⟩
  have Z : At l.prog w K mg base 1 "_law_spoilt" ["_law_feed_here", "_law_thing", "_law_menu"] (fun _ _ _ _ => False) f6 _ := ⟨⟨fun _ _ _ _ h => h.elim, fun _ _ _ _ _ _ _ _ _ _ _ _ _ h => h.elim⟩, b6, g6, k6⟩
  have S0 : At l.prog w K mg base 2 "_law_spoilt" ["_law_feed_here", "_law_thing", "_law_menu"] (spSp 300 1 0) f6 _ := ⟨ok_sp_step F6 DR Z (.inl rfl) m_isinstance m_tuple m_len m_list, b6, g6, k6⟩
  have S1 : At l.prog w K mg base 3 "_law_spoilt" ["_law_feed_here", "_law_thing", "_law_menu"] (spSp 300 1 1) f6 _ := ⟨ok_sp_step F6 DR S0 (.inr ⟨0, rfl, rfl⟩) m_isinstance m_tuple m_len m_list, b6, g6, k6⟩
  have S2 : At l.prog w K mg base 4 "_law_spoilt" ["_law_feed_here", "_law_thing", "_law_menu"] (spSp 300 1 2) f6 _ := ⟨ok_sp_step F6 DR S1 (.inr ⟨1, rfl, rfl⟩) m_isinstance m_tuple m_len m_list, b6, g6, k6⟩
  have S3 : At l.prog w K mg base 5 "_law_spoilt" ["_law_feed_here", "_law_thing", "_law_menu"] (spSp 300 1 3) f6 _ := ⟨ok_sp_step F6 DR S2 (.inr ⟨2, rfl, rfl⟩) m_isinstance m_tuple m_len m_list, b6, g6, k6⟩
  exact ok_law F15 ⟨ok_feed F4, b4, g4, k4⟩ FR NE TX S1 S3 NU WO FA LN LW LF m_repr m_range
end K1
open PySem PySem.W PyProof.Rows in
set_option maxRecDepth 100000 in
set_option maxHeartbeats 0 in
theorem PySem.Challenge.cw_ledclocks_k01_numbers_words_fractions_by_holds : PySem.Challenge.rw_ledclocks_k01_numbers_words_fractions_by.Holds := by
  w_on; o_law; k_head; (case hw => w_witness2)
  k_fill
  refine G.walk_g (l := PySem.Challenge.rw_ledclocks_k01_numbers_words_fractions_by) (n := 63) (k := 6) (x := "_law_script") (sp := fun w => K1.spLaw _) rfl (by decide) rfl ⟨rfl, by decide, by decide⟩ (fun w h Y => PySem.W.kIn_of Y) ?F (fun _ _ a ns hl _ hS => ⟨a, ns, rfl, hS, hl, fun _ => rfl⟩)
  case F =>
    intro w mg fa h KX G hmg
    refine' K1.all_mk KX G hmg ?a0 ?l0 ?c0 ?k0 ?a1 ?l1 ?c1 ?k1 ?a2 ?l2 ?c2 ?k2 ?a3 ?l3 ?c3 ?k3 ?a4 ?l4 ?c4 ?k4 ?a5 ?l5 ?c5 ?k5 ?a6 ?l6 ?c6 ?k6 ?a7 ?l7 ?c7 ?k7 ?a8 ?l8 ?c8 ?k8 ?a9 ?l9 ?c9 ?k9 ?a10 ?l10 ?c10 ?k10 ?a11 ?l11 ?c11 ?k11 ?a12 ?l12 ?c12 ?k12 ?a13 ?l13 ?c13 ?k13 ?a14 ?l14 ?c14 ?k14 ?a15 ?l15 ?c15 ?k15 ?z_abs ?z_len ?z_repr ?z_int ?z_range ?z_isinstance ?z_bool ?z_str ?z_tuple ?z_list ?z_all ?gl ?gs
    (case a0 => k_is)
    (case l0 => k_is)
    (case c0 => k_is)
    (case k0 => k_is)
    (case a1 => k_is)
    (case l1 => k_is)
    (case c1 => k_is)
    (case k1 => k_is)
    (case a2 => k_is)
    (case l2 => k_is)
    (case c2 => k_is)
    (case k2 => k_is)
    (case a3 => k_is)
    (case l3 => k_is)
    (case c3 => k_is)
    (case k3 => k_is)
    (case a4 => k_is)
    (case l4 => k_is)
    (case c4 => k_is)
    (case k4 => k_is)
    (case a5 => k_is)
    (case l5 => k_is)
    (case c5 => k_is)
    (case k5 => k_is)
    (case a6 => k_is)
    (case l6 => k_is)
    (case c6 => k_is)
    (case k6 => k_is)
    (case a7 => k_is)
    (case l7 => k_is)
    (case c7 => k_is)
    (case k7 => k_is)
    (case a8 => k_is)
    (case l8 => k_is)
    (case c8 => k_is)
    (case k8 => k_is)
    (case a9 => k_is)
    (case l9 => k_is)
    (case c9 => k_is)
    (case k9 => k_is)
    (case a10 => k_is)
    (case l10 => k_is)
    (case c10 => k_is)
    (case k10 => k_is)
    (case a11 => k_is)
    (case l11 => k_is)
    (case c11 => k_is)
    (case k11 => k_is)
    (case a12 => k_is)
    (case l12 => k_is)
    (case c12 => k_is)
    (case k12 => k_is)
    (case a13 => k_is)
    (case l13 => k_is)
    (case c13 => k_is)
    (case k13 => k_is)
    (case a14 => k_is)
    (case l14 => k_is)
    (case c14 => k_is)
    (case k14 => k_is)
    (case a15 => k_is)
    (case l15 => k_is)
    (case c15 => k_is)
    (case k15 => k_is)
    (case z_abs => k_is)
    (case z_len => k_is)
    (case z_repr => k_is)
    (case z_int => k_is)
    (case z_range => k_is)
    (case z_isinstance => k_is)
    (case z_bool => k_is)
    (case z_str => k_is)
    (case z_tuple => k_is)
    (case z_list => k_is)
    (case z_all => k_is)
    (case gl => k_is)
    (case gs => k_is)

