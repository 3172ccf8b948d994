import PyProof.Rows.All
import Wide.All
import OpenK.AllK
import Wide.FinOn
import HandS.ForMost
import HandS.Wide
import HandS.TryOnly
import HandS.Codes
import PyProof.ReprRoads
import PySem.Challenge.RW_ledclocks_k02_fractions_reckoned
set_option Elab.async false
set_option linter.all false
set_option maxRecDepth 100000
set_option maxHeartbeats 4000000
set_option exponentiation.threshold 3000
namespace Fr
/-- a parted by b, in the one way -/
def mk (a b : Int) : Int × Int :=
  if b < 0 then ((-a) / ((Int.gcd a b : Nat) : Int), (-b) / ((Int.gcd a b : Nat) : Int)) else (a / ((Int.gcd a b : Nat) : Int), b / ((Int.gcd a b : Nat) : Int))
theorem gcd_pos {a b : Int} (h : b ≠ 0) : 0 < Int.gcd a b := Int.gcd_pos_of_ne_zero_right a h
theorem core {a b : Int} (h : 0 < b) : ∃ x y : Int, a / ((Int.gcd a b : Nat) : Int) = x ∧ b / ((Int.gcd a b : Nat) : Int) = y ∧ a = x * ((Int.gcd a b : Nat) : Int) ∧ b = y * ((Int.gcd a b : Nat) : Int) ∧ 0 < y ∧ Int.gcd x y = 1 := by
  have g0 : 0 < Int.gcd a b := gcd_pos (by omega)
  have gi : (0 : Int) < ((Int.gcd a b : Nat) : Int) := by omega
  have ea : a / ((Int.gcd a b : Nat) : Int) * ((Int.gcd a b : Nat) : Int) = a := Int.ediv_mul_cancel (Int.gcd_dvd_left ..)
  have eb : b / ((Int.gcd a b : Nat) : Int) * ((Int.gcd a b : Nat) : Int) = b := Int.ediv_mul_cancel (Int.gcd_dvd_right ..)
  refine ⟨_, _, rfl, rfl, ea.symm, eb.symm, ?_, ?_⟩
  · have : 0 < b / ((Int.gcd a b : Nat) : Int) * ((Int.gcd a b : Nat) : Int) := by rw [eb]; exact h
    exact Int.pos_of_mul_pos_left this gi
  · rw [Int.gcd_ediv_gcd_ediv_gcd g0]
theorem mk_all {a b : Int} (h : b ≠ 0) : ∃ x y : Int, mk a b = (x, y) ∧ 0 < y ∧ Int.gcd x y = 1 ∧ x * b = a * y ∧ x.natAbs ≤ a.natAbs ∧ y.natAbs ≤ b.natAbs := by
  have key : ∀ {a b : Int}, 0 < b → ∃ x y : Int, (a / ((Int.gcd a b : Nat) : Int), b / ((Int.gcd a b : Nat) : Int)) = (x, y) ∧ 0 < y ∧ Int.gcd x y = 1 ∧ x * b = a * y ∧ x.natAbs ≤ a.natAbs ∧ y.natAbs ≤ b.natAbs := by
    intro a b h
    obtain ⟨x, y, ex, ey, ea, eb, hy, hg⟩ := core (a := a) h
    have g0 : 0 < Int.gcd a b := gcd_pos (by omega)
    refine ⟨x, y, by rw [ex, ey], hy, hg, ?_, ?_, ?_⟩
    · generalize ((Int.gcd a b : Nat) : Int) = g at *
      subst ea eb
      rw [Int.mul_comm y g, ← Int.mul_assoc]
    · have := congrArg Int.natAbs ea
      rw [Int.natAbs_mul, Int.natAbs_natCast] at this
      rw [this]
      exact Nat.le_mul_of_pos_right _ g0
    · have := congrArg Int.natAbs eb
      rw [Int.natAbs_mul, Int.natAbs_natCast] at this
      rw [this]
      exact Nat.le_mul_of_pos_right _ g0
  unfold mk
  by_cases hb : b < 0
  · rw [if_pos hb]
    obtain ⟨x, y, e, hy, hg, hc, h1, h2⟩ := key (a := -a) (b := -b) (by omega)
    rw [Int.neg_gcd, Int.gcd_neg] at e
    refine ⟨x, y, e, hy, hg, ?_, by simpa using h1, by simpa using h2⟩
    rw [Int.mul_neg, Int.neg_mul] at hc
    exact Int.neg_inj.mp hc
  · rw [if_neg hb]
    exact key (by omega)
theorem uniq {x y u v : Int} (hy : 0 < y) (hv : 0 < v) (g : Int.gcd x y = 1) (g' : Int.gcd u v = 1) (e : x * v = u * y) : (x, y) = (u, v) := by
  have en : x.natAbs * v.natAbs = u.natAbs * y.natAbs := by
    have := congrArg Int.natAbs e
    rwa [Int.natAbs_mul, Int.natAbs_mul] at this
  have c1 : Nat.Coprime y.natAbs x.natAbs := by
    have : Nat.gcd x.natAbs y.natAbs = 1 := g
    exact Nat.Coprime.symm this
  have c2 : Nat.Coprime v.natAbs u.natAbs := by
    have : Nat.gcd u.natAbs v.natAbs = 1 := g'
    exact Nat.Coprime.symm this
  have d1 : y.natAbs ∣ v.natAbs := c1.dvd_of_dvd_mul_left (by rw [en]; exact Nat.dvd_mul_left _ _)
  have d2 : v.natAbs ∣ y.natAbs := c2.dvd_of_dvd_mul_left (by rw [← en]; exact Nat.dvd_mul_left _ _)
  have eyv : y.natAbs = v.natAbs := Nat.dvd_antisymm d1 d2
  have eq : y = v := by omega
  subst eq
  have ex : x = u := Int.eq_of_mul_eq_mul_right (by omega) e
  rw [ex]
theorem mk_eq {a b c d : Int} (hb : b ≠ 0) (hd : d ≠ 0) (e : a * d = c * b) : mk a b = mk c d := by
  obtain ⟨x, y, e1, hy, hg, hc, _, _⟩ := mk_all (a := a) hb
  obtain ⟨u, v, e2, hv, hg', hc', _, _⟩ := mk_all (a := c) hd
  rw [e1, e2]
  refine uniq hy hv hg hg' ?_
  have h1 : (x * v) * (b * d) = (u * y) * (b * d) := by
    calc (x * v) * (b * d) = (x * b) * (v * d) := by ac_rfl
      _ = (a * y) * (v * d) := by rw [hc]
      _ = (a * d) * (y * v) := by ac_rfl
      _ = (c * b) * (y * v) := by rw [e]
      _ = (c * v) * (y * b) := by ac_rfl
      _ = (u * d) * (y * b) := by rw [hc']
      _ = (u * y) * (b * d) := by ac_rfl
  exact Int.eq_of_mul_eq_mul_right (Int.mul_ne_zero hb hd) h1
theorem mk_self {a b : Int} (hb : 0 < b) (g : Int.gcd a b = 1) : mk a b = (a, b) := by
  unfold mk
  rw [if_neg (by omega), g]
  simp
/-- a FRACTION of at most n bits -/
structure Ok (n : Nat) (p : Int × Int) : Prop where
  pos : 0 < p.2
  cop : Int.gcd p.1 p.2 = 1
  b1 : p.1.natAbs < 2 ^ n
  b2 : p.2.natAbs < 2 ^ n
theorem mk_ok {n : Nat} {a b : Int} (h : b ≠ 0) (ha : a.natAbs < 2 ^ n) (hb : b.natAbs < 2 ^ n) : Ok n (mk a b) := by
  obtain ⟨x, y, e, hy, hg, _, h1, h2⟩ := mk_all (a := a) h
  rw [e]
  exact ⟨hy, hg, by show x.natAbs < _; omega, by show y.natAbs < _; omega⟩
theorem mk_cross {a b : Int} (h : b ≠ 0) : (mk a b).1 * b = a * (mk a b).2 := by
  obtain ⟨x, y, e, hy, hg, hc, _, _⟩ := mk_all (a := a) h
  rw [e]
  exact hc
theorem mk_pos {a b : Int} (h : b ≠ 0) : 0 < (mk a b).2 := by
  obtain ⟨x, y, e, hy, _⟩ := mk_all (a := a) h
  rw [e]
  exact hy
theorem Ok.mono {n m : Nat} {p : Int × Int} (h : Ok n p) (hnm : n ≤ m) : Ok m p :=
  ⟨h.pos, h.cop, Nat.lt_of_lt_of_le h.b1 (Nat.pow_le_pow_right (by decide) hnm), Nat.lt_of_lt_of_le h.b2 (Nat.pow_le_pow_right (by decide) hnm)⟩
def add (p q : Int × Int) : Int × Int := mk (p.1 * q.2 + q.1 * p.2) (p.2 * q.2)
def sub (p q : Int × Int) : Int × Int := mk (p.1 * q.2 - q.1 * p.2) (p.2 * q.2)
def mul (p q : Int × Int) : Int × Int := mk (p.1 * q.1) (p.2 * q.2)
def div (p q : Int × Int) : Int × Int := mk (p.1 * q.2) (p.2 * q.1)
theorem bmul {n m : Nat} {a b : Int} (ha : a.natAbs < 2 ^ n) (hb : b.natAbs < 2 ^ m) : (a * b).natAbs < 2 ^ (n + m) := by
  rw [Int.natAbs_mul, Nat.pow_add]
  exact Nat.mul_lt_mul'' ha hb
theorem badd {n : Nat} {a b : Int} (ha : a.natAbs < 2 ^ n) (hb : b.natAbs < 2 ^ n) : (a + b).natAbs < 2 ^ (n + 1) := by
  rw [Nat.pow_succ]
  omega
theorem bsub {n : Nat} {a b : Int} (ha : a.natAbs < 2 ^ n) (hb : b.natAbs < 2 ^ n) : (a - b).natAbs < 2 ^ (n + 1) := by
  rw [Nat.pow_succ]
  omega
theorem bmono {n m : Nat} {a : Int} (ha : a.natAbs < 2 ^ n) (h : n ≤ m) : a.natAbs < 2 ^ m := Nat.lt_of_lt_of_le ha (Nat.pow_le_pow_right (by decide) h)
theorem add_ok {n m : Nat} {p q : Int × Int} (hp : Ok n p) (hq : Ok m q) : Ok (n + m + 1) (add p q) :=
  mk_ok (Int.mul_ne_zero (by have := hp.pos; omega) (by have := hq.pos; omega)) (badd (bmul hp.b1 hq.b2) (bmono (bmul hq.b1 hp.b2) (by omega))) (bmono (bmul hp.b2 hq.b2) (by omega))
theorem sub_ok {n m : Nat} {p q : Int × Int} (hp : Ok n p) (hq : Ok m q) : Ok (n + m + 1) (sub p q) :=
  mk_ok (Int.mul_ne_zero (by have := hp.pos; omega) (by have := hq.pos; omega)) (bsub (bmul hp.b1 hq.b2) (bmono (bmul hq.b1 hp.b2) (by omega))) (bmono (bmul hp.b2 hq.b2) (by omega))
theorem mul_ok {n m : Nat} {p q : Int × Int} (hp : Ok n p) (hq : Ok m q) : Ok (n + m) (mul p q) :=
  mk_ok (Int.mul_ne_zero (by have := hp.pos; omega) (by have := hq.pos; omega)) (bmul hp.b1 hq.b1) (bmul hp.b2 hq.b2)
theorem div_ok {n m : Nat} {p q : Int × Int} (hp : Ok n p) (hq : Ok m q) (h0 : q.1 ≠ 0) : Ok (n + m) (div p q) :=
  mk_ok (Int.mul_ne_zero (by have := hp.pos; omega) h0) (bmul hp.b1 hq.b2) (bmul hp.b2 hq.b1)
/-- to show that two sums are the same FRACTION: p stands for (a, b) -/
def Is (p : Int × Int) (a b : Int) : Prop := p = mk a b ∧ b ≠ 0
theorem Ok.is {n : Nat} {p : Int × Int} (h : Ok n p) : Is p p.1 p.2 := ⟨(mk_self h.pos h.cop).symm, by have := h.pos; omega⟩
theorem Is.same {p q : Int × Int} {a b c d : Int} (hp : Is p a b) (hq : Is q c d) (e : a * d = c * b) : p = q := by
  rw [hp.1, hq.1]
  exact mk_eq hp.2 hq.2 e
theorem Is.add {p q : Int × Int} {a b c d : Int} (hp : Is p a b) (hq : Is q c d) : Is (add p q) (a * d + c * b) (b * d) := by
  refine ⟨?_, Int.mul_ne_zero hp.2 hq.2⟩
  unfold Fr.add
  have h1 := mk_cross (a := a) hp.2
  have h2 := mk_cross (a := c) hq.2
  rw [← hp.1] at h1
  rw [← hq.1] at h2
  have p0 : p.2 ≠ 0 := by rw [hp.1]; have := mk_pos (a := a) hp.2; omega
  have q0 : q.2 ≠ 0 := by rw [hq.1]; have := mk_pos (a := c) hq.2; omega
  refine mk_eq (Int.mul_ne_zero p0 q0) (Int.mul_ne_zero hp.2 hq.2) ?_
  rw [Int.add_mul, Int.add_mul]
  have e1 : p.1 * q.2 * (b * d) = a * d * (p.2 * q.2) := by
    calc p.1 * q.2 * (b * d) = (p.1 * b) * (q.2 * d) := by ac_rfl
      _ = (a * p.2) * (q.2 * d) := by rw [h1]
      _ = a * d * (p.2 * q.2) := by ac_rfl
  have e2 : q.1 * p.2 * (b * d) = c * b * (p.2 * q.2) := by
    calc q.1 * p.2 * (b * d) = (q.1 * d) * (p.2 * b) := by ac_rfl
      _ = (c * q.2) * (p.2 * b) := by rw [h2]
      _ = c * b * (p.2 * q.2) := by ac_rfl
  rw [e1, e2]
theorem Is.sub {p q : Int × Int} {a b c d : Int} (hp : Is p a b) (hq : Is q c d) : Is (sub p q) (a * d - c * b) (b * d) := by
  refine ⟨?_, Int.mul_ne_zero hp.2 hq.2⟩
  unfold Fr.sub
  have h1 := mk_cross (a := a) hp.2
  have h2 := mk_cross (a := c) hq.2
  rw [← hp.1] at h1
  rw [← hq.1] at h2
  have p0 : p.2 ≠ 0 := by rw [hp.1]; have := mk_pos (a := a) hp.2; omega
  have q0 : q.2 ≠ 0 := by rw [hq.1]; have := mk_pos (a := c) hq.2; omega
  refine mk_eq (Int.mul_ne_zero p0 q0) (Int.mul_ne_zero hp.2 hq.2) ?_
  rw [Int.sub_mul, Int.sub_mul]
  have e1 : p.1 * q.2 * (b * d) = a * d * (p.2 * q.2) := by
    calc p.1 * q.2 * (b * d) = (p.1 * b) * (q.2 * d) := by ac_rfl
      _ = (a * p.2) * (q.2 * d) := by rw [h1]
      _ = a * d * (p.2 * q.2) := by ac_rfl
  have e2 : q.1 * p.2 * (b * d) = c * b * (p.2 * q.2) := by
    calc q.1 * p.2 * (b * d) = (q.1 * d) * (p.2 * b) := by ac_rfl
      _ = (c * q.2) * (p.2 * b) := by rw [h2]
      _ = c * b * (p.2 * q.2) := by ac_rfl
  rw [e1, e2]
theorem Is.mul {p q : Int × Int} {a b c d : Int} (hp : Is p a b) (hq : Is q c d) : Is (mul p q) (a * c) (b * d) := by
  refine ⟨?_, Int.mul_ne_zero hp.2 hq.2⟩
  unfold Fr.mul
  have h1 := mk_cross (a := a) hp.2
  have h2 := mk_cross (a := c) hq.2
  rw [← hp.1] at h1
  rw [← hq.1] at h2
  have p0 : p.2 ≠ 0 := by rw [hp.1]; have := mk_pos (a := a) hp.2; omega
  have q0 : q.2 ≠ 0 := by rw [hq.1]; have := mk_pos (a := c) hq.2; omega
  refine mk_eq (Int.mul_ne_zero p0 q0) (Int.mul_ne_zero hp.2 hq.2) ?_
  calc p.1 * q.1 * (b * d) = (p.1 * b) * (q.1 * d) := by ac_rfl
    _ = (a * p.2) * (c * q.2) := by rw [h1, h2]
    _ = a * c * (p.2 * q.2) := by ac_rfl
theorem Is.div {p q : Int × Int} {a b c d : Int} (hp : Is p a b) (hq : Is q c d) (h0 : c ≠ 0) : Is (div p q) (a * d) (b * c) := by
  refine ⟨?_, Int.mul_ne_zero hp.2 h0⟩
  unfold Fr.div
  have h1 := mk_cross (a := a) hp.2
  have h2 := mk_cross (a := c) hq.2
  rw [← hp.1] at h1
  rw [← hq.1] at h2
  have p0 : p.2 ≠ 0 := by rw [hp.1]; have := mk_pos (a := a) hp.2; omega
  have q0 : q.2 ≠ 0 := by rw [hq.1]; have := mk_pos (a := c) hq.2; omega
  have q1 : q.1 ≠ 0 := by
    intro z
    rw [z, Int.zero_mul] at h2
    exact (Int.mul_ne_zero h0 q0) h2.symm
  refine mk_eq (Int.mul_ne_zero p0 q1) (Int.mul_ne_zero hp.2 h0) ?_
  calc p.1 * q.2 * (b * c) = (p.1 * b) * (c * q.2) := by ac_rfl
    _ = (a * p.2) * (q.1 * d) := by rw [h1, h2]
    _ = a * d * (p.2 * q.1) := by ac_rfl
end Fr

/-! What the hand layer does not carry: that no repr is under way around a def. With it repr of lists and tuples can be asked. -/
namespace G
open PySem PySem.Spec PyProof.Rows L2
section
variable {X : Cx}
def rRepr (K : PySem.W.Frag) : List V → Hp → VK → Prop := fun xs H Q =>
  ∃ (a : Addr) (d : PyData), xs = [.ref a] ∧ Dp K H (.ref a) d ∧ d.showable = true ∧ d.hasDict = false ∧ d.depth ≤ 40 ∧ d.shown.length ≤ sizeLine ∧ Q (.str d.shown) H
theorem call_reprD (hg : X.A.guards = some []) (hu : X.A.units + 64 < cLine) : CallR X (.builtin "repr") (rRepr X.K) := by
  intro pins s σ H xs us Q I r h
  obtain ⟨a, d, rfl, hd, h1, h2, h3, h4, q⟩ := h
  obtain ⟨u, rfl, ru⟩ := r.one
  cases ru
  obtain ⟨as, rd⟩ := Dp.reads I d _ _ hd rfl
  refine repr_of_reads' rd h1 (fun z => ?_) hg (by omega) (fun b o e => e) (fun h' t tk hk => ?_) h4
  · rw [h2] at z
    cases z
  · exact ⟨.str d.shown, H, I.kept hk, ⟨t, rfl⟩, q⟩
end
/-- a def's promise where no repr is under way -/
structure FnG (P : Program) (w : World) (K : PySem.W.Frag) (mg : Str → Option Value) (base : Heap) (k : Nat) (f : Addr) (fd : FuncData) (ps : List Str) (sp : Sp) : Prop where
  len : ∀ vs H Q E, sp vs H Q E → vs.length = ps.length
  run : ∀ (A : Around) (outer : List Env) (s : Shared) (H : Hp) (args : Args) (us : List Value) (vs : List V) (Q : VK) (E : XK),
    A.guards = some [] → Room k A → Env0 P w K mg base A outer s H → BindsTo s fd args (ps.zip us) → Vals vs us → sp vs H Q E →
      codeAny (model P w) A (.call (.ref f) args) (CR CX0 outer P w H s Q E) s
section
variable {X : Cx} {k : Nat} {f : Addr} {fd : FuncData} {ps : List Str} {sp : Sp} {E : XK} {x : Str} {p pos : Pos} {e : Expr} {es : List Expr} {t : TA}
theorem run_g {pins : List (Addr × Obj)} {σ : L2.St} {H : Hp} {s : Shared} {Q : VK} {us : List Value} {vs : List V}
    (F : FnG X.prog X.w X.K X.mg X.base k f fd ps sp) (g : X.A.guards = some []) (hr : Room k X.A) (hb : Binds X.K fd ps [])
    (I : Inv X pins σ H s) (r : Vals vs us) (h : sp vs H Q E) :
    wpAny (model X.prog X.w) X.A (call (.ref f) us) (EP X pins σ Q) X.xe s := by
  have n1 : us.length = ps.length := r.length.symm.trans (F.len vs H Q E h)
  have b1 := hb s us I.kIn ((congrArg List.length (List.append_nil us)).trans n1)
  rw [List.append_nil] at b1
  refine wpAny_call (codeAny_mono (F.run X.A X.stack s H ⟨us, []⟩ us vs Q E g hr I.env0 b1 r h) ?_)
  intro res s' c
  match res, c with
  | .error _, c => exact False.elim c
  | .ok (.ret _), c => exact I.after c
  | .ok .next, c => exact False.elim c
  | .ok .brk, c => exact False.elim c
  | .ok .cont, c => exact False.elim c
/-- f(e, ..) of such a def -/
theorem pe_callG (F : FnG X.prog X.w X.K X.mg X.base k f fd ps sp) (g : X.A.guards = some []) (hr : Room k X.A) (hgl : Gl X x) (hm : X.mg x = some (.ref f))
    (hk : PySem.W.keepIn X.K (.ref f) = true) (hb : Binds X.K fd ps []) (ha : PA X (e :: es) t)
    (hdb : (x == ("__debug__" : Str)) = false := by decide)
    (he : starEach (e :: es) X.env = (false, eval e X.env) :: starEach es X.env := by rfl)
    (hpl : (backTo pos (starEach es X.env)).any (·.1) = false := by rfl) :
    PE X (.Call (.Name x p) (e :: es) [] pos) (fun σ H Q => t σ H fun vs H1 => sp vs H1 Q E0) := by
  constructor
  intro pins s σ H Q I h
  apply wpAny_Call_Name_kw
  apply ld_glob I hgl hm _ hdb
  refine PySem.W.callWith_K (h₀ := X.base) I.ok.mod.kin hk (thn (ha.run pos pins s σ H _ I h) ?_) he hpl
  rintro us s1 ⟨vs, H1, I1, r, q⟩
  exact ⟨I1.kIn, run_g (E := E0) F g hr hb I1 r q⟩
end
/-- such a def by its body -/
theorem fn_g {P : Program} {w : World} {K : PySem.W.Frag} {mg : Str → Option Value} {base : Heap} {x qual : Str} {st : Stmt} {f : Addr} {fd : FuncData} {N ps : List Str} {k : Nat} {sp : Sp}
    (F : Fun K x qual st f fd) (S : FnScope N ps (defScope st)) (len : ∀ vs H Q E, sp vs H Q E → vs.length = ps.length)
    (body : ∀ (cdv : Value) (A : Around) (outer : List Env) (s : Shared) (H : Hp) (vs : List V) (Q : VK) (E : XK), A.guards = some [] →
      Room k (A.deeper (envOfC qual (defScope st) s.heap.objs.size f cdv)) → sp vs H Q E →
      ∃ t, PSs (cxOf CX0 P w K mg base N qual (defScope st) f cdv A outer s H E).nox (defBody st) t ∧ t { nx := fun _ H' => Q .non H', rt := Q } (start N vs) H) :
    FnG P w K mg base (k + 1) f fd ps sp := by
  obtain ⟨oc, od, kV, doc, pm, an, cdv, ct, osl, rfl, lk, hcd⟩ := F.ex
  refine ⟨len, ?_⟩
  intro A outer s H args us vs Q E g hr e0 hb r hsp
  have up : ∀ b o, base.get? b = some o → s.heap.get? b = some o := fun b o e => (e0.bs b o e).1
  have KX : K.In s.heap := e0.mod.kin.keeps up
  refine codeAny_call_function hr.depth (KX _ _ lk) rfl S.co S.gen rfl (PySem.W.codeRec_of KX hcd) (hb _ _ _ _ ?_)
  refine wpAny_newFunctionEnv_cells S.kind ?_ ?_
  · rintro ⟨n, v⟩ hy
    cases S.par n (List.of_mem_zip hy).1 with
    | inl q => exact .inl q
    | inr q => exact .inr ⟨q, PySem.W.cellsFrom_some _ _ _ (.inl q)⟩
  · rintro env rfl s1 x
    refine ⟨(e0.mod.nolimit.keeps up).keeps x.toInCall.keep, codeAny_func ?_⟩
    obtain ⟨t, ht, hq⟩ := body cdv A outer s H vs Q E g (hr.deeper _) hsp
    have I := inv_start (CX := CX0) (E := E) S hr.hd e0 (len _ _ _ _ hsp) r x
    refine wpAny_mono (ht.nox.run [] s1 (start N vs) H _ I hq) ?_ (fun e s' hs => hs)
    intro fl s' hs
    match fl, hs with
    | .ret u, ⟨v, σ', H', J, rv, q⟩ => exact ⟨v, H', J.os, J.bare, J.base, J.hok, rv, q⟩
    | .next, ⟨σ', H', J, q⟩ => exact ⟨.non, H', J.os, J.bare, J.base, J.hok, rfl, q⟩
    | .brk, ⟨_, _, _, q⟩ => exact False.elim q
    | .cont, ⟨_, _, _, q⟩ => exact False.elim q

/-- the law's call, from a heap in which nothing but the script may be tracked -/
theorem law_core {P : Program} {w : World} {K : PySem.W.Frag} {mg mb : Str → Option Value} {k : Nat} {fa a : Addr} {fd : FuncData} {x : Str} {sp : Sp} {s₁ : Shared} {vs : List Value}
    (KX : K.In s₁.heap) (hns : s₁.heap.Ns mainGlobals mg) (hb : s₁.heap.Ns builtinsNs mb) (hbb : ∀ x : Str, x ≠ "__name__" → mb x = bootBuiltins x) (hlim : s₁.heap.NoLimit) (hg : s₁.gens = #[])
    (ha : s₁.heap.get? a = some { cls := .type "list", data := .seq vs.toArray }) (hr : Room k callerA)
    (F : ∀ base : Heap, K.In base → base.Ns mainGlobals mg → FnG P w K mg base k fa fd [x] sp) (hbind : ∀ (s : Shared) (u : Value), BindsTo s fd ⟨[u], []⟩ [(x, u)])
    (H : Hp) (hO : Only H) (hok : HOk P w H s₁.heap) (hA : ∀ b, H b ≠ none → b = a) (hK : H a ≠ none → K.lookup a = none)
    (hsp : sp [.ref a] H (fun v _ => v = .bl true) fun _ _ _ => False) :
    codeAny (model P w) callerA (.call (.ref fa) ⟨[.ref a], []⟩) (fun r s' => r = .ok (.ret (.bool true)) ∧ OldK s₁.heap s'.heap ∧ s'.os = s₁.os ∧ AllBare s'.gens) s₁ := by
  have free : ∀ {b : Addr} {o : Obj}, s₁.heap.get? b = some o → (b = a → False) → H b = none := by
    intro b o _ hne
    cases q : H b with
    | none => rfl
    | some u => exact (hne (hA b (by simp [q]))).elim
  have hid : ∀ {b : Addr} {o : Obj}, s₁.heap.get? b = some o → H b = none → (hidT s₁.heap H).get? b = some o := fun e n => hidT_get e n
  have ns_of : ∀ {b : Addr} {m : Str → Option Value}, s₁.heap.Ns b m → (hidT s₁.heap H).Ns b m := by
    rintro b m ⟨o, es, ep, e, d, r⟩
    refine ⟨o, es, ep, hid e (free e fun z => ?_), d, r⟩
    subst z
    rw [ha] at e
    cases e
    cases (d : Data.seq vs.toArray _ = Data.dict es ep)
  have kin : K.In (hidT s₁.heap H) := by
    intro b o e
    have e2 := KX b o e
    cases q : H b with
    | none => exact hid e2 q
    | some u =>
      have z := hA b (by simp [q])
      subst z
      rw [hK (by simp [q])] at e
      cases e
  obtain ⟨mc, l1, l2⟩ := hlim
  have md : Mod K mg (hidT s₁.heap H) := ⟨kin, ns_of hns, ⟨mb, ns_of hb, hbb⟩, ⟨mc, ns_of l1, l2⟩⟩
  have none_in : ∀ {b : Addr} {Z : Prop}, b ∈ ([] : List Addr) → Z := fun z => (nomatch z)
  have e0 : Env0 P w K mg (hidT s₁.heap H) callerA [] s₁ H :=
    ⟨rfl, md, fun b o e => of_hidT e, Nat.le_of_eq (hidT_size _ _), trivial, fun b z => none_in z, hok, .of_eq hg⟩
  refine codeAny_mono ((F _ kin (ns_of hns)).run callerA [] s₁ H ⟨[.ref a], []⟩ [.ref a] [.ref a] _ _ rfl hr e0 (hbind s₁ (.ref a)) (.cons rfl .nil) hsp) ?_
  intro r s' c
  match r, c with
  | .error _, c => exact False.elim c
  | .ok .next, c => exact False.elim c
  | .ok .brk, c => exact False.elim c
  | .ok .cont, c => exact False.elim c
  | .ok (.ret u), ⟨v, H', os, bare, un, hok', rv, q⟩ =>
    have q' : v = .bl true := q
    subst q'
    obtain rfl : u = Value.bool true := rv
    refine ⟨rfl, OldK.of_keep ?_, os, bare⟩
    intro b o e
    cases hq : H b with
    | none => exact un.keep b o e hq (fun z => none_in z) (by simp)
    | some u =>
      cases hO b with
      | inl z => rw [hq] at z; cases z
      | inr z =>
        obtain ⟨ob, xs, z⟩ := z
        have o1 := (hok b _ z).1
        have o2 := (hok' b _ (un.frzs b ob _ z)).1
        rw [e] at o1
        cases o1
        exact o2
theorem law_g {P : Program} {w : World} {K : PySem.W.Frag} {mg mb : Str → Option Value} {k : Nat} {fa a : Addr} {fd : FuncData} {x : Str} {sp : Sp} {s₁ : Shared} {vs : List Value} {ns : List Int}
    (KX : K.In s₁.heap) (hns : s₁.heap.Ns mainGlobals mg) (hb : s₁.heap.Ns builtinsNs mb) (hbb : ∀ x : Str, x ≠ "__name__" → mb x = bootBuiltins x) (hlim : s₁.heap.NoLimit) (hg : s₁.gens = #[])
    (ha : s₁.heap.get? a = some { cls := .type "list", data := .seq vs.toArray }) (hi : IntsAre vs ns) (hl : ns.length ≤ sizeLine) (hr : Room k callerA)
    (F : ∀ base : Heap, K.In base → base.Ns mainGlobals mg → FnG P w K mg base k fa fd [x] sp) (hbind : ∀ (s : Shared) (u : Value), BindsTo s fd ⟨[u], []⟩ [(x, u)])
    (hsp : ∀ H : Hp, Only H → SqL K H a (ns.map V.int) → sp [.ref a] H (fun v _ => v = .bl true) fun _ _ _ => False) :
    codeAny (model P w) callerA (.call (.ref fa) ⟨[.ref a], []⟩) (fun r s' => r = .ok (.ret (.bool true)) ∧ OldK s₁.heap s'.heap ∧ s'.os = s₁.os ∧ AllBare s'.gens) s₁ := by
  have rv := vals_ints hi
  cases hk : K.lookup a with
  | some o =>
    have e := KX a o hk
    rw [ha] at e
    cases e
    have oo : Only (fun _ => none) := fun _ => .inl rfl
    refine law_core KX hns hb hbb hlim hg ha hr F hbind (fun _ => none) oo (fun b u z => by cases (z : (none : Option HO) = some u)) (fun b z => absurd rfl z) (fun z => absurd rfl z) (hsp _ oo ?_)
    refine .inr ⟨_, vs.toArray, _, hk, rfl, rfl, rfl, ?_, by simpa using rv⟩
    rw [List.size_toArray, hi.length]
    exact hl
  | none =>
    let H : Hp := fun b => if b = a then some (.frz { cls := .type "list", data := .seq vs.toArray } (.lst (ns.map V.int))) else none
    have at_ : H a = some (.frz { cls := .type "list", data := .seq vs.toArray } (.lst (ns.map V.int))) := if_pos rfl
    have off : ∀ {b : Addr}, b ≠ a → H b = none := fun n => if_neg n
    have oo : Only H := fun b => by
      by_cases z : b = a
      · subst z
        exact .inr ⟨_, _, at_⟩
      · exact .inl (off z)
    refine law_core KX hns hb hbb hlim hg ha hr F hbind H oo ?_ ?_ (fun _ => hk) (hsp _ oo (.inl (.inr ⟨_, at_⟩)))
    · intro b u z
      by_cases q : b = a
      · subst q
        rw [at_] at z
        cases z
        exact ⟨ha, by rw [List.length_map]; exact hl, vs, _, rv, ha⟩
      · rw [off q] at z
        cases z
    · intro b z
      by_cases q : b = a
      · exact q
      · exact absurd (off q) z
/-- what is left behind the head, from the law's promise -/
theorem walk_g {l : PySem.W.OpenLaw} {n k : Nat} {q : Program} {loose : List Str} {XP : (Str → Option Value) → Heap → Prop} {YP : World → Heap → Prop} {d : DefRec} {K : Params → PySem.W.Frag} {sp : World → Sp} {x : Str}
    (hn : l.most = some n) (hn2 : n ≤ sizeLine) (hdf : d.params.defaults = []) (hr : Room k callerA)
    (hY : ∀ (w : World) (h : Heap), YP w h → (K w.params).In h)
    (F : ∀ (w : World) (mg : Str → Option Value) (fa : Addr) (h : Heap), (K w.params).In h → h.Ns mainGlobals mg → mg d.name = some (.ref fa) →
      ∃ fd : FuncData, (∀ (s : Shared) (u : Value), BindsTo s fd ⟨[u], []⟩ [(x, u)]) ∧
        ∀ base : Heap, (K w.params).In base → base.Ns mainGlobals mg → FnG l.prog w (K w.params) mg base k fa fd [x] (sp w))
    (hsp : ∀ (w : World) (H : Hp) (a : Addr) (ns : List Int), ns.length ≤ n → Only H → SqL (K w.params) H a (ns.map V.int) → sp w [.ref a] H (fun v _ => v = .bl true) fun _ _ _ => False) :
    PySem.W.WalkO q loose XP YP l.row.toRowW d [] (fun f vs => PySem.call f vs) := by
  refine Att.attach_call hn hdf ?_
  intro w s₀ s₁ mg mb fa o pm cd doc a vs ns G Y ho hd hcd hmg hobj hints hlen hg
  obtain ⟨fd, hb, hF⟩ := F w mg fa _ (hY w _ Y) G.T.g hmg
  exact law_g (hY w _ Y) G.T.g G.T.b G.T.builtins G.T.nolimit hg hobj hints (Nat.le_trans hlen hn2) hr hF hb (fun H oo hS => hsp w H a ns hlen oo hS)
end G

namespace K
open PySem PySem.Spec PyProof.Rows L2 G
def topS (i : Nat) : Stmt := PySem.Challenge.pw_ledclocks_k02_fractions_reckoned.main.body.getD i (.Pass ⟨0, 0, 0, 0⟩)
abbrev sCd : Stmt := topS 1
abbrev sRatio : Stmt := topS 2
abbrev sAdded : Stmt := topS 3
abbrev sLess : Stmt := topS 4
abbrev sTimes : Stmt := topS 5
abbrev sParted : Stmt := topS 6
abbrev sBelow : Stmt := topS 7
abbrev sFeed : Stmt := topS 9
abbrev sDraw : Stmt := topS 10
abbrev sDiv : Stmt := topS 11
abbrev sMade : Stmt := topS 12
abbrev sFrac : Stmt := topS 13
abbrev sRight : Stmt := topS 14
abbrev sThrees : Stmt := topS 15
abbrev sGreat : Stmt := topS 16
abbrev sLaw : Stmt := topS 17
/-! heaps -/
theorem same_new {H : Hp} {p : Addr} {o : HO} (h : H p = none) : Same H (upd H p o) := fun b x e => by
  rw [upd_ne (ne_of_none e h)]
  exact e
theorem yes {b : Bool} {p q : Prop} (h : b = true) (x : p) : if b = true then p else q := by
  rw [if_pos h]
  exact x
theorem no {b : Bool} {p q : Prop} (h : b = false) (x : q) : if b = true then p else q := by
  rw [if_neg (by rw [h]; decide)]
  exact x
/-- a new object -/
structure New (H H' : Hp) (p : Addr) (o : HO) : Prop where
  same : Same H H'
  free : H p = none
  at_ : H' p = some o
theorem new_of {H : Hp} {p : Addr} {o : HO} (h : H p = none) : New H (upd H p o) p o := ⟨same_new h, h, upd_same⟩
abbrev tf (x : Int × Int) : List V := [.int x.1, .int x.2]
theorem it0 {K : PySem.W.Frag} {H : Hp} {p : Addr} {x y : V} {Q : VK} (h : SqT K H p [x, y]) (q : Q x H) : rIxT K (.ref p) (.int 0) H Q := ⟨p, _, 0, x, rfl, rfl, h, atI_nat (j := 0) rfl, q⟩
theorem it1 {K : PySem.W.Frag} {H : Hp} {p : Addr} {x y : V} {Q : VK} (h : SqT K H p [x, y]) (q : Q y H) : rIxT K (.ref p) (.int 1) H Q := ⟨p, _, 1, y, rfl, rfl, h, atI_nat (j := 1) rfl, q⟩
/-- bounds -/
structure Bd (x : Int × Int) : Prop where
  pos : 0 < x.2
  b1 : x.1.natAbs < 2 ^ 900
  b2 : x.2.natAbs < 2 ^ 900
theorem mw {i j : Int} (hi : i.natAbs < 2 ^ 900) (hj : j.natAbs < 2 ^ 900) : CMulW i j := wide_mul hi hj (by decide) (by decide) (by decide)
theorem up {a : Int} {n : Nat} (h : a.natAbs < 2 ^ n) (hn : n ≤ 2000) : a.natAbs < 2 ^ 2000 := Fr.bmono h hn
section
variable {P : Program} {w : World} {K : PySem.W.Frag} {mg : Str → Option Value} {base : Heap}
/-! the greatest common divisor, twice -/
theorem gcd_step {a b : Int} (hb : 0 < b) : Int.gcd b (a.fmod b) = Int.gcd a b := by
  rw [Int.fmod_eq_emod_of_nonneg a (by omega), Int.emod_def, Int.gcd_sub_mul_left_right, Int.gcd_comm]
theorem fmod_lt {a b : Int} (hb : 0 < b) : 0 ≤ a.fmod b ∧ a.fmod b < b := by
  rw [Int.fmod_eq_emod_of_nonneg a (by omega)]
  exact ⟨Int.emod_nonneg _ (by omega), Int.emod_lt_of_pos _ hb⟩
def spCd : Sp := fun vs H Q _ => ∃ a b : Int, vs = [.int a, .int b] ∧ 0 ≤ b ∧ Q (.int (Int.gcd a b : Nat)) H
theorem scCd : FnScope ["a", "b"] ["a", "b"] (defScope sCd) := ⟨rfl, rfl, rfl, by decide +kernel, rfl, by decide +kernel, by decide +kernel⟩
theorem ok_cd {f : Addr} {fd : FuncData} (F : Fun K "common_divisor" "common_divisor" sCd f fd) (mA : mg "abs" = none) : FnOk P w K mg base CX0 1 f fd ["a", "b"] spCd := by
  refine F.ok scCd (fun vs H Q E h => ?_) (fun cdv A outer s H vs Q E hr h => ?_)
  · obtain ⟨a, b, rfl, _⟩ := h
    rfl
  · obtain ⟨a, b, rfl, hb, q⟩ := h
    refine ⟨_, pss_cons (ps_while PassesOwn.never (pt_cmpR op_ne (pv 1) pe_int (nomark _))
        (pss_one (ps_par (i := 0) (j := 1) (by rfl) scCd.nd rfl rfl (by decide) rfl rfl (pa_cons (pv 1) (pa_cons (pe_op op_modN (pv 0) (pv 1)) pa_nil)) (by rfl))))
      (pss_one (ps_ret (pe_callB call_abs (by rfl) mA boot_abs (pa_cons (pv 0) pa_nil)))), ?_⟩
    refine ⟨fun m σ H' => ∃ x y : Int, σ = [some (.int x), some (.int y)] ∧ 0 ≤ y ∧ m = y.toNat ∧ Int.gcd x y = Int.gcd a b ∧ H' = H, ⟨_, a, b, rfl, hb, rfl, rfl, rfl⟩, ?_⟩
    rintro m σ H' ⟨x, y, rfl, hy, rfl, hg, rfl⟩
    refine ⟨_, rfl, rfl, _, rfl, ?_⟩
    by_cases y0 : y = 0
    · subst y0
      refine no (by simp) ?_
      refine ⟨_, rfl, x, rfl, ?_⟩
      have e : (if x < 0 then -x else x) = ((Int.gcd a b : Nat) : Int) := by
        rw [← hg, Int.gcd_zero]
        split <;> omega
      rw [e]
      exact q
    · refine yes (by simp [y0]) ?_
      obtain ⟨h1, h2⟩ := fmod_lt (a := x) (b := y) (by omega)
      refine ⟨fun σ' H2 => ∃ x' y' : Int, σ' = [some (.int x'), some (.int y')] ∧ 0 ≤ y' ∧ y'.toNat < y.toNat ∧ Int.gcd x' y' = Int.gcd a b ∧ H2 = H', ?_, ?_⟩
      · rintro σ' H2 ⟨x', y', rfl, h3, h4, h5, rfl⟩
        exact ⟨_, h4, x', y', rfl, h3, rfl, h5, rfl⟩
      · refine ⟨_, rfl, _, rfl, _, rfl, _, _, rfl, rfl, y0, _, _, rfl, ?_⟩
        exact ⟨y, x.fmod y, rfl, h1, by omega, by rw [gcd_step (by omega), hg], rfl⟩
def spDiv : Sp := fun vs H Q _ => ∃ a b : Int, vs = [.int a, .int b] ∧ 0 ≤ a ∧ 0 ≤ b ∧ Q (.int (Int.gcd a b : Nat)) H
theorem scDiv : FnScope ["_law_one", "_law_other"] ["_law_one", "_law_other"] (defScope sDiv) := ⟨rfl, rfl, rfl, by decide +kernel, rfl, by decide +kernel, by decide +kernel⟩
theorem ok_div {f : Addr} {fd : FuncData} (F : Fun K "_law_divisor" "_law_divisor" sDiv f fd) : FnOk P w K mg base CX0 1 f fd ["_law_one", "_law_other"] spDiv := by
  refine F.ok scDiv (fun vs H Q E h => ?_) (fun cdv A outer s H vs Q E hr h => ?_)
  · obtain ⟨a, b, rfl, _⟩ := h
    rfl
  · obtain ⟨a, b, rfl, ha, hb, q⟩ := h
    refine ⟨_, pss_cons (ps_while PassesOwn.never (pt_cmpR op_gt (pv 1) pe_int (nomark _))
        (pss_one (ps_par (i := 0) (j := 1) (by rfl) scDiv.nd rfl rfl (by decide) rfl rfl (pa_cons (pv 1) (pa_cons (pe_op op_modN (pv 0) (pv 1)) pa_nil)) (by rfl))))
      (pss_one (ps_ret (pv 0))), ?_⟩
    refine ⟨fun m σ H' => ∃ x y : Int, σ = [some (.int x), some (.int y)] ∧ 0 ≤ x ∧ 0 ≤ y ∧ m = y.toNat ∧ Int.gcd x y = Int.gcd a b ∧ H' = H, ⟨_, a, b, rfl, ha, hb, rfl, rfl, rfl⟩, ?_⟩
    rintro m σ H' ⟨x, y, rfl, hx, hy, rfl, hg, rfl⟩
    refine ⟨_, rfl, _, _, rfl, rfl, _, rfl, ?_⟩
    by_cases y0 : 0 < y
    · refine yes (decide_eq_true y0) ?_
      obtain ⟨h1, h2⟩ := fmod_lt (a := x) (b := y) (by omega)
      refine ⟨fun σ' H2 => ∃ x' y' : Int, σ' = [some (.int x'), some (.int y')] ∧ 0 ≤ x' ∧ 0 ≤ y' ∧ y'.toNat < y.toNat ∧ Int.gcd x' y' = Int.gcd a b ∧ H2 = H', ?_, ?_⟩
      · rintro σ' H2 ⟨x', y', rfl, h0, h3, h4, h5, rfl⟩
        exact ⟨_, h4, x', y', rfl, h0, h3, rfl, h5, rfl⟩
      · refine ⟨_, rfl, _, rfl, _, rfl, _, _, rfl, rfl, (by omega : y ≠ 0), _, _, rfl, ?_⟩
        exact ⟨y, x.fmod y, rfl, hy, h1, by omega, by rw [gcd_step (by omega), hg], rfl⟩
    · refine no (decide_eq_false y0) ?_
      have y1 : y = 0 := by omega
      subst y1
      have e : x = ((Int.gcd a b : Nat) : Int) := by
        rw [← hg, Int.gcd_zero]
        omega
      refine ⟨_, rfl, ?_⟩
      rw [e]
      exact q
/-! a parted by b, twice -/
def spRatio : Sp := fun vs H Q _ => ∃ a b : Int, vs = [.int a, .int b] ∧ b ≠ 0 ∧ b.natAbs < 2 ^ 2000 ∧ ∀ H' p, New H H' p (.tup (tf (Fr.mk a b))) → Q (.ref p) H'
theorem g_div {a b : Int} {x : Int} (h : b ≠ 0) (hb : b.natAbs < 2 ^ 2000) : CDivW x ((Int.gcd a b : Nat) : Int) := by
  have g0 := Fr.gcd_pos (a := a) h
  refine wide_div (b := 2000) (by omega) ?_ (by decide) (by decide)
  rw [Int.natAbs_natCast]
  exact Nat.lt_of_le_of_lt (Int.gcd_le_natAbs_right _ h) hb
theorem scRatio : FnScope ["a", "b", "divisor"] ["a", "b"] (defScope sRatio) := ⟨rfl, rfl, rfl, by decide +kernel, rfl, by decide +kernel, by decide +kernel⟩
theorem ok_ratio {f fD : Addr} {fd fdD : FuncData} (F : Fun K "ratio" "ratio" sRatio f fd) (FD : Fun K "common_divisor" "common_divisor" sCd fD fdD) (bD : Binds K fdD ["a", "b"] []) (gD : mg "common_divisor" = some (.ref fD)) (mA : mg "abs" = none) : FnOk P w K mg base CX0 2 f fd ["a", "b"] spRatio := by
  have GD : FnOk P w K mg base CX0 1 fD fdD ["a", "b"] spCd := ok_cd FD mA
  refine F.ok scRatio (fun vs H Q E h => ?_) (fun cdv A outer s H vs Q E hr h => ?_)
  · obtain ⟨a, b, rfl, _⟩ := h
    rfl
  · obtain ⟨a, b, rfl, hb, hB, q⟩ := h
    refine ⟨_, pss_cons (ps_if (pt_cmpR op_lt (pv 1) pe_int (nomark _))
        (pss_one (ps_par (i := 0) (j := 1) (by rfl) scRatio.nd rfl rfl (by decide) rfl rfl (pa_cons (pe_un un_neg (pv 0)) (pa_cons (pe_un un_neg (pv 1)) pa_nil)) (by rfl))) pss_nil)
      (pss_cons (ps_set (i := 2) scRatio.nd rfl (.inl rfl) (pe_call GD hr (by rfl) gD FD.kp bD .nil pass0 (pa_cons (pv 0) (pa_cons (pv 1) pa_nil))))
      (pss_one (ps_ret (pe_tup (pa_cons (pe_op op_fdivW (pv 0) (pv 2)) (pa_cons (pe_op op_fdivW (pv 1) (pv 2)) pa_nil)))))), ?_⟩
    refine ⟨_, rfl, _, _, rfl, rfl, _, rfl, ?_⟩
    by_cases hn : b < 0
    · refine yes (decide_eq_true hn) ?_
      refine ⟨_, rfl, a, rfl, _, rfl, b, rfl, _, _, rfl, ?_⟩
      refine ⟨_, rfl, _, rfl, -a, -b, rfl, by omega, ?_⟩
      have e : Int.gcd (-a) (-b) = Int.gcd a b := by rw [Int.neg_gcd, Int.gcd_neg]
      rw [e]
      refine ⟨_, rfl, _, rfl, _, _, rfl, rfl, g_div hb hB, _, rfl, _, rfl, _, _, rfl, rfl, g_div hb hB, (by show 2 ≤ sizeLine; decide), fun p hp => ?_⟩
      refine q _ p ?_
      unfold Fr.mk
      rw [if_pos hn]
      exact new_of hp
    · refine no (decide_eq_false hn) ?_
      refine ⟨_, rfl, _, rfl, a, b, rfl, by omega, ?_⟩
      refine ⟨_, rfl, _, rfl, _, _, rfl, rfl, g_div hb hB, _, rfl, _, rfl, _, _, rfl, rfl, g_div hb hB, (by show 2 ≤ sizeLine; decide), fun p hp => ?_⟩
      refine q _ p ?_
      unfold Fr.mk
      rw [if_neg hn]
      exact new_of hp
theorem scMade : FnScope ["_law_a", "_law_b", "_law_divisor_here"] ["_law_a", "_law_b"] (defScope sMade) := ⟨rfl, rfl, rfl, by decide +kernel, rfl, by decide +kernel, by decide +kernel⟩
theorem ok_made {f fD : Addr} {fd fdD : FuncData} (F : Fun K "_law_made" "_law_made" sMade f fd) (FD : Fun K "_law_divisor" "_law_divisor" sDiv fD fdD) (bD : Binds K fdD ["_law_one", "_law_other"] []) (gD : mg "_law_divisor" = some (.ref fD)) (mA : mg "abs" = none) : FnOk P w K mg base CX0 2 f fd ["_law_a", "_law_b"] spRatio := by
  have GD : FnOk P w K mg base CX0 1 fD fdD ["_law_one", "_law_other"] spDiv := ok_div FD
  refine F.ok scMade (fun vs H Q E h => ?_) (fun cdv A outer s H vs Q E hr h => ?_)
  · obtain ⟨a, b, rfl, _⟩ := h
    rfl
  · obtain ⟨a, b, rfl, hb, hB, q⟩ := h
    refine ⟨_, pss_cons (ps_if (pt_cmpR op_lt (pv 1) pe_int (nomark _))
        (pss_one (ps_par (i := 0) (j := 1) (by rfl) scMade.nd rfl rfl (by decide) rfl rfl (pa_cons (pe_op op_sub pe_int (pv 0)) (pa_cons (pe_op op_sub pe_int (pv 1)) pa_nil)) (by rfl))) pss_nil)
      (pss_cons (ps_set (i := 2) scMade.nd rfl (.inl rfl) (pe_call GD hr (by rfl) gD FD.kp bD .nil pass0 (pa_cons (pe_callB call_abs (by rfl) mA boot_abs (pa_cons (pv 0) pa_nil)) (pa_cons (pv 1) pa_nil))))
      (pss_one (ps_ret (pe_tup (pa_cons (pe_op op_fdivW (pv 0) (pv 2)) (pa_cons (pe_op op_fdivW (pv 1) (pv 2)) pa_nil)))))), ?_⟩
    have ab : ∀ x : Int, Int.gcd (if x < 0 then -x else x) b = Int.gcd x b := by
      intro x
      split
      · rw [Int.neg_gcd]
      · rfl
    have ab0 : ∀ x : Int, 0 ≤ (if x < 0 then -x else x) := by
      intro x
      split <;> omega
    refine ⟨_, rfl, _, _, rfl, rfl, _, rfl, ?_⟩
    by_cases hn : b < 0
    · refine yes (decide_eq_true hn) ?_
      refine ⟨_, rfl, _, _, rfl, rfl, _, rfl, _, _, rfl, rfl, _, _, rfl, ?_⟩
      refine ⟨_, rfl, 0 - a, rfl, _, rfl, _, 0 - b, rfl, ab0 _, by omega, ?_⟩
      have e : Int.gcd (if 0 - a < 0 then -(0 - a) else 0 - a) (0 - b) = Int.gcd a b := by
        rw [Int.zero_sub, Int.zero_sub, Int.gcd_neg, ab, Int.neg_gcd]
      rw [e]
      refine ⟨_, rfl, _, rfl, _, _, rfl, rfl, g_div hb hB, _, rfl, _, rfl, _, _, rfl, rfl, g_div hb hB, (by show 2 ≤ sizeLine; decide), fun p hp => ?_⟩
      refine q _ p ?_
      unfold Fr.mk
      rw [if_pos hn, ← Int.zero_sub a, ← Int.zero_sub b]
      exact new_of hp
    · refine no (decide_eq_false hn) ?_
      refine ⟨_, rfl, a, rfl, _, rfl, _, b, rfl, ab0 _, by omega, ?_⟩
      rw [ab]
      refine ⟨_, rfl, _, rfl, _, _, rfl, rfl, g_div hb hB, _, rfl, _, rfl, _, _, rfl, rfl, g_div hb hB, (by show 2 ≤ sizeLine; decide), fun p hp => ?_⟩
      refine q _ p ?_
      unfold Fr.mk
      rw [if_neg hn]
      exact new_of hp
end
end K

namespace K
open PySem PySem.Spec PyProof.Rows L2 G
section
variable {P : Program} {w : World} {K : PySem.W.Frag} {mg : Str → Option Value} {base : Heap}
/-- where the defs stand whose promises are asked: ratio -/
structure Rat (P : Program) (w : World) (K : PySem.W.Frag) (mg : Str → Option Value) (base : Heap) (fR : Addr) (fdR : FuncData) : Prop where
  G : FnOk P w K mg base CX0 2 fR fdR ["a", "b"] spRatio
  b : Binds K fdR ["a", "b"] []
  g : mg "ratio" = some (.ref fR)
  k : PySem.W.keepIn K (.ref fR) = true
def spSum (K : PySem.W.Frag) (op : Int × Int → Int × Int → Int × Int) : Sp := fun vs H Q _ => ∃ (p q : Addr) (x y : Int × Int), vs = [.ref p, .ref q] ∧ SqT K H p (tf x) ∧ SqT K H q (tf y) ∧ Bd x ∧ Bd y ∧
  ∀ H' r, New H H' r (.tup (tf (op x y))) → Q (.ref r) H'
def spPart (K : PySem.W.Frag) : Sp := fun vs H Q _ => ∃ (p q : Addr) (x y : Int × Int), vs = [.ref p, .ref q] ∧ SqT K H p (tf x) ∧ SqT K H q (tf y) ∧ Bd x ∧ Bd y ∧ y.1 ≠ 0 ∧
  ∀ H' r, New H H' r (.tup (tf (Fr.div x y))) → Q (.ref r) H'
def spBelow (K : PySem.W.Frag) : Sp := fun vs H Q _ => ∃ (p q : Addr) (x y : Int × Int), vs = [.ref p, .ref q] ∧ SqT K H p (tf x) ∧ SqT K H q (tf y) ∧ Bd x ∧ Bd y ∧
  Q (.bl (decide (x.1 * y.2 < y.1 * x.2))) H
theorem scAdded : FnScope ["one", "other"] ["one", "other"] (defScope sAdded) := ⟨rfl, rfl, rfl, by decide +kernel, rfl, by decide +kernel, by decide +kernel⟩
theorem scLess : FnScope ["one", "other"] ["one", "other"] (defScope sLess) := ⟨rfl, rfl, rfl, by decide +kernel, rfl, by decide +kernel, by decide +kernel⟩
theorem scTimes : FnScope ["one", "other"] ["one", "other"] (defScope sTimes) := ⟨rfl, rfl, rfl, by decide +kernel, rfl, by decide +kernel, by decide +kernel⟩
theorem scParted : FnScope ["one", "other"] ["one", "other"] (defScope sParted) := ⟨rfl, rfl, rfl, by decide +kernel, rfl, by decide +kernel, by decide +kernel⟩
theorem scBelow : FnScope ["one", "other"] ["one", "other"] (defScope sBelow) := ⟨rfl, rfl, rfl, by decide +kernel, rfl, by decide +kernel, by decide +kernel⟩
theorem pos_ne {x y : Int × Int} (hx : Bd x) (hy : Bd y) : x.2 * y.2 ≠ 0 := Int.mul_ne_zero (by have := hx.pos; omega) (by have := hy.pos; omega)
theorem b_mul {a b : Int} (ha : a.natAbs < 2 ^ 900) (hb : b.natAbs < 2 ^ 900) : (a * b).natAbs < 2 ^ 2000 := up (Fr.bmul ha hb) (by decide)
theorem ok_added {f fR : Addr} {fd fdR : FuncData} (F : Fun K "added" "added" sAdded f fd) (R : Rat P w K mg base fR fdR) : FnOk P w K mg base CX0 3 f fd ["one", "other"] (spSum K Fr.add) := by
  refine F.ok scAdded (fun vs H Q E h => ?_) (fun cdv A outer s H vs Q E hr h => ?_)
  · obtain ⟨p, q, x, y, rfl, _⟩ := h
    rfl
  · obtain ⟨p, q, x, y, rfl, h1, h2, bx, by_, k⟩ := h
    refine ⟨_, pss_one (ps_ret (pe_call R.G hr (by rfl) R.g R.k R.b .nil pass0
      (pa_cons (pe_op op_add (pe_op op_mulW (pe_ix ix_tup (pv 0) pe_int (fun _ _ => rfl)) (pe_ix ix_tup (pv 1) pe_int (fun _ _ => rfl))) (pe_op op_mulW (pe_ix ix_tup (pv 1) pe_int (fun _ _ => rfl)) (pe_ix ix_tup (pv 0) pe_int (fun _ _ => rfl))))
      (pa_cons (pe_op op_mulW (pe_ix ix_tup (pv 0) pe_int (fun _ _ => rfl)) (pe_ix ix_tup (pv 1) pe_int (fun _ _ => rfl))) pa_nil)))), ?_⟩
    refine ⟨_, rfl, _, _, _, _, rfl, rfl, h1, atI_nat (j := 0) rfl, _, rfl, _, _, _, _, rfl, rfl, h2, atI_nat (j := 1) rfl, _, _, rfl, rfl, mw bx.b1 by_.b2, _, rfl, _, _, _, _, rfl, rfl, h2, atI_nat (j := 0) rfl, _, rfl, _, _, _, _, rfl, rfl, h1, atI_nat (j := 1) rfl, _, _, rfl, rfl, mw by_.b1 bx.b2, _, _, rfl, rfl, ?_⟩
    exact ⟨_, rfl, _, _, _, _, rfl, rfl, h1, atI_nat (j := 1) rfl, _, rfl, _, _, _, _, rfl, rfl, h2, atI_nat (j := 1) rfl, _, _, rfl, rfl, mw bx.b2 by_.b2, _, _, rfl, pos_ne bx by_, b_mul bx.b2 by_.b2, k⟩
theorem ok_less {f fR : Addr} {fd fdR : FuncData} (F : Fun K "less" "less" sLess f fd) (R : Rat P w K mg base fR fdR) : FnOk P w K mg base CX0 3 f fd ["one", "other"] (spSum K Fr.sub) := by
  refine F.ok scLess (fun vs H Q E h => ?_) (fun cdv A outer s H vs Q E hr h => ?_)
  · obtain ⟨p, q, x, y, rfl, _⟩ := h
    rfl
  · obtain ⟨p, q, x, y, rfl, h1, h2, bx, by_, k⟩ := h
    refine ⟨_, pss_one (ps_ret (pe_call R.G hr (by rfl) R.g R.k R.b .nil pass0
      (pa_cons (pe_op op_sub (pe_op op_mulW (pe_ix ix_tup (pv 0) pe_int (fun _ _ => rfl)) (pe_ix ix_tup (pv 1) pe_int (fun _ _ => rfl))) (pe_op op_mulW (pe_ix ix_tup (pv 1) pe_int (fun _ _ => rfl)) (pe_ix ix_tup (pv 0) pe_int (fun _ _ => rfl))))
      (pa_cons (pe_op op_mulW (pe_ix ix_tup (pv 0) pe_int (fun _ _ => rfl)) (pe_ix ix_tup (pv 1) pe_int (fun _ _ => rfl))) pa_nil)))), ?_⟩
    refine ⟨_, rfl, _, _, _, _, rfl, rfl, h1, atI_nat (j := 0) rfl, _, rfl, _, _, _, _, rfl, rfl, h2, atI_nat (j := 1) rfl, _, _, rfl, rfl, mw bx.b1 by_.b2, _, rfl, _, _, _, _, rfl, rfl, h2, atI_nat (j := 0) rfl, _, rfl, _, _, _, _, rfl, rfl, h1, atI_nat (j := 1) rfl, _, _, rfl, rfl, mw by_.b1 bx.b2, _, _, rfl, rfl, ?_⟩
    exact ⟨_, rfl, _, _, _, _, rfl, rfl, h1, atI_nat (j := 1) rfl, _, rfl, _, _, _, _, rfl, rfl, h2, atI_nat (j := 1) rfl, _, _, rfl, rfl, mw bx.b2 by_.b2, _, _, rfl, pos_ne bx by_, b_mul bx.b2 by_.b2, k⟩
theorem ok_times {f fR : Addr} {fd fdR : FuncData} (F : Fun K "times" "times" sTimes f fd) (R : Rat P w K mg base fR fdR) : FnOk P w K mg base CX0 3 f fd ["one", "other"] (spSum K Fr.mul) := by
  refine F.ok scTimes (fun vs H Q E h => ?_) (fun cdv A outer s H vs Q E hr h => ?_)
  · obtain ⟨p, q, x, y, rfl, _⟩ := h
    rfl
  · obtain ⟨p, q, x, y, rfl, h1, h2, bx, by_, k⟩ := h
    refine ⟨_, pss_one (ps_ret (pe_call R.G hr (by rfl) R.g R.k R.b .nil pass0 (pa_cons (pe_op op_mulW (pe_ix ix_tup (pv 0) pe_int (fun _ _ => rfl)) (pe_ix ix_tup (pv 1) pe_int (fun _ _ => rfl))) (pa_cons (pe_op op_mulW (pe_ix ix_tup (pv 0) pe_int (fun _ _ => rfl)) (pe_ix ix_tup (pv 1) pe_int (fun _ _ => rfl))) pa_nil)))), ?_⟩
    exact ⟨_, rfl, _, _, _, _, rfl, rfl, h1, atI_nat (j := 0) rfl, _, rfl, _, _, _, _, rfl, rfl, h2, atI_nat (j := 0) rfl, _, _, rfl, rfl, mw bx.b1 by_.b1, _, rfl, _, _, _, _, rfl, rfl, h1, atI_nat (j := 1) rfl, _, rfl, _, _, _, _, rfl, rfl, h2, atI_nat (j := 1) rfl, _, _, rfl, rfl, mw bx.b2 by_.b2, _, _, rfl, pos_ne bx by_, b_mul bx.b2 by_.b2, k⟩
theorem ok_parted {f fR : Addr} {fd fdR : FuncData} (F : Fun K "parted" "parted" sParted f fd) (R : Rat P w K mg base fR fdR) : FnOk P w K mg base CX0 3 f fd ["one", "other"] (spPart K) := by
  refine F.ok scParted (fun vs H Q E h => ?_) (fun cdv A outer s H vs Q E hr h => ?_)
  · obtain ⟨p, q, x, y, rfl, _⟩ := h
    rfl
  · obtain ⟨p, q, x, y, rfl, h1, h2, bx, by_, h0, k⟩ := h
    refine ⟨_, pss_one (ps_ret (pe_call R.G hr (by rfl) R.g R.k R.b .nil pass0 (pa_cons (pe_op op_mulW (pe_ix ix_tup (pv 0) pe_int (fun _ _ => rfl)) (pe_ix ix_tup (pv 1) pe_int (fun _ _ => rfl))) (pa_cons (pe_op op_mulW (pe_ix ix_tup (pv 0) pe_int (fun _ _ => rfl)) (pe_ix ix_tup (pv 1) pe_int (fun _ _ => rfl))) pa_nil)))), ?_⟩
    exact ⟨_, rfl, _, _, _, _, rfl, rfl, h1, atI_nat (j := 0) rfl, _, rfl, _, _, _, _, rfl, rfl, h2, atI_nat (j := 1) rfl, _, _, rfl, rfl, mw bx.b1 by_.b2, _, rfl, _, _, _, _, rfl, rfl, h1, atI_nat (j := 1) rfl, _, rfl, _, _, _, _, rfl, rfl, h2, atI_nat (j := 0) rfl, _, _, rfl, rfl, mw bx.b2 by_.b1, _, _, rfl, Int.mul_ne_zero (by have := bx.pos; omega) h0, b_mul bx.b2 by_.b1, k⟩
theorem ok_below {f : Addr} {fd : FuncData} (F : Fun K "is_below" "is_below" sBelow f fd) : FnOk P w K mg base CX0 1 f fd ["one", "other"] (spBelow K) := by
  refine F.ok scBelow (fun vs H Q E h => ?_) (fun cdv A outer s H vs Q E hr h => ?_)
  · obtain ⟨p, q, x, y, rfl, _⟩ := h
    rfl
  · obtain ⟨p, q, x, y, rfl, h1, h2, bx, by_, k⟩ := h
    refine ⟨_, pss_one (ps_ret (pe_cmpR op_lt (pe_op op_mulW (pe_ix ix_tup (pv 0) pe_int (fun _ _ => rfl)) (pe_ix ix_tup (pv 1) pe_int (fun _ _ => rfl))) (pe_op op_mulW (pe_ix ix_tup (pv 1) pe_int (fun _ _ => rfl)) (pe_ix ix_tup (pv 0) pe_int (fun _ _ => rfl))) (nomark _))), ?_⟩
    exact ⟨_, rfl, _, _, _, _, rfl, rfl, h1, atI_nat (j := 0) rfl, _, rfl, _, _, _, _, rfl, rfl, h2, atI_nat (j := 1) rfl, _, _, rfl, rfl, mw bx.b1 by_.b2, _, rfl, _, _, _, _, rfl, rfl, h2, atI_nat (j := 0) rfl, _, rfl, _, _, _, _, rfl, rfl, h1, atI_nat (j := 1) rfl, _, _, rfl, rfl, mw by_.b1 bx.b2, _, _, rfl, rfl, k⟩
/-! the feed and its draws -/
structure Fd (H : Hp) (f s : Addr) (ns : List Int) (B : Int) : Prop where
  ex : ∃ i q n : Int, H f = some (.lst [.ref s, .int i, .int q, .int n]) ∧ 0 ≤ i ∧ 0 ≤ q ∧ 0 ≤ n ∧ n ≤ B
  sc : H s = some (.lst (ns.map V.int))
  ne : s ≠ f
  few : ns.length ≤ 63
def But (f : Addr) (H H' : Hp) : Prop := ∀ b o, b ≠ f → H b = some o → H' b = some o
def spDraw : Sp := fun vs H Q _ => ∃ (f s : Addr) (ns : List Int) (B m : Int), vs = [.ref f, .int m] ∧ Fd H f s ns B ∧ 0 < m ∧ m.natAbs < 2 ^ 200 ∧ B < 2 ^ 40 ∧
  ∀ H' d, But f H H' → Fd H' f s ns (B + 1) → 0 ≤ d → d < m → Q (.int d) H'
def spFeed (K : PySem.W.Frag) : Sp := fun vs H Q _ => ∃ (a : Addr) (ns : List Int), vs = [.ref a] ∧ SqL K H a (ns.map V.int) ∧ ns.length ≤ 63 ∧
  ∀ H' f s, Same H H' → H f = none → H s = none → Fd H' f s ns 0 → Q (.ref f) H'
theorem scFeed : FnScope ["_law_script"] ["_law_script"] (defScope sFeed) := ⟨rfl, rfl, rfl, by decide +kernel, rfl, by decide +kernel, by decide +kernel⟩
theorem scDraw : FnScope ["_law_feed_here", "_law_many", "_law_found", "_law_cell", "_law_mixed"] ["_law_feed_here", "_law_many"] (defScope sDraw) := ⟨rfl, rfl, rfl, by decide +kernel, rfl, by decide +kernel, by decide +kernel⟩
theorem cut63 (ns : List Int) (h : ns.length ≤ 63) : cutV (ns.map V.int) none (some 63) = ns.map V.int := by
  unfold cutV
  rw [HT.sIx_none, show HT.sIx (ns.map V.int).length (ns.map V.int).length (some 63) = min 63 (ns.map V.int).length from HT.sIx_nat _ _ 63]
  rw [List.drop_zero, List.take_of_length_le]
  rw [List.length_map]
  omega
theorem ok_feed {f : Addr} {fd : FuncData} (F : Fun K "_law_feed" "_law_feed" sFeed f fd) : FnOk P w K mg base CX0 1 f fd ["_law_script"] (spFeed K) := by
  refine F.ok scFeed (fun vs H Q E h => ?_) (fun cdv A outer s H vs Q E hr h => ?_)
  · obtain ⟨a, ns, rfl, _⟩ := h
    rfl
  · obtain ⟨a, ns, rfl, hS, hl, k⟩ := h
    refine ⟨_, pss_one (ps_ret (pe_lst (pa_cons (pe_slice sl_list (pv 0) po_none (po_some pe_int)) (pa_cons pe_int (pa_cons pe_int (pa_cons pe_int pa_nil)))))), ?_⟩
    refine ⟨_, rfl, 63, rfl, a, _, rfl, hS, fun t ht => ?_⟩
    refine ⟨(by show 4 ≤ sizeLine; decide), fun p hp => ?_⟩
    rw [cut63 ns hl] at hp ⊢
    have npt : t ≠ p := fun e => by
      rw [e, upd_same] at hp
      cases hp
    have hp0 : H p = none := by
      rw [upd_ne npt.symm] at hp
      exact hp
    refine k _ p t (fun b o e => ?_) hp0 ht ⟨⟨0, 0, 0, upd_same, by decide, by decide, by decide, by decide⟩, ?_, npt, hl⟩
    · rw [upd_ne (ne_of_none e hp0), upd_ne (ne_of_none e ht)]
      exact e
    · rw [upd_ne npt, upd_same]
end
end K

namespace K
open PySem PySem.Spec PyProof.Rows L2 G
theorem But.free {f s : Addr} {ns : List Int} {B : Int} {H H' : Hp} {p : Addr} (b : But f H H') (F : Fd H' f s ns B) (h : H' p = none) : H p = none := by
  cases e : H p with
  | none => rfl
  | some o =>
    by_cases z : p = f
    · subst z
      obtain ⟨i, q, n, e2, _⟩ := F.ex
      rw [h] at e2
      cases e2
    · rw [b p o z e] at h
      cases h
theorem But.trans {f : Addr} {H H' H2 : Hp} (a : But f H H') (b : But f H' H2) : But f H H2 := fun x o n e => b x o n (a x o n e)
theorem But.of {f : Addr} {H H' : Hp} (a : Same H H') : But f H H' := fun x o _ e => a x o e
theorem Fd.keep {f s : Addr} {ns : List Int} {B : Int} {H H' : Hp} (F : Fd H f s ns B) (a : Same H H') : Fd H' f s ns B := by
  obtain ⟨i, q, n, e, h⟩ := F.ex
  exact ⟨⟨i, q, n, a _ _ e, h⟩, a _ _ F.sc, F.ne, F.few⟩
theorem Fd.ne_none {f s : Addr} {ns : List Int} {B : Int} {H : Hp} {p : Addr} (F : Fd H f s ns B) (h : H p = none) : p ≠ f := fun z => by
  obtain ⟨i, q, n, e, _⟩ := F.ex
  rw [z, e] at h
  cases h
theorem dpInts {K : PySem.W.Frag} {H : Hp} : ∀ ns : List Int, DpAll K H (ns.map V.int) (ns.map PyData.int)
  | [] => .nil
  | n :: r => .cons (.int n) (dpInts r)
theorem lay_ints : ∀ ns : List Int, PyData.canLayAll0 (ns.map PyData.int) = true
  | [] => rfl
  | n :: r => by
    simp only [List.map_cons, PyData.canLayAll0, PyData.canLay0, Bool.true_and]
    exact lay_ints r
theorem depth_ints : ∀ ns : List Int, PyData.depthAll (ns.map PyData.int) ≤ 1
  | [] => by simp [PyData.depthAll]
  | n :: r => by
    have h := depth_ints r
    simp only [List.map_cons, PyData.depthAll, PyData.depth]
    omega
theorem shaped_ints (ns : List Int) : SeqAt.shaped (.list (ns.map PyData.int)) = true := by
  have h1 := depth_ints ns
  show (PyData.canLay0 (.list (ns.map PyData.int)) && decide (PyData.depth (.list (ns.map PyData.int)) ≤ 64)) = true
  rw [Bool.and_eq_true]
  refine ⟨by simp only [PyData.canLay0]; exact lay_ints ns, decide_eq_true ?_⟩
  simp only [PyData.depth]
  omega
theorem at_ints {L : List Int} {d : Int} (h0 : 0 ≤ d) (h1 : d < (L.length : Int)) : ∃ v, atI (L.map V.int) d = some (.int v) ∧ v ∈ L := by
  obtain ⟨n, rfl⟩ := Int.eq_ofNat_of_zero_le h0
  have hn : n < L.length := by omega
  refine ⟨L[n], atI_nat (j := n) ?_, List.getElem_mem hn⟩
  rw [List.getElem?_map, List.getElem?_eq_getElem hn]
  rfl
theorem nz1 : (2147483629 : Int) ≠ 0 := by decide
theorem nz2 : (2147483647 : Int) ≠ 0 := by decide
theorem nz3 : (2147483587 : Int) ≠ 0 := by decide
theorem small_pow {x : Int} (h0 : 0 ≤ x) (h1 : x < 2 ^ 63) : CPow x 5 := ⟨by decide, by decide, by have : (2 : Int) ^ 63 = 9223372036854775808 := rfl; have : (2 : Nat) ^ 64 = 18446744073709551616 := rfl; omega⟩
section
variable {P : Program} {w : World} {K : PySem.W.Frag} {mg : Str → Option Value} {base : Heap}
theorem ok_draw {f : Addr} {fd : FuncData} (F : Fun K "_law_draw" "_law_draw" sDraw f fd) (mL : mg "len" = none) : FnOk P w K mg base CX0 1 f fd ["_law_feed_here", "_law_many"] spDraw := by
  refine F.ok scDraw (fun vs H Q E h => ?_) (fun cdv A outer s0 H vs Q E hr h => ?_)
  · obtain ⟨f, s, ns, B, m, rfl, _⟩ := h
    rfl
  · obtain ⟨f, s, ns, B, m, rfl, FD, m0, m1, hB, k⟩ := h
    obtain ⟨i, q, n, hF, i0, q0, n0, nB⟩ := FD.ex
    refine ⟨_, pss_cons (ps_asg (pe_op op_add (pe_ix ix_list (pv 0) pe_int (fun _ _ => rfl)) pe_int) (pg_sub (pv 0) pe_int set_list))
      (pss_cons (ps_if (pt_cmpR op_gt (pe_ix ix_list (pv 0) pe_int (fun _ _ => rfl)) pe_int (nomark _))
        (pss_cons (ps_set (i := 2) scDraw.nd rfl (.inl rfl) (pe_op op_modN (pe_ix ix_list (pv 0) pe_int (fun _ _ => rfl)) (pv 1)))
        (pss_cons (ps_asg (pe_op op_fdivW (pe_ix ix_list (pv 0) pe_int (fun _ _ => rfl)) (pv 1)) (pg_sub (pv 0) pe_int set_list))
        (pss_one (ps_ret (pv 2))))) pss_nil)
      (pss_cons (ps_set (i := 3) scDraw.nd rfl (.inl rfl) pe_int)
      (pss_cons (ps_if (pt_cmpR (op_neD hr.units) (pe_ix ix_list (pv 0) pe_int (fun _ _ => rfl)) (pe_lst pa_nil) (nomark _))
        (pss_one (ps_set (i := 3) scDraw.nd rfl (.inl rfl) (pe_ix ix_list (pe_ix ix_list (pv 0) pe_int (fun _ _ => rfl)) (pe_op op_modN (pe_ix ix_list (pv 0) pe_int (fun _ _ => rfl)) (pe_callB call_len_seq (by rfl) mL PySem.boot_len (pa_cons (pe_ix ix_list (pv 0) pe_int (fun _ _ => rfl)) pa_nil))) (fun _ _ => rfl)))) pss_nil)
      (pss_cons (ps_asg (pe_op op_add (pe_ix ix_list (pv 0) pe_int (fun _ _ => rfl)) pe_int) (pg_sub (pv 0) pe_int set_list))
      (pss_cons (ps_if (PW.pt (pw_and (pt_cmpR op_ge (pv 3) (pe_op op_pow pe_int pe_int) (nomark _)) (pw_and1 (pt_cmpR op_le (pe_ix ix_list (pv 0) pe_int (fun _ _ => rfl)) (pe_callB call_len_seq (by rfl) mL PySem.boot_len (pa_cons (pe_ix ix_list (pv 0) pe_int (fun _ _ => rfl)) pa_nil)) (nomark _)))))
        (pss_cons (ps_asg (pe_op op_fdivW (pv 3) (pv 1)) (pg_sub (pv 0) pe_int set_list))
        (pss_one (ps_ret (pe_op op_modN (pv 3) (pv 1))))) pss_nil)
      (pss_cons (ps_set (i := 4) scDraw.nd rfl (.inl rfl) (pe_op op_modN (pe_op op_pow (pe_op op_add (pe_op op_add (pe_op op_modN (pv 3) pe_int) (pe_op op_mul pe_int (pe_ix ix_list (pv 0) pe_int (fun _ _ => rfl)))) pe_int) pe_int) pe_int))
      (pss_one (ps_ret (pe_op op_modN (pe_op op_fdivW (pe_op op_modN (pe_op op_pow (pe_op op_add (pv 4) (pe_op op_mul pe_int (pe_ix ix_list (pv 0) pe_int (fun _ _ => rfl)))) pe_int) pe_int) pe_int) (pv 1)))))))))), ?_⟩
    -- feed[3] = feed[3] + 1
    refine ⟨_, rfl, _, _, _, _, rfl, rfl, SqL.of hF, atI_nat (j := 3) rfl, _, _, rfl, rfl, _, rfl, f, _, _, 3, rfl, rfl, hF, rfl, ?_⟩
    generalize hH1 : upd H f _ = H1
    have hF1 : H1 f = some (.lst [.ref s, .int i, .int q, .int (n + 1)]) := by
      rw [← hH1]
      exact upd_same
    have b1 : But f H H1 := fun b o nb e => by
      rw [← hH1, upd_ne nb]
      exact e
    -- if feed[2] > 0
    refine ⟨_, rfl, _, _, _, _, rfl, rfl, SqL.of hF1, atI_nat (j := 2) rfl, _, _, rfl, rfl, _, rfl, ?_⟩
    by_cases hq : 0 < q
    · refine yes (decide_eq_true hq) ?_
      refine ⟨_, rfl, _, _, _, _, rfl, rfl, SqL.of hF1, atI_nat (j := 2) rfl, _, rfl, _, _, rfl, rfl, (by omega : m ≠ 0), ?_⟩
      refine ⟨_, rfl, _, _, _, _, rfl, rfl, SqL.of hF1, atI_nat (j := 2) rfl, _, rfl, _, _, rfl, rfl, wide_div (b := 200) m0 m1 (by decide) (by decide), _, rfl, f, _, _, 2, rfl, rfl, hF1, rfl, ?_⟩
      refine ⟨_, rfl, k _ _ (b1.trans fun b o nb e => ?_) ⟨⟨i, q / m, n + 1, upd_same, i0, Int.ediv_nonneg q0 (by omega), by omega, by omega⟩, ?_, FD.ne, FD.few⟩ (fmod_lt m0).1 (fmod_lt m0).2⟩
      · rw [upd_ne nb]
        exact e
      · rw [upd_ne FD.ne]
        exact b1 _ _ FD.ne FD.sc
    · refine no (decide_eq_false hq) ?_
      have q1 : q = 0 := by omega
      subst q1
      have hs1 : H1 s = some (.lst (ns.map V.int)) := b1 _ _ FD.ne FD.sc
      -- cell = 5; if feed[0] != []
      refine ⟨_, rfl, _, _, _, _, rfl, rfl, SqL.of hF1, atI_nat (j := 0) rfl, Nat.zero_le _, fun t ht => ?_⟩
      have s2 : Same H1 (upd H1 t (.lst [])) := same_new ht
      have hF2 := s2 _ _ hF1
      have hs2 := s2 _ _ hs1
      have ht2 : (upd H1 t (.lst [])) t = some (.lst []) := upd_same
      have b2 : But f H (upd H1 t (.lst [])) := b1.trans (.of s2)
      generalize (upd H1 t (.lst [])) = H2 at *
      refine ⟨_, _, .lst (SqL.of hs2) (dpInts ns), .lst (SqL.of ht2) .nil, shaped_ints ns, by decide, _, rfl, ?_⟩
      have go : ∃ c : Int, (ns = [] ∧ c = 5) ∨ (ns ≠ [] ∧ atI (ns.map V.int) (i.fmod ((ns.map V.int).length : Int)) = some (.int c)) := by
        by_cases z : ns = []
        · exact ⟨5, .inl ⟨z, rfl⟩⟩
        · have l0 : 0 < ns.length := List.length_pos_iff.mpr z
          obtain ⟨h1, h2⟩ := fmod_lt (a := i) (b := (ns.length : Int)) (by omega)
          obtain ⟨v, hv, _⟩ := at_ints (L := ns) h1 h2
          refine ⟨v, .inr ⟨z, ?_⟩⟩
          rw [List.length_map]
          exact hv
      obtain ⟨c, hc⟩ := go
      have l63 : (ns.map V.int).length ≤ 63 := by rw [List.length_map]; exact FD.few
      have nx2 : ns = [] → ns.map PyData.int = [] := fun z => by rw [z]; rfl
      rcases hc with ⟨z, rfl⟩ | ⟨z, hc⟩
      · refine no (by rw [nx2 z]; rfl) ?_
        -- feed[1] = feed[1] + 1
        refine ⟨_, rfl, _, _, _, _, rfl, rfl, SqL.of hF2, atI_nat (j := 1) rfl, _, _, rfl, rfl, _, rfl, f, _, _, 1, rfl, rfl, hF2, rfl, ?_⟩
        generalize hH3 : upd H2 f _ = H3
        have hF3 : H3 f = some (.lst [.ref s, .int (i + 1), .int 0, .int (n + 1)]) := by
          rw [← hH3]
          exact upd_same
        have hs3 : H3 s = some (.lst (ns.map V.int)) := by
          rw [← hH3, upd_ne FD.ne]
          exact hs2
        have b3 : But f H H3 := b2.trans fun b o nb e => by
          rw [← hH3, upd_ne nb]
          exact e
        have f3 : Fd H3 f s ns (B + 1) := ⟨⟨i + 1, 0, n + 1, hF3, by omega, by decide, by omega, by omega⟩, hs3, FD.ne, FD.few⟩
        have big : (10 : Int) ^ (18 : Int).toNat = 1000000000000000000 := by decide
        have c1 := fmod_lt (a := (5 : Int)) (b := 2147483629) (by decide)
        have hp : (2 : Int) ^ 63 = 9223372036854775808 := by decide
        have hp2 : (2 : Int) ^ 40 = 1099511627776 := by decide
        have w1 : CPow (((5 : Int)).fmod 2147483629 + 7919 * (n + 1) + 1) 5 := small_pow (by omega) (by omega)
        have c2 := fmod_lt (a := (((5 : Int)).fmod 2147483629 + 7919 * (n + 1) + 1) ^ (5 : Int).toNat) (b := 2147483647) (by decide)
        have w2 : CPow (((((5 : Int)).fmod 2147483629 + 7919 * (n + 1) + 1) ^ (5 : Int).toNat).fmod 2147483647 + 104729 * (n + 1)) 5 := small_pow (by omega) (by omega)
        refine ⟨_, rfl, _, _, rfl, rfl, ⟨by decide, by decide, by decide⟩, _, _, rfl, rfl, _, rfl, ?_⟩
        by_cases hc1 : (10 : Int) ^ (18 : Int).toNat ≤ (5 : Int)
        · refine yes (decide_eq_true hc1) ?_
          refine ⟨_, rfl, _, _, _, _, rfl, rfl, SqL.of hF3, atI_nat (j := 1) rfl, _, rfl, _, _, _, _, rfl, rfl, SqL.of hF3, atI_nat (j := 0) rfl, s, _, rfl, .inl (SqL.of hs3), _, _, rfl, rfl, _, rfl, ?_⟩
          by_cases hc2 : i + 1 ≤ ((ns.map V.int).length : Int)
          · refine yes (decide_eq_true hc2) ?_
            refine ⟨_, rfl, _, rfl, _, _, rfl, rfl, wide_div (b := 200) m0 m1 (by decide) (by decide), _, rfl, f, _, _, 2, rfl, rfl, hF3, rfl, ?_⟩
            refine ⟨_, rfl, _, rfl, _, _, rfl, rfl, (by omega : m ≠ 0), ?_⟩
            refine k _ _ (b3.trans fun b o nb e => ?_) ⟨⟨i + 1, (5 : Int) / m, n + 1, upd_same, by omega, Int.ediv_nonneg (by omega) (by omega), by omega, by omega⟩, ?_, FD.ne, FD.few⟩ (fmod_lt m0).1 (fmod_lt m0).2
            · rw [upd_ne nb]
              exact e
            · rw [upd_ne FD.ne]
              exact hs3
          · refine no (decide_eq_false hc2) ?_
            refine ⟨_, rfl, _, _, rfl, rfl, nz1, _, rfl, _, _, _, _, rfl, rfl, SqL.of hF3, atI_nat (j := 3) rfl, _, _, rfl, rfl, .inl ⟨by decide, by decide⟩, _, _, rfl, rfl, _, _, rfl, rfl, _, _, rfl, rfl, w1, _, _, rfl, rfl, nz2, ?_⟩
            refine ⟨_, rfl, _, rfl, _, _, _, _, rfl, rfl, SqL.of hF3, atI_nat (j := 3) rfl, _, _, rfl, rfl, .inl ⟨by decide, by decide⟩, _, _, rfl, rfl, _, _, rfl, rfl, w2, _, _, rfl, rfl, nz3, _, _, rfl, rfl, wide_div (b := 7) (by decide) (by decide) (by decide) (by decide), _, rfl, _, _, rfl, rfl, (by omega : m ≠ 0), ?_⟩
            exact k _ _ b3 f3 (fmod_lt m0).1 (fmod_lt m0).2
        · refine no (decide_eq_false hc1) ?_
          refine ⟨_, rfl, _, _, rfl, rfl, nz1, _, rfl, _, _, _, _, rfl, rfl, SqL.of hF3, atI_nat (j := 3) rfl, _, _, rfl, rfl, .inl ⟨by decide, by decide⟩, _, _, rfl, rfl, _, _, rfl, rfl, _, _, rfl, rfl, w1, _, _, rfl, rfl, nz2, ?_⟩
          refine ⟨_, rfl, _, rfl, _, _, _, _, rfl, rfl, SqL.of hF3, atI_nat (j := 3) rfl, _, _, rfl, rfl, .inl ⟨by decide, by decide⟩, _, _, rfl, rfl, _, _, rfl, rfl, w2, _, _, rfl, rfl, nz3, _, _, rfl, rfl, wide_div (b := 7) (by decide) (by decide) (by decide) (by decide), _, rfl, _, _, rfl, rfl, (by omega : m ≠ 0), ?_⟩
          exact k _ _ b3 f3 (fmod_lt m0).1 (fmod_lt m0).2
      · have l0 : 0 < ns.length := List.length_pos_iff.mpr z
        refine yes (by cases ns with | nil => exact absurd rfl z | cons _ _ => rfl) ?_
        refine ⟨_, rfl, _, _, _, _, rfl, rfl, SqL.of hF2, atI_nat (j := 0) rfl, _, rfl, _, _, _, _, rfl, rfl, SqL.of hF2, atI_nat (j := 1) rfl, _, rfl, _, _, _, _, rfl, rfl, SqL.of hF2, atI_nat (j := 0) rfl, s, _, rfl, .inl (SqL.of hs2), _, _, rfl, rfl, (by rw [List.length_map]; omega), _, _, _, _, rfl, rfl, SqL.of hs2, hc, ?_⟩
        -- feed[1] = feed[1] + 1
        refine ⟨_, rfl, _, _, _, _, rfl, rfl, SqL.of hF2, atI_nat (j := 1) rfl, _, _, rfl, rfl, _, rfl, f, _, _, 1, rfl, rfl, hF2, rfl, ?_⟩
        generalize hH3 : upd H2 f _ = H3
        have hF3 : H3 f = some (.lst [.ref s, .int (i + 1), .int 0, .int (n + 1)]) := by
          rw [← hH3]
          exact upd_same
        have hs3 : H3 s = some (.lst (ns.map V.int)) := by
          rw [← hH3, upd_ne FD.ne]
          exact hs2
        have b3 : But f H H3 := b2.trans fun b o nb e => by
          rw [← hH3, upd_ne nb]
          exact e
        have f3 : Fd H3 f s ns (B + 1) := ⟨⟨i + 1, 0, n + 1, hF3, by omega, by decide, by omega, by omega⟩, hs3, FD.ne, FD.few⟩
        have big : (10 : Int) ^ (18 : Int).toNat = 1000000000000000000 := by decide
        have c1 := fmod_lt (a := c) (b := 2147483629) (by decide)
        have hp : (2 : Int) ^ 63 = 9223372036854775808 := by decide
        have hp2 : (2 : Int) ^ 40 = 1099511627776 := by decide
        have w1 : CPow ((c).fmod 2147483629 + 7919 * (n + 1) + 1) 5 := small_pow (by omega) (by omega)
        have c2 := fmod_lt (a := ((c).fmod 2147483629 + 7919 * (n + 1) + 1) ^ (5 : Int).toNat) (b := 2147483647) (by decide)
        have w2 : CPow ((((c).fmod 2147483629 + 7919 * (n + 1) + 1) ^ (5 : Int).toNat).fmod 2147483647 + 104729 * (n + 1)) 5 := small_pow (by omega) (by omega)
        refine ⟨_, rfl, _, _, rfl, rfl, ⟨by decide, by decide, by decide⟩, _, _, rfl, rfl, _, rfl, ?_⟩
        by_cases hc1 : (10 : Int) ^ (18 : Int).toNat ≤ c
        · refine yes (decide_eq_true hc1) ?_
          refine ⟨_, rfl, _, _, _, _, rfl, rfl, SqL.of hF3, atI_nat (j := 1) rfl, _, rfl, _, _, _, _, rfl, rfl, SqL.of hF3, atI_nat (j := 0) rfl, s, _, rfl, .inl (SqL.of hs3), _, _, rfl, rfl, _, rfl, ?_⟩
          by_cases hc2 : i + 1 ≤ ((ns.map V.int).length : Int)
          · refine yes (decide_eq_true hc2) ?_
            refine ⟨_, rfl, _, rfl, _, _, rfl, rfl, wide_div (b := 200) m0 m1 (by decide) (by decide), _, rfl, f, _, _, 2, rfl, rfl, hF3, rfl, ?_⟩
            refine ⟨_, rfl, _, rfl, _, _, rfl, rfl, (by omega : m ≠ 0), ?_⟩
            refine k _ _ (b3.trans fun b o nb e => ?_) ⟨⟨i + 1, c / m, n + 1, upd_same, by omega, Int.ediv_nonneg (by omega) (by omega), by omega, by omega⟩, ?_, FD.ne, FD.few⟩ (fmod_lt m0).1 (fmod_lt m0).2
            · rw [upd_ne nb]
              exact e
            · rw [upd_ne FD.ne]
              exact hs3
          · refine no (decide_eq_false hc2) ?_
            refine ⟨_, rfl, _, _, rfl, rfl, nz1, _, rfl, _, _, _, _, rfl, rfl, SqL.of hF3, atI_nat (j := 3) rfl, _, _, rfl, rfl, .inl ⟨by decide, by decide⟩, _, _, rfl, rfl, _, _, rfl, rfl, _, _, rfl, rfl, w1, _, _, rfl, rfl, nz2, ?_⟩
            refine ⟨_, rfl, _, rfl, _, _, _, _, rfl, rfl, SqL.of hF3, atI_nat (j := 3) rfl, _, _, rfl, rfl, .inl ⟨by decide, by decide⟩, _, _, rfl, rfl, _, _, rfl, rfl, w2, _, _, rfl, rfl, nz3, _, _, rfl, rfl, wide_div (b := 7) (by decide) (by decide) (by decide) (by decide), _, rfl, _, _, rfl, rfl, (by omega : m ≠ 0), ?_⟩
            exact k _ _ b3 f3 (fmod_lt m0).1 (fmod_lt m0).2
        · refine no (decide_eq_false hc1) ?_
          refine ⟨_, rfl, _, _, rfl, rfl, nz1, _, rfl, _, _, _, _, rfl, rfl, SqL.of hF3, atI_nat (j := 3) rfl, _, _, rfl, rfl, .inl ⟨by decide, by decide⟩, _, _, rfl, rfl, _, _, rfl, rfl, _, _, rfl, rfl, w1, _, _, rfl, rfl, nz2, ?_⟩
          refine ⟨_, rfl, _, rfl, _, _, _, _, rfl, rfl, SqL.of hF3, atI_nat (j := 3) rfl, _, _, rfl, rfl, .inl ⟨by decide, by decide⟩, _, _, rfl, rfl, _, _, rfl, rfl, w2, _, _, rfl, rfl, nz3, _, _, rfl, rfl, wide_div (b := 7) (by decide) (by decide) (by decide) (by decide), _, rfl, _, _, rfl, rfl, (by omega : m ≠ 0), ?_⟩
          exact k _ _ b3 f3 (fmod_lt m0).1 (fmod_lt m0).2
end
end K

namespace K
open PySem PySem.Spec PyProof.Rows L2 G
/-- where a def stands, and its promise -/
structure At (P : Program) (w : World) (K : PySem.W.Frag) (mg : Str → Option Value) (base : Heap) (n : Nat) (name : Str) (ps : List Str) (sp : Sp) (f : Addr) (fd : FuncData) : Prop where
  G : FnOk P w K mg base CX0 n f fd ps sp
  b : Binds K fd ps []
  g : mg name = some (.ref f)
  k : PySem.W.keepIn K (.ref f) = true
/-- all that are no lists stay -/
def Kt (H H' : Hp) : Prop := ∀ b o, H b = some o → (∀ xs, o ≠ HO.lst xs) → H' b = some o
theorem Kt.of {H H' : Hp} (s : Same H H') : Kt H H' := fun b o e _ => s b o e
theorem Kt.trans {H H' H2 : Hp} (a : Kt H H') (b : Kt H' H2) : Kt H H2 := fun x o e n => b x o (a x o e n) n
theorem Kt.put {H : Hp} {l : Addr} {xs : List V} {o : HO} (h : H l = some (.lst xs)) : Kt H (upd H l o) := fun b u e n => by
  by_cases z : b = l
  · subst z
    rw [h] at e
    cases e
    exact absurd rfl (n xs)
  · rw [upd_ne z]
    exact e
theorem Kt.but {f s : Addr} {ns : List Int} {B : Int} {H H' : Hp} (b : But f H H') (F : Fd H f s ns B) : Kt H H' := fun x o e n => by
  by_cases z : x = f
  · subst z
    obtain ⟨i, q, m, e2, _⟩ := F.ex
    rw [e2] at e
    cases e
    exact absurd rfl (n _)
  · exact b x o z e
theorem Kt.sqT {K : PySem.W.Frag} {H H' : Hp} {p : Addr} {xs : List V} (k : Kt H H') (h : SqT K H p xs) : SqT K H' p xs := by
  rcases h with h | h
  · rcases h with h | ⟨o, h⟩
    · exact .inl (.inl (k _ _ h (by intro xs z; cases z)))
    · exact .inl (.inr ⟨o, k _ _ h (by intro xs z; cases z)⟩)
  · exact .inr h
abbrev Z := Sum (Int × Int) Bool
def zD : Z → PyData
  | .inl x => .tuple [.int x.1, .int x.2]
  | .inr b => .bool b
/-- values that stand for FRACTIONS and truths -/
inductive Hs (H : Hp) : List V → List Z → Prop
  | nil : Hs H [] []
  | fr {p : Addr} {x : Int × Int} {vs : List V} {zs : List Z} : H p = some (.tup (tf x)) → Hs H vs zs → Hs H (.ref p :: vs) (.inl x :: zs)
  | bo (b : Bool) {vs : List V} {zs : List Z} : Hs H vs zs → Hs H (.bl b :: vs) (.inr b :: zs)
theorem Hs.kt {H H' : Hp} (k : Kt H H') : ∀ {vs : List V} {zs : List Z}, Hs H vs zs → Hs H' vs zs
  | _, _, .nil => .nil
  | _, _, .fr h r => .fr (k _ _ h (by intro xs z; cases z)) (Hs.kt k r)
  | _, _, .bo b r => .bo b (Hs.kt k r)
theorem Hs.app {H : Hp} : ∀ {vs us : List V} {zs ys : List Z}, Hs H vs zs → Hs H us ys → Hs H (vs ++ us) (zs ++ ys)
  | _, _, _, _, .nil, r => r
  | _, _, _, _, .fr h q, r => .fr h (q.app r)
  | _, _, _, _, .bo b q, r => .bo b (q.app r)
theorem Hs.new {H H' : Hp} {vs : List V} {zs : List Z} {p : Addr} {x : Int × Int} (h : Hs H vs zs) (n : New H H' p (.tup (tf x))) : Hs H' (vs ++ [.ref p]) (zs ++ [.inl x]) := (h.kt (.of n.same)).app (.fr n.at_ .nil)
theorem Hs.truth {H : Hp} {vs : List V} {zs : List Z} (b : Bool) (h : Hs H vs zs) : Hs H (vs ++ [.bl b]) (zs ++ [.inr b]) := h.app (.bo b .nil)
theorem Hs.dp {K : PySem.W.Frag} {H : Hp} : ∀ {vs : List V} {zs : List Z}, Hs H vs zs → DpAll K H vs (zs.map zD)
  | _, _, .nil => .nil
  | _, _, .fr h r => .cons (.tup (SqT.of h) (.cons (.int _) (.cons (.int _) .nil))) (Hs.dp r)
  | _, _, .bo b r => .cons (.bl b) (Hs.dp r)
def zOk : Z → Prop
  | .inl x => x.1.natAbs < 2 ^ 1910 ∧ x.2.natAbs < 2 ^ 1910
  | .inr _ => True
theorem log_of {a : Int} (h : a.natAbs < 2 ^ 1910) : a.natAbs.log2 < 1920 := Nat.lt_of_lt_of_le (PySem.Flt.log2_lt_of (by decide) h) (by decide)
theorem show_all : ∀ zs : List Z, (∀ z ∈ zs, zOk z) → PyData.showableAll (zs.map zD) = true ∧ PyData.hasDictAll (zs.map zD) = false ∧ PyData.depthAll (zs.map zD) ≤ 3 ∧ ((PyData.shownAll (zs.map zD)).map (·.length)).sum ≤ 4000 * zs.length ∧ (PyData.shownAll (zs.map zD)).length = zs.length
  | [], _ => ⟨rfl, rfl, by simp [PyData.depthAll], by simp [PyData.shownAll], rfl⟩
  | z :: zs, h => by
    obtain ⟨h1, h2, h3, h4, h5⟩ := show_all zs (fun y hy => h y (List.mem_cons_of_mem _ hy))
    have hz := h z (List.mem_cons_self ..)
    have one : (zD z).showable = true ∧ (zD z).hasDict = false ∧ (zD z).depth ≤ 3 ∧ (zD z).shown.length ≤ 4000 := by
      match z, hz with
      | .inl x, ⟨a1, a2⟩ =>
        have l1 := log_of a1
        have l2 := log_of a2
        refine ⟨by simp [zD, PyData.showable, PyData.showableAll, l1, l2], rfl, by simp [zD, PyData.depth, PyData.depthAll], ?_⟩
        have t := tupleText_len_le (PyData.shownAll [PyData.int x.1, PyData.int x.2])
        have t1 := int_text_len_1921 l1
        have t2 := int_text_len_1921 l2
        simp only [PyData.shownAll, PyData.shown, List.map_cons, List.map_nil, List.sum_cons, List.sum_nil, List.length_cons, List.length_nil] at t
        show (tupleText (PyData.shownAll [PyData.int x.1, PyData.int x.2])).length ≤ 4000
        simp only [PyData.shownAll, PyData.shown]
        omega
      | .inr b, _ => cases b <;> exact ⟨rfl, rfl, by decide, by decide⟩
    obtain ⟨o1, o2, o3, o4⟩ := one
    refine ⟨?_, ?_, ?_, ?_, ?_⟩
    · simp only [List.map_cons, PyData.showableAll, o1, h1, Bool.and_self]
    · simp only [List.map_cons, PyData.hasDictAll, o2, h2, Bool.or_self]
    · simp only [List.map_cons, PyData.depthAll]
      omega
    · simp only [List.map_cons, PyData.shownAll, List.sum_cons, List.length_cons]
      omega
    · simp only [List.map_cons, PyData.shownAll, List.length_cons, h5]
theorem show_list (zs : List Z) (h : ∀ z ∈ zs, zOk z) (hl : zs.length ≤ 10) :
    (PyData.list (zs.map zD)).showable = true ∧ (PyData.list (zs.map zD)).hasDict = false ∧ (PyData.list (zs.map zD)).depth ≤ 40 ∧ (PyData.list (zs.map zD)).shown.length ≤ sizeLine := by
  obtain ⟨h1, h2, h3, h4, h5⟩ := show_all zs h
  refine ⟨h1, h2, ?_, ?_⟩
  · simp only [PyData.depth]
    omega
  · have t := listText_len_le (PyData.shownAll (zs.map zD))
    have e : sizeLine = 16777216 := rfl
    show (listText (PyData.shownAll (zs.map zD))).length ≤ sizeLine
    omega
section
variable {P : Program} {w : World} {K : PySem.W.Frag} {mg : Str → Option Value} {base : Heap}
/-! a drawn FRACTION -/
theorem scFrac : FnScope ["_law_feed_here", "_law_above", "_law_below"] ["_law_feed_here"] (defScope sFrac) := ⟨rfl, rfl, rfl, by decide +kernel, rfl, by decide +kernel, by decide +kernel⟩
def spFrac : Sp := fun vs H Q _ => ∃ (f s : Addr) (ns : List Int) (B : Int), vs = [.ref f] ∧ Fd H f s ns B ∧ B < 2 ^ 39 ∧
  ∀ H' p x, But f H H' → H p = none → H' p = some (.tup (tf x)) → Fr.Ok 20 x → Fd H' f s ns (B + 6) → Q (.ref p) H'
theorem ok_frac {f fD fM : Addr} {fd fdD fdM : FuncData} (F : Fun K "_law_fraction" "_law_fraction" sFrac f fd) (D : At P w K mg base 1 "_law_draw" ["_law_feed_here", "_law_many"] spDraw fD fdD)
    (M : At P w K mg base 2 "_law_made" ["_law_a", "_law_b"] spRatio fM fdM) : FnOk P w K mg base CX0 3 f fd ["_law_feed_here"] spFrac := by
  refine F.ok scFrac (fun vs H Q E h => ?_) (fun cdv A outer s0 H vs Q E hr h => ?_)
  · obtain ⟨f, s, ns, B, rfl, _⟩ := h
    rfl
  · obtain ⟨f, s, ns, B, rfl, FD, hB, k⟩ := h
    have hr1 : Room 1 _ := hr.mono (by decide)
    refine ⟨_, pss_cons (ps_set (i := 1) scFrac.nd rfl (.inl rfl) (pe_ix ix_list (pe_lst (pa_cons (pe_op op_sub (pe_call D.G hr1 (by rfl) D.g D.k D.b .nil pass0 (pa_cons (pv 0) (pa_cons pe_int pa_nil))) pe_int)
          (pa_cons (pe_op op_sub (pe_call D.G hr1 (by rfl) D.g D.k D.b .nil pass0 (pa_cons (pv 0) (pa_cons pe_int pa_nil))) pe_int) (pa_cons pe_int (pa_cons pe_int (pa_cons (pe_un un_neg pe_int) pa_nil))))))
        (pe_call D.G hr1 (by rfl) D.g D.k D.b .nil pass0 (pa_cons (pv 0) (pa_cons pe_int pa_nil))) (fun _ _ => rfl)))
      (pss_cons (ps_set (i := 2) scFrac.nd rfl (.inl rfl) (pe_ix ix_list (pe_lst (pa_cons pe_int (pa_cons (pe_op op_add pe_int (pe_call D.G hr1 (by rfl) D.g D.k D.b .nil pass0 (pa_cons (pv 0) (pa_cons pe_int pa_nil))))
          (pa_cons (pe_op op_add pe_int (pe_call D.G hr1 (by rfl) D.g D.k D.b .nil pass0 (pa_cons (pv 0) (pa_cons pe_int pa_nil)))) pa_nil))))
        (pe_call D.G hr1 (by rfl) D.g D.k D.b .nil pass0 (pa_cons (pv 0) (pa_cons pe_int pa_nil))) (fun _ _ => rfl)))
      (pss_one (ps_ret (pe_call M.G hr (by rfl) M.g M.k M.b .nil pass0 (pa_cons (pv 1) (pa_cons (pv 2) pa_nil)))))), ?_⟩
    have e39 : (2 : Int) ^ 39 = 549755813888 := by decide
    have e40 : (2 : Int) ^ 40 = 1099511627776 := by decide
    refine ⟨_, rfl, f, s, ns, B, 13, rfl, FD, by decide, by decide, by omega, fun H1 d1 b1 F1 l1 u1 => ?_⟩
    refine ⟨_, _, rfl, rfl, _, rfl, f, s, ns, B + 1, 1999999, rfl, F1, by decide, by decide, by omega, fun H2 d2 b2 F2 l2 u2 => ?_⟩
    refine ⟨_, _, rfl, rfl, 1, rfl, (by show 5 ≤ sizeLine; decide), fun t ht => ?_⟩
    have s3 := same_new (o := .lst [.int (d1 - 6), .int (d2 - 999999), .int 0, .int 1, .int (-1)]) ht
    have F3 := F2.keep s3
    refine ⟨_, rfl, f, s, ns, B + 1 + 1, 5, rfl, F3, by decide, by decide, by omega, fun H4 d4 b4 F4 l4 u4 => ?_⟩
    have ht4 : H4 t = some (.lst [.int (d1 - 6), .int (d2 - 999999), .int 0, .int 1, .int (-1)]) := b4 _ _ (F2.ne_none ht) upd_same
    obtain ⟨v, hv, mv⟩ := at_ints (L := [d1 - 6, d2 - 999999, 0, 1, -1]) l4 u4
    have bv : v.natAbs < 2 ^ 20 := by
      have e20 : 2 ^ 20 = 1048576 := by decide
      simp only [List.mem_cons, List.not_mem_nil, or_false] at mv
      omega
    refine ⟨t, _, _, _, rfl, rfl, SqL.of ht4, hv, ?_⟩
    have bb4 : But f H H4 := ((b1.trans b2).trans (.of s3)).trans b4
    refine ⟨_, rfl, f, s, ns, B + 1 + 1 + 1, 12, rfl, F4, by decide, by decide, by omega, fun H5 d5 b5 F5 l5 u5 => ?_⟩
    refine ⟨_, _, rfl, rfl, _, rfl, f, s, ns, B + 1 + 1 + 1 + 1, 999999, rfl, F5, by decide, by decide, by omega, fun H6 d6 b6 F6 l6 u6 => ?_⟩
    refine ⟨_, _, rfl, rfl, (by show 3 ≤ sizeLine; decide), fun t2 ht2 => ?_⟩
    have s7 := same_new (o := .lst [.int 1, .int (1 + d5), .int (1 + d6)]) ht2
    refine ⟨_, rfl, f, s, ns, B + 1 + 1 + 1 + 1 + 1, 3, rfl, F6.keep s7, by decide, by decide, by omega, fun H8 d8 b8 F8 l8 u8 => ?_⟩
    have ht8 : H8 t2 = some (.lst [.int 1, .int (1 + d5), .int (1 + d6)]) := b8 _ _ (F6.ne_none ht2) upd_same
    obtain ⟨u, hu, mu⟩ := at_ints (L := [1, 1 + d5, 1 + d6]) l8 u8
    have bu : 0 < u ∧ u.natAbs < 2 ^ 20 := by
      have e20 : 2 ^ 20 = 1048576 := by decide
      simp only [List.mem_cons, List.not_mem_nil, or_false] at mu
      omega
    refine ⟨t2, _, _, _, rfl, rfl, SqL.of ht8, hu, ?_⟩
    have bb8 : But f H H8 := (((bb4.trans b5).trans b6).trans (.of s7)).trans b8
    refine ⟨_, rfl, _, rfl, v, u, rfl, by omega, Fr.bmono bu.2 (by decide), fun H9 p N => ?_⟩
    have u0 : u ≠ 0 := by omega
    refine k H9 p _ (bb8.trans (.of N.same)) (bb8.free F8 N.free) N.at_ (Fr.mk_ok u0 bv bu.2) ?_
    have F9 := F8.keep N.same
    have e : B + 1 + 1 + 1 + 1 + 1 + 1 = B + 6 := by omega
    rw [e] at F9
    exact F9
end
end K

namespace K
open PySem PySem.Spec PyProof.Rows L2 G
theorem mk_flip {a b : Int} (h : 0 < b) : Fr.mk a (0 - b) = Fr.mk (0 - a) b := by
  refine Fr.mk_eq (by omega) (by omega) ?_
  rw [Int.zero_sub, Int.zero_sub, Int.neg_mul_neg]
theorem mk_part {a d b c : Int} (hb : 0 < b) (hc : c ≠ 0) : Fr.mk (a * d) (b * c) = Fr.mk (if c < 0 then 0 - a * d else a * d) (b * (if c < 0 then -c else c)) := by
  by_cases h : c < 0
  · rw [if_pos h, if_pos h]
    refine Fr.mk_eq (Int.mul_ne_zero (by omega) hc) (Int.mul_ne_zero (by omega) (by omega)) ?_
    rw [Int.zero_sub, Int.mul_neg, Int.mul_neg, Int.neg_mul]
  · rw [if_neg h, if_neg h]
theorem zf {n : Nat} {x : Int × Int} (h : Fr.Ok n x) (hn : n ≤ 1910) : zOk (.inl x) := ⟨Fr.bmono h.b1 hn, Fr.bmono h.b2 hn⟩
theorem one_list {x y : Int} {c : Int} : atI [V.int x, V.int y] (if decide (c < 0) = true then 1 else 0) = some (.int (if c < 0 then y else x)) := by
  by_cases h : c < 0
  · rw [if_pos (decide_eq_true h), if_pos h]
    exact atI_nat (j := 1) rfl
  · rw [if_neg (by simpa using h), if_neg h]
    exact atI_nat (j := 0) rfl
section
variable {P : Program} {w : World} {K : PySem.W.Frag} {mg : Str → Option Value} {base : Heap}
/-- the defs of the program and the law's own making -/
structure Defs (P : Program) (w : World) (K : PySem.W.Frag) (mg : Str → Option Value) (base : Heap) (fR fA fL fT fP fB fM : Addr) (dR dA dL dT dP dB dM : FuncData) : Prop where
  R : At P w K mg base 2 "ratio" ["a", "b"] spRatio fR dR
  A : At P w K mg base 3 "added" ["one", "other"] (spSum K Fr.add) fA dA
  L : At P w K mg base 3 "less" ["one", "other"] (spSum K Fr.sub) fL dL
  T : At P w K mg base 3 "times" ["one", "other"] (spSum K Fr.mul) fT dT
  Q : At P w K mg base 3 "parted" ["one", "other"] (spPart K) fP dP
  B : At P w K mg base 1 "is_below" ["one", "other"] (spBelow K) fB dB
  M : At P w K mg base 2 "_law_made" ["_law_a", "_law_b"] spRatio fM dM
theorem scRight : FnScope ["_law_one", "_law_other", "_law_a", "_law_b", "_law_c", "_law_d", "_law_told", "_law_due"] ["_law_one", "_law_other"] (defScope sRight) := ⟨rfl, rfl, rfl, by decide +kernel, rfl, by decide +kernel, by decide +kernel⟩
def spRight (K : PySem.W.Frag) : Sp := fun vs H Q _ => ∃ (p q : Addr) (x y : Int × Int), vs = [.ref p, .ref q] ∧ SqT K H p (tf x) ∧ SqT K H q (tf y) ∧ Bd x ∧ Bd y ∧ ∀ H', Same H H' → Q (.bl true) H'
theorem ok_right {f fR fA fL fT fP fB fM : Addr} {fd dR dA dL dT dP dB dM : FuncData} (F : Fun K "_law_is_right" "_law_is_right" sRight f fd) (D : Defs P w K mg base fR fA fL fT fP fB fM dR dA dL dT dP dB dM)
    (mA : mg "abs" = none) (mI : mg "int" = none) (mR : mg "repr" = none) : FnG P w K mg base 4 f fd ["_law_one", "_law_other"] (spRight K) := by
  refine fn_g F scRight (fun vs H Q E h => ?_) (fun cdv A outer s0 H vs Q E hg hr h => ?_)
  · obtain ⟨p, q, x, y, rfl, _⟩ := h
    rfl
  · obtain ⟨p, q, x, y, rfl, h1, h2, bx, by_, k⟩ := h
    have hr2 : Room 2 _ := hr.mono (by decide)
    have hr1 : Room 1 _ := hr.mono (by decide)
    refine ⟨_, (pss_cons (ps_asg (pe_tup (pa_cons (pv 0) (pa_cons (pv 1) pa_nil))) (pg_tup rfl (pgs_cons (pg_tup rfl (pgs_cons (pg_name (i := 2) scRight.nd rfl (.inl rfl)) (pgs_cons (pg_name (i := 3) scRight.nd rfl (.inl rfl)) pgs_nil))) (pgs_cons (pg_tup rfl (pgs_cons (pg_name (i := 4) scRight.nd rfl (.inl rfl)) (pgs_cons (pg_name (i := 5) scRight.nd rfl (.inl rfl)) pgs_nil))) pgs_nil))))
      (pss_cons (ps_set (i := 6) scRight.nd rfl (.inl rfl) (pe_lst (pa_cons (pe_call D.A.G hr (by rfl) D.A.g D.A.k D.A.b .nil pass0 (pa_cons (pv 0) (pa_cons (pv 1) pa_nil))) (pa_cons (pe_call D.L.G hr (by rfl) D.L.g D.L.k D.L.b .nil pass0 (pa_cons (pv 0) (pa_cons (pv 1) pa_nil))) (pa_cons (pe_call D.T.G hr (by rfl) D.T.g D.T.k D.T.b .nil pass0 (pa_cons (pv 0) (pa_cons (pv 1) pa_nil))) (pa_cons (pe_call D.B.G hr1 (by rfl) D.B.g D.B.k D.B.b .nil pass0 (pa_cons (pv 0) (pa_cons (pv 1) pa_nil))) (pa_cons (pe_call D.R.G hr2 (by rfl) D.R.g D.R.k D.R.b .nil pass0 (pa_cons (pv 2) (pa_cons (pv 5) pa_nil))) (pa_cons (pe_call D.R.G hr2 (by rfl) D.R.g D.R.k D.R.b .nil pass0 (pa_cons (pv 2) (pa_cons (pe_op op_sub pe_int (pv 3)) pa_nil))) pa_nil))))))))
      (pss_cons (ps_set (i := 7) scRight.nd rfl (.inl rfl) (pe_lst (pa_cons (pe_call D.M.G hr2 (by rfl) D.M.g D.M.k D.M.b .nil pass0 (pa_cons (pe_op op_add (pe_op op_mulW (pv 2) (pv 5)) (pe_op op_mulW (pv 4) (pv 3))) (pa_cons (pe_op op_mulW (pv 3) (pv 5)) pa_nil))) (pa_cons (pe_call D.M.G hr2 (by rfl) D.M.g D.M.k D.M.b .nil pass0 (pa_cons (pe_op op_sub (pe_op op_mulW (pv 2) (pv 5)) (pe_op op_mulW (pv 4) (pv 3))) (pa_cons (pe_op op_mulW (pv 3) (pv 5)) pa_nil))) (pa_cons (pe_call D.M.G hr2 (by rfl) D.M.g D.M.k D.M.b .nil pass0 (pa_cons (pe_op op_mulW (pv 2) (pv 4)) (pa_cons (pe_op op_mulW (pv 3) (pv 5)) pa_nil))) (pa_cons (pe_cmpR op_lt (pe_op op_sub (pe_op op_mulW (pv 2) (pv 5)) (pe_op op_mulW (pv 4) (pv 3))) pe_int (nomark _)) pa_nil))))))
      (pss_cons (ps_if (pt_cmpR op_ne (pv 4) pe_int (nomark _)) (pss_one (ps_expr (pe_bm PySem.F.plainAttrs_list PySem.F.slot_list_append PySem.F.type_list_append mt_append (pv 6) (pa_cons (pe_call D.Q.G hr (by rfl) D.Q.g D.Q.k D.Q.b .nil pass0 (pa_cons (pv 0) (pa_cons (pv 1) pa_nil))) pa_nil)))) pss_nil)
      (pss_cons (ps_set (i := 7) scRight.nd rfl (.inl rfl) (pe_op op_cat (pv 7) (pe_lst (pa_cons (pe_call D.M.G hr2 (by rfl) D.M.g D.M.k D.M.b .nil pass0 (pa_cons (pv 2) (pa_cons (pv 5) pa_nil))) (pa_cons (pe_call D.M.G hr2 (by rfl) D.M.g D.M.k D.M.b .nil pass0 (pa_cons (pe_op op_sub pe_int (pv 2)) (pa_cons (pv 3) pa_nil))) pa_nil)))))
      (pss_cons (ps_if (pt_cmpR op_ne (pv 4) pe_int (nomark _)) (pss_one (ps_expr (pe_bm PySem.F.plainAttrs_list PySem.F.slot_list_append PySem.F.type_list_append mt_append (pv 7) (pa_cons (pe_call D.M.G hr2 (by rfl) D.M.g D.M.k D.M.b .nil pass0 (pa_cons (pe_ix ix_list (pe_lst (pa_cons (pe_op op_mulW (pv 2) (pv 5)) (pa_cons (pe_op op_sub pe_int (pe_op op_mulW (pv 2) (pv 5))) pa_nil))) (pe_callTy call_int1 (by rfl) mI (by decide +kernel) (pa_cons (pe_cmpR op_lt (pv 4) pe_int (nomark _)) pa_nil)) (fun _ _ => rfl)) (pa_cons (pe_op op_mulW (pv 3) (pe_callB call_abs (by rfl) mA boot_abs (pa_cons (pv 4) pa_nil))) pa_nil))) pa_nil)))) pss_nil)
      (pss_one (ps_ret (pe_cmpR op_eq (pe_callB (call_reprD hg hr.units) (by rfl) mR boot_repr (pa_cons (pv 6) pa_nil)) (pe_callB (call_reprD hg hr.units) (by rfl) mR boot_repr (pa_cons (pv 7) pa_nil)) (nomark _)))))))))), ?_⟩
    have xb : x.2 ≠ 0 := by have := bx.pos; omega
    have yb : y.2 ≠ 0 := by have := by_.pos; omega
    have xy := pos_ne bx by_
    have xyB := b_mul bx.b2 by_.b2
    refine ⟨_, rfl, _, rfl, (by show 2 ≤ sizeLine; decide), fun t0 ht0 => ?_⟩
    have s0' : Same H (upd H t0 (.tup [.ref p, .ref q])) := same_new ht0
    have S1 := (Kt.of s0').sqT h1
    have S2 := (Kt.of s0').sqT h2
    refine ⟨t0, [.ref p, .ref q], rfl, SqT.of upd_same, rfl, .ref p, [.ref q], rfl, p, tf x, rfl, S1, rfl, _, _, rfl, _, _, rfl, rfl, .ref q, [], rfl, q, tf y, rfl, S2, rfl, _, _, rfl, _, _, rfl, rfl, rfl, ?_⟩
    generalize (upd H t0 (.tup [.ref p, .ref q])) = H0 at *
    refine ⟨_, rfl, _, rfl, p, q, x, y, rfl, S1, S2, bx, by_, fun H1 r1 N1 => ?_⟩
    have k1 := Kt.of N1.same
    refine ⟨_, rfl, _, rfl, p, q, x, y, rfl, k1.sqT S1, k1.sqT S2, bx, by_, fun H2 r2 N2 => ?_⟩
    have k2 := k1.trans (Kt.of N2.same)
    refine ⟨_, rfl, _, rfl, p, q, x, y, rfl, k2.sqT S1, k2.sqT S2, bx, by_, fun H3 r3 N3 => ?_⟩
    have k3 := k2.trans (Kt.of N3.same)
    refine ⟨_, rfl, _, rfl, p, q, x, y, rfl, k3.sqT S1, k3.sqT S2, bx, by_, ?_⟩
    refine ⟨_, rfl, _, rfl, x.1, y.2, rfl, yb, Fr.bmono by_.b2 (by decide), fun H4 r4 N4 => ?_⟩
    refine ⟨_, rfl, _, rfl, _, _, rfl, rfl, x.1, 0 - x.2, rfl, by omega, (by rw [Int.zero_sub, Int.natAbs_neg]; exact Fr.bmono bx.b2 (by decide)), fun H5 r5 N5 => ?_⟩
    refine ⟨(by show 6 ≤ sizeLine; decide), fun l hl => ?_⟩
    have T5 := (((((Hs.nil.new N1).new N2).new N3).truth (decide (x.1 * y.2 < y.1 * x.2))).new N4).new N5
    have sm5 : Same H H5 := ((((s0'.trans N1.same).trans N2.same).trans N3.same).trans N4.same).trans N5.same
    have s6 := same_new (o := .lst [.ref r1, .ref r2, .ref r3, .bl (decide (x.1 * y.2 < y.1 * x.2)), .ref r4, .ref r5]) hl
    have T6 := T5.kt (Kt.of s6)
    have hl6 : (upd H5 l (.lst [.ref r1, .ref r2, .ref r3, .bl (decide (x.1 * y.2 < y.1 * x.2)), .ref r4, .ref r5])) l = some (.lst [.ref r1, .ref r2, .ref r3, .bl (decide (x.1 * y.2 < y.1 * x.2)), .ref r4, .ref r5]) := upd_same
    have sm6 := sm5.trans s6
    have fl : H l = none := sm5.free hl
    generalize (upd H5 l (.lst [.ref r1, .ref r2, .ref r3, .bl (decide (x.1 * y.2 < y.1 * x.2)), .ref r4, .ref r5])) = H6 at *
    refine ⟨_, rfl, _, rfl, _, _, rfl, rfl, mw bx.b1 by_.b2, _, rfl, _, rfl, _, _, rfl, rfl, mw by_.b1 bx.b2, _, _, rfl, rfl, _, rfl, _, rfl, _, _, rfl, rfl, mw bx.b2 by_.b2, _, _, rfl, xy, xyB, fun H7 r7 N7 => ?_⟩
    refine ⟨_, rfl, _, rfl, _, _, rfl, rfl, mw bx.b1 by_.b2, _, rfl, _, rfl, _, _, rfl, rfl, mw by_.b1 bx.b2, _, _, rfl, rfl, _, rfl, _, rfl, _, _, rfl, rfl, mw bx.b2 by_.b2, _, _, rfl, xy, xyB, fun H8 r8 N8 => ?_⟩
    refine ⟨_, rfl, _, rfl, _, _, rfl, rfl, mw bx.b1 by_.b1, _, rfl, _, rfl, _, _, rfl, rfl, mw bx.b2 by_.b2, _, _, rfl, xy, xyB, fun H9 r9 N9 => ?_⟩
    refine ⟨_, rfl, _, rfl, _, _, rfl, rfl, mw bx.b1 by_.b2, _, rfl, _, rfl, _, _, rfl, rfl, mw by_.b1 bx.b2, _, _, rfl, rfl, _, _, rfl, rfl, (by show 4 ≤ sizeLine; decide), fun l2 hl2 => ?_⟩
    have e1 : decide (x.1 * y.2 - y.1 * x.2 < 0) = decide (x.1 * y.2 < y.1 * x.2) := by
      rw [Bool.eq_iff_iff, decide_eq_true_iff, decide_eq_true_iff]
      omega
    have U9 := (((Hs.nil.new N7).new N8).new N9).truth (decide (x.1 * y.2 - y.1 * x.2 < 0))
    have s79 := (N7.same.trans N8.same).trans N9.same
    have s10 := same_new (o := .lst [.ref r7, .ref r8, .ref r9, .bl (decide (x.1 * y.2 - y.1 * x.2 < 0))]) hl2
    have U10 := U9.kt (Kt.of s10)
    have T10 := T6.kt (Kt.of (s79.trans s10))
    have hl10 := s10 _ _ (s79 _ _ hl6)
    have sm9 := sm6.trans s79
    have fl2 : H l2 = none := sm9.free hl2
    have nl : l ≠ l2 := ne_of_none (s79 _ _ hl6) hl2
    have hl2' : (upd H9 l2 (.lst [.ref r7, .ref r8, .ref r9, .bl (decide (x.1 * y.2 - y.1 * x.2 < 0))])) l2 = some (.lst [.ref r7, .ref r8, .ref r9, .bl (decide (x.1 * y.2 - y.1 * x.2 < 0))]) := upd_same
    have sm10 := sm9.trans s10
    generalize (upd H9 l2 (.lst [.ref r7, .ref r8, .ref r9, .bl (decide (x.1 * y.2 - y.1 * x.2 < 0))])) = H10 at *
    have X1 := (Kt.of sm10).sqT h1
    have X2 := (Kt.of sm10).sqT h2
    have o1 : zOk (.inl (Fr.add x y)) := zf (n := 1801) (Fr.mk_ok xy (Fr.badd (Fr.bmul bx.b1 by_.b2) (Fr.bmul by_.b1 bx.b2)) (Fr.bmono (Fr.bmul bx.b2 by_.b2) (by decide))) (by decide)
    have o2 : zOk (.inl (Fr.sub x y)) := zf (n := 1801) (Fr.mk_ok xy (Fr.bsub (Fr.bmul bx.b1 by_.b2) (Fr.bmul by_.b1 bx.b2)) (Fr.bmono (Fr.bmul bx.b2 by_.b2) (by decide))) (by decide)
    have o3 : zOk (.inl (Fr.mul x y)) := zf (n := 1800) (Fr.mk_ok xy (Fr.bmul bx.b1 by_.b1) (Fr.bmul bx.b2 by_.b2)) (by decide)
    have o4 : zOk (.inl (Fr.mk x.1 y.2)) := zf (n := 900) (Fr.mk_ok yb bx.b1 by_.b2) (by decide)
    have o5 : zOk (.inl (Fr.mk x.1 (0 - x.2))) := zf (n := 900) (Fr.mk_ok (by omega) bx.b1 (by rw [Int.zero_sub, Int.natAbs_neg]; exact bx.b2)) (by decide)
    refine ⟨_, rfl, rfl, _, rfl, ?_⟩
    by_cases c0 : y.1 = 0
    · refine no (by simp [c0]) ?_
      refine ⟨_, rfl, _, rfl, _, rfl, x.1, y.2, rfl, yb, Fr.bmono by_.b2 (by decide), fun HA rA NA => ?_⟩
      refine ⟨_, rfl, _, _, rfl, rfl, _, rfl, 0 - x.1, x.2, rfl, xb, Fr.bmono bx.b2 (by decide), fun HB rB NB => ?_⟩
      refine ⟨(by show 2 ≤ sizeLine; decide), fun l3 hl3 => ?_⟩
      have sB := NA.same.trans NB.same
      have s3 := same_new (o := .lst [.ref rA, .ref rB]) hl3
      refine ⟨l2, l3, _, _, rfl, rfl, s3 _ _ (sB _ _ hl2'), upd_same, (by show 6 ≤ sizeLine; decide), fun l4 hl4 => ?_⟩
      have s4 := same_new (o := .lst ([.ref r7, .ref r8, .ref r9, .bl (decide (x.1 * y.2 - y.1 * x.2 < 0))] ++ [.ref rA, .ref rB])) hl4
      have s34 := s3.trans s4
      have UC := (((U10.new NA).new NB).kt (Kt.of s34))
      have TC := T10.kt (Kt.of (sB.trans s34))
      have tC := s34 _ _ (sB _ _ hl10)
      have smC := ((sm10.trans sB).trans s3).trans s4
      have fl4 : H l4 = none := ((sm10.trans sB).trans s3).free hl4
      have n4 : l ≠ l4 := ne_of_none (s3 _ _ (sB _ _ hl10)) hl4
      have uC : (upd (upd HB l3 (.lst [.ref rA, .ref rB])) l4 (.lst ([.ref r7, .ref r8, .ref r9, .bl (decide (x.1 * y.2 - y.1 * x.2 < 0))] ++ [.ref rA, .ref rB]))) l4 = some (.lst ([.ref r7, .ref r8, .ref r9, .bl (decide (x.1 * y.2 - y.1 * x.2 < 0))] ++ [.ref rA, .ref rB])) := upd_same
      generalize (upd (upd HB l3 (.lst [.ref rA, .ref rB])) l4 (.lst ([.ref r7, .ref r8, .ref r9, .bl (decide (x.1 * y.2 - y.1 * x.2 < 0))] ++ [.ref rA, .ref rB]))) = HC at *
      refine ⟨_, rfl, rfl, _, rfl, ?_⟩
      refine no (by simp [c0]) ?_
      obtain ⟨d1, d2, d3, d4⟩ := show_list ([.inl (Fr.add x y), .inl (Fr.sub x y), .inl (Fr.mul x y), .inr (decide (x.1 * y.2 < y.1 * x.2)), .inl (Fr.mk x.1 y.2), .inl (Fr.mk x.1 (0 - x.2))]) (by
        intro z hz
        simp only [List.mem_cons, List.not_mem_nil, or_false] at hz
        rcases hz with rfl | rfl | rfl | rfl | rfl | rfl
        · exact o1
        · exact o2
        · exact o3
        · trivial
        · exact o4
        · exact o5) (by show 6 ≤ 10; decide)
      have eZ : ([.inl (Fr.add x y), .inl (Fr.sub x y), .inl (Fr.mul x y), .inr (decide (x.1 * y.2 - y.1 * x.2 < 0)), .inl (Fr.mk x.1 y.2), .inl (Fr.mk (0 - x.1) x.2)] : List Z) = [.inl (Fr.add x y), .inl (Fr.sub x y), .inl (Fr.mul x y), .inr (decide (x.1 * y.2 < y.1 * x.2)), .inl (Fr.mk x.1 y.2), .inl (Fr.mk x.1 (0 - x.2))] := by rw [e1, mk_flip bx.pos]
      have UC2 : Hs HC [.ref r7, .ref r8, .ref r9, .bl (decide (x.1 * y.2 - y.1 * x.2 < 0)), .ref rA, .ref rB] ([.inl (Fr.add x y), .inl (Fr.sub x y), .inl (Fr.mul x y), .inr (decide (x.1 * y.2 < y.1 * x.2)), .inl (Fr.mk x.1 y.2), .inl (Fr.mk x.1 (0 - x.2))]) := by
        rw [← eZ]
        exact UC
      refine ⟨_, rfl, l, .list (([.inl (Fr.add x y), .inl (Fr.sub x y), .inl (Fr.mul x y), .inr (decide (x.1 * y.2 < y.1 * x.2)), .inl (Fr.mk x.1 y.2), .inl (Fr.mk x.1 (0 - x.2))] : List Z).map zD), rfl, .lst (SqL.of tC) TC.dp, d1, d2, d3, d4, ?_⟩
      refine ⟨_, rfl, l4, .list (([.inl (Fr.add x y), .inl (Fr.sub x y), .inl (Fr.mul x y), .inr (decide (x.1 * y.2 < y.1 * x.2)), .inl (Fr.mk x.1 y.2), .inl (Fr.mk x.1 (0 - x.2))] : List Z).map zD), rfl, .lst (SqL.of uC) UC2.dp, d1, d2, d3, d4, rfl, ?_⟩
      rw [decide_eq_true rfl]
      exact k _ smC
    · refine yes (by simp [c0]) ?_
      refine ⟨_, rfl, .inl ⟨rfl, _, SqL.of hl10⟩, _, rfl, _, rfl, p, q, x, y, rfl, X1, X2, bx, by_, c0, fun HP rP NP => ?_⟩
      have tP := NP.same _ _ hl10
      refine ⟨l, _, _, rfl, rfl, tP, (by show 6 < sizeLine; decide), ?_⟩
      have kP := Kt.put (o := .lst ([.ref r1, .ref r2, .ref r3, .bl (decide (x.1 * y.2 < y.1 * x.2)), .ref r4, .ref r5] ++ [.ref rP])) tP
      have TP := (T10.new NP).kt kP
      have UP := U10.kt ((Kt.of NP.same).trans kP)
      have uP : (upd HP l (.lst ([.ref r1, .ref r2, .ref r3, .bl (decide (x.1 * y.2 < y.1 * x.2)), .ref r4, .ref r5] ++ [.ref rP]))) l2 = some (.lst [.ref r7, .ref r8, .ref r9, .bl (decide (x.1 * y.2 - y.1 * x.2 < 0))]) := by
        rw [upd_ne nl.symm]
        exact NP.same _ _ hl2'
      have tQ : (upd HP l (.lst ([.ref r1, .ref r2, .ref r3, .bl (decide (x.1 * y.2 < y.1 * x.2)), .ref r4, .ref r5] ++ [.ref rP]))) l = some (.lst ([.ref r1, .ref r2, .ref r3, .bl (decide (x.1 * y.2 < y.1 * x.2)), .ref r4, .ref r5] ++ [.ref rP])) := upd_same
      have smP : Same H (upd HP l (.lst ([.ref r1, .ref r2, .ref r3, .bl (decide (x.1 * y.2 < y.1 * x.2)), .ref r4, .ref r5] ++ [.ref rP]))) := fun b o e => by
        rw [upd_ne (ne_of_none e fl)]
        exact NP.same _ _ (sm10 _ _ e)
      generalize (upd HP l (.lst ([.ref r1, .ref r2, .ref r3, .bl (decide (x.1 * y.2 < y.1 * x.2)), .ref r4, .ref r5] ++ [.ref rP]))) = HQ at *
      refine ⟨_, rfl, _, rfl, _, rfl, x.1, y.2, rfl, yb, Fr.bmono by_.b2 (by decide), fun HA rA NA => ?_⟩
      refine ⟨_, rfl, _, _, rfl, rfl, _, rfl, 0 - x.1, x.2, rfl, xb, Fr.bmono bx.b2 (by decide), fun HB rB NB => ?_⟩
      refine ⟨(by show 2 ≤ sizeLine; decide), fun l3 hl3 => ?_⟩
      have sB := NA.same.trans NB.same
      have s3 := same_new (o := .lst [.ref rA, .ref rB]) hl3
      refine ⟨l2, l3, _, _, rfl, rfl, s3 _ _ (sB _ _ uP), upd_same, (by show 6 ≤ sizeLine; decide), fun l4 hl4 => ?_⟩
      have s4 := same_new (o := .lst ([.ref r7, .ref r8, .ref r9, .bl (decide (x.1 * y.2 - y.1 * x.2 < 0))] ++ [.ref rA, .ref rB])) hl4
      have s34 := s3.trans s4
      have UC := (((UP.new NA).new NB).kt (Kt.of s34))
      have TC := TP.kt (Kt.of (sB.trans s34))
      have tC := s34 _ _ (sB _ _ tQ)
      have smC := ((smP.trans sB).trans s3).trans s4
      have fl4 : H l4 = none := ((smP.trans sB).trans s3).free hl4
      have n4 : l ≠ l4 := ne_of_none (s3 _ _ (sB _ _ tQ)) hl4
      have uC : (upd (upd HB l3 (.lst [.ref rA, .ref rB])) l4 (.lst ([.ref r7, .ref r8, .ref r9, .bl (decide (x.1 * y.2 - y.1 * x.2 < 0))] ++ [.ref rA, .ref rB]))) l4 = some (.lst ([.ref r7, .ref r8, .ref r9, .bl (decide (x.1 * y.2 - y.1 * x.2 < 0))] ++ [.ref rA, .ref rB])) := upd_same
      generalize (upd (upd HB l3 (.lst [.ref rA, .ref rB])) l4 (.lst ([.ref r7, .ref r8, .ref r9, .bl (decide (x.1 * y.2 - y.1 * x.2 < 0))] ++ [.ref rA, .ref rB]))) = HC at *
      refine ⟨_, rfl, rfl, _, rfl, ?_⟩
      refine yes (by simp [c0]) ?_
      refine ⟨_, rfl, .inl ⟨rfl, _, SqL.of uC⟩, _, rfl, _, rfl, _, _, rfl, rfl, mw bx.b1 by_.b2, _, rfl, _, rfl, _, _, rfl, rfl, mw bx.b1 by_.b2, _, _, rfl, rfl, (by show 2 ≤ sizeLine; decide), fun l5 hl5 => ?_⟩
      refine ⟨_, rfl, _, _, rfl, rfl, .inr ⟨_, rfl, _, _, _, _, rfl, rfl, SqL.of upd_same, one_list, ?_⟩⟩
      have yab : (if y.1 < 0 then -y.1 else y.1).natAbs < 2 ^ 900 := by
        have := by_.b1
        split
        · rw [Int.natAbs_neg]
          exact this
        · exact this
      have yab0 : (if y.1 < 0 then -y.1 else y.1) ≠ 0 := by
        split <;> omega
      refine ⟨_, rfl, _, rfl, _, rfl, _, _, rfl, rfl, mw bx.b2 yab, _, _, rfl, Int.mul_ne_zero xb yab0, b_mul bx.b2 yab, fun HD rD ND => ?_⟩
      have s5 := same_new (o := .lst [.int (x.1 * y.2), .int (0 - x.1 * y.2)]) hl5
      have s5D := s5.trans ND.same
      have uD := s5D _ _ uC
      refine ⟨l4, _, _, rfl, rfl, uD, (by show 6 < sizeLine; decide), ?_⟩
      have kD := Kt.put (o := .lst (([.ref r7, .ref r8, .ref r9, .bl (decide (x.1 * y.2 - y.1 * x.2 < 0))] ++ [.ref rA, .ref rB]) ++ [.ref rD])) uD
      have UD := ((UC.kt (Kt.of s5)).new ND).kt kD
      have TD := TC.kt ((Kt.of s5D).trans kD)
      have uE : (upd HD l4 (.lst (([.ref r7, .ref r8, .ref r9, .bl (decide (x.1 * y.2 - y.1 * x.2 < 0))] ++ [.ref rA, .ref rB]) ++ [.ref rD]))) l4 = some (.lst (([.ref r7, .ref r8, .ref r9, .bl (decide (x.1 * y.2 - y.1 * x.2 < 0))] ++ [.ref rA, .ref rB]) ++ [.ref rD])) := upd_same
      have tE : (upd HD l4 (.lst (([.ref r7, .ref r8, .ref r9, .bl (decide (x.1 * y.2 - y.1 * x.2 < 0))] ++ [.ref rA, .ref rB]) ++ [.ref rD]))) l = some (.lst ([.ref r1, .ref r2, .ref r3, .bl (decide (x.1 * y.2 < y.1 * x.2)), .ref r4, .ref r5] ++ [.ref rP])) := by
        rw [upd_ne n4]
        exact s5D _ _ tC
      have smE : Same H (upd HD l4 (.lst (([.ref r7, .ref r8, .ref r9, .bl (decide (x.1 * y.2 - y.1 * x.2 < 0))] ++ [.ref rA, .ref rB]) ++ [.ref rD]))) := fun b o e => by
        rw [upd_ne (ne_of_none e fl4)]
        exact s5D _ _ (smC _ _ e)
      generalize (upd HD l4 (.lst (([.ref r7, .ref r8, .ref r9, .bl (decide (x.1 * y.2 - y.1 * x.2 < 0))] ++ [.ref rA, .ref rB]) ++ [.ref rD]))) = HE at *
      have o6 : zOk (.inl (Fr.div x y)) := zf (n := 1800) (Fr.mk_ok (Int.mul_ne_zero xb c0) (Fr.bmul bx.b1 by_.b2) (Fr.bmul bx.b2 by_.b1)) (by decide)
      obtain ⟨d1, d2, d3, d4⟩ := show_list ([.inl (Fr.add x y), .inl (Fr.sub x y), .inl (Fr.mul x y), .inr (decide (x.1 * y.2 < y.1 * x.2)), .inl (Fr.mk x.1 y.2), .inl (Fr.mk x.1 (0 - x.2)), .inl (Fr.div x y)]) (by
        intro z hz
        simp only [List.mem_cons, List.not_mem_nil, or_false] at hz
        rcases hz with rfl | rfl | rfl | rfl | rfl | rfl | rfl
        · exact o1
        · exact o2
        · exact o3
        · trivial
        · exact o4
        · exact o5
        · exact o6) (by show 7 ≤ 10; decide)
      have eZ : ([.inl (Fr.add x y), .inl (Fr.sub x y), .inl (Fr.mul x y), .inr (decide (x.1 * y.2 - y.1 * x.2 < 0)), .inl (Fr.mk x.1 y.2), .inl (Fr.mk (0 - x.1) x.2), .inl (Fr.mk (if y.1 < 0 then 0 - x.1 * y.2 else x.1 * y.2) (x.2 * (if y.1 < 0 then -y.1 else y.1)))] : List Z) = [.inl (Fr.add x y), .inl (Fr.sub x y), .inl (Fr.mul x y), .inr (decide (x.1 * y.2 < y.1 * x.2)), .inl (Fr.mk x.1 y.2), .inl (Fr.mk x.1 (0 - x.2)), .inl (Fr.div x y)] := by
        have e2 : Fr.div x y = Fr.mk (if y.1 < 0 then 0 - x.1 * y.2 else x.1 * y.2) (x.2 * (if y.1 < 0 then -y.1 else y.1)) := mk_part bx.pos c0
        rw [e1, mk_flip bx.pos, e2]
      have UE2 : Hs HE [.ref r7, .ref r8, .ref r9, .bl (decide (x.1 * y.2 - y.1 * x.2 < 0)), .ref rA, .ref rB, .ref rD] ([.inl (Fr.add x y), .inl (Fr.sub x y), .inl (Fr.mul x y), .inr (decide (x.1 * y.2 < y.1 * x.2)), .inl (Fr.mk x.1 y.2), .inl (Fr.mk x.1 (0 - x.2)), .inl (Fr.div x y)]) := by
        rw [← eZ]
        exact UD
      refine ⟨_, rfl, l, .list (([.inl (Fr.add x y), .inl (Fr.sub x y), .inl (Fr.mul x y), .inr (decide (x.1 * y.2 < y.1 * x.2)), .inl (Fr.mk x.1 y.2), .inl (Fr.mk x.1 (0 - x.2)), .inl (Fr.div x y)] : List Z).map zD), rfl, .lst (SqL.of tE) TD.dp, d1, d2, d3, d4, ?_⟩
      refine ⟨_, rfl, l4, .list (([.inl (Fr.add x y), .inl (Fr.sub x y), .inl (Fr.mul x y), .inr (decide (x.1 * y.2 < y.1 * x.2)), .inl (Fr.mk x.1 y.2), .inl (Fr.mk x.1 (0 - x.2)), .inl (Fr.div x y)] : List Z).map zD), rfl, .lst (SqL.of uE) UE2.dp, d1, d2, d3, d4, rfl, ?_⟩
      rw [decide_eq_true rfl]
      exact k _ smE
end
end K

namespace K
open PySem PySem.Spec PyProof.Rows L2 G
theorem bd_of {n : Nat} {x : Int × Int} (h : Fr.Ok n x) (hn : n ≤ 900) : Bd x := ⟨h.pos, Fr.bmono h.b1 hn, Fr.bmono h.b2 hn⟩
theorem dpF {K : PySem.W.Frag} {H : Hp} {p : Addr} {x : Int × Int} (h : SqT K H p (tf x)) : Dp K H (.ref p) (zD (.inl x)) := .tup h (.cons (.int _) (.cons (.int _) .nil))
theorem shapedF (x : Int × Int) : SeqAt.shaped (zD (.inl x)) = true := by
  simp [SeqAt.shaped, zD, PyData.canLay0, PyData.canLayAll0, PyData.depth, PyData.depthAll]
theorem eqvF (x y : Int × Int) : PyData.eqv (zD (.inl x)) (zD (.inl y)) = decide (x = y) := by
  simp only [zD, PyData.eqv, PyData.eqvAll, Bool.and_true]
  rw [Bool.eq_iff_iff, Bool.and_eq_true, beq_iff_eq, beq_iff_eq, decide_eq_true_iff]
  exact ⟨fun ⟨h1, h2⟩ => Prod.ext h1 h2, fun h => ⟨congrArg Prod.fst h, congrArg Prod.snd h⟩⟩
theorem same_no {x y : Int × Int} (h : x = y) : (!PyData.eqv (zD (.inl x)) (zD (.inl y))) = false := by
  rw [eqvF, decide_eq_true h]
  rfl
section
variable {n m l : Nat} {x y z : Int × Int}
theorem id1 (hx : Fr.Ok n x) (hy : Fr.Ok m y) (hz : Fr.Ok l z) : Fr.add (Fr.add x y) z = Fr.add x (Fr.add z y) := by
  refine ((hx.is.add hy.is).add hz.is).same (hx.is.add (hz.is.add hy.is)) ?_
  generalize x.1 = a; generalize x.2 = b; generalize y.1 = c; generalize y.2 = d; generalize z.1 = e; generalize z.2 = f
  simp only [Int.add_mul, Int.mul_add]
  ac_rfl
theorem id2 (hx : Fr.Ok n x) (hy : Fr.Ok m y) (hz : Fr.Ok l z) : Fr.mul (Fr.mul x y) z = Fr.mul x (Fr.mul z y) := by
  refine ((hx.is.mul hy.is).mul hz.is).same (hx.is.mul (hz.is.mul hy.is)) ?_
  ac_rfl
theorem id3 (hx : Fr.Ok n x) (hy : Fr.Ok m y) (hz : Fr.Ok l z) : Fr.mul x (Fr.sub y z) = Fr.sub (Fr.mul x y) (Fr.mul x z) := by
  refine (hx.is.mul (hy.is.sub hz.is)).same ((hx.is.mul hy.is).sub (hx.is.mul hz.is)) ?_
  generalize x.1 = a; generalize x.2 = b; generalize y.1 = c; generalize y.2 = d; generalize z.1 = e; generalize z.2 = f
  simp only [Int.sub_mul, Int.mul_sub]
  have e1 : a * (c * f) * (b * d * (b * f)) = a * c * (b * f) * (b * (d * f)) := by ac_rfl
  have e2 : a * (e * d) * (b * d * (b * f)) = a * e * (b * d) * (b * (d * f)) := by ac_rfl
  rw [e1, e2]
theorem id4 (hx : Fr.Ok n x) (hy : Fr.Ok m y) : Fr.add (Fr.sub x y) y = x := by
  refine ((hx.is.sub hy.is).add hy.is).same hx.is ?_
  generalize x.1 = a; generalize x.2 = b; generalize y.1 = c; generalize y.2 = d
  simp only [Int.sub_mul, Int.add_mul, Int.mul_sub, Int.mul_add]
  have e1 : c * b * d * b = c * (b * d) * b := by ac_rfl
  have e2 : a * d * d * b = a * (b * d * d) := by ac_rfl
  rw [e1, e2]
  omega
theorem id5 (hx : Fr.Ok n x) (hy : Fr.Ok m y) (h0 : y.1 ≠ 0) : Fr.mul (Fr.div x y) y = x := by
  refine ((hx.is.div hy.is h0).mul hy.is).same hx.is ?_
  ac_rfl
theorem id6 (hy : Fr.Ok m y) (h0 : y.1 ≠ 0) : Fr.div y y = (1, 1) := by
  have h1 : Fr.Is ((1, 1) : Int × Int) 1 1 := ⟨by decide, by decide⟩
  refine (hy.is.div hy.is h0).same h1 ?_
  ac_rfl
theorem tri_one (bx : Bd x) (by_ : Bd y) (hx : Fr.Ok n x) (hy : Fr.Ok m y) : [decide (x.1 * y.2 < y.1 * x.2), decide (y.1 * x.2 < x.1 * y.2), PyData.eqv (zD (.inl x)) (zD (.inl y))].count true = 1 := by
  rw [eqvF]
  by_cases e : x = y
  · subst e
    rw [decide_eq_false (Int.lt_irrefl _), decide_eq_true rfl]
    rfl
  · have ne : x.1 * y.2 ≠ y.1 * x.2 := fun h => e (Fr.uniq hx.pos hy.pos hx.cop hy.cop h)
    rw [decide_eq_false e]
    by_cases h : x.1 * y.2 < y.1 * x.2
    · rw [decide_eq_true h, decide_eq_false (by omega)]
      rfl
    · rw [decide_eq_false h, decide_eq_true (by omega)]
      rfl
end
section
variable {X : Cx}
def rCntB (K : PySem.W.Frag) : V → List V → Hp → VK → Prop := fun x xs H Q => ∃ (p : Addr) (bs : List Bool), x = .ref p ∧ xs = [.bl true] ∧ SqL K H p (bs.map V.bl) ∧ Q (.int (bs.count true : Nat)) H
theorem vals_bools : ∀ {bs : List Bool} {us : List Value}, Vals (bs.map V.bl) us → us = bs.map Value.bool
  | [], _, .nil => rfl
  | b :: bs, _, .cons h r => by
    cases h
    rw [vals_bools r]
    rfl
def isT : Value → Bool
  | .bool b => b
  | _ => false
theorem count_bools : ∀ bs : List Bool, (bs.map Value.bool).countP isT = bs.count true
  | [] => rfl
  | b :: bs => by
    rw [List.map_cons, List.countP_cons, List.count_cons, count_bools bs]
    cases b <;> rfl
theorem mt_cntB : MtR X "list.count" (rCntB X.K) := by
  intro pins s σ H x xs v us Q I rx rxs h
  obtain ⟨p, bs, rfl, rfl, hs, q⟩ := h
  cases rx
  obtain ⟨u, rfl, ru⟩ := rxs.one
  cases ru
  obtain ⟨its, rv, ⟨⟨cls, dd, data, sl⟩, n, ho, hc, hdn, hd⟩, hlen⟩ := I.list hs
  obtain rfl := vals_bools rv
  simp only at hc hd
  subst hc hd
  refine call_meets PySem.F.slot_list_count ⟨_, ho, rfl⟩ PySem.F.entry_list_count (PySem.F.args_list_count_2 _ _) (SeqAt.list_countAt p (bs.map Value.bool).toArray n dd sl (.bool true) isT) ⟨ho, ?_, ?_⟩
  · intro y hy
    have hy2 : y ∈ bs.map Value.bool := by simpa using hy
    obtain ⟨b, _, rfl⟩ := List.mem_map.mp hy2
    have z := SeqAt.EqAt.bool_bool (A := X.A.in1) (s := s) b true
    have e : (b == true) = isT (.bool b) := by cases b <;> rfl
    rw [e] at z
    exact z
  · refine ⟨.int (bs.count true : Nat), H, I.tok _, ⟨s.toks, ?_⟩, q⟩
    show Value.int (((bs.map Value.bool).toArray.toList.countP isT : Nat) : Int) s.toks = Value.int ((bs.count true : Nat) : Int) s.toks
    rw [show (bs.map Value.bool).toArray.toList = bs.map Value.bool from rfl, count_bools]
end
section
variable {P : Program} {w : World} {K : PySem.W.Frag} {mg : Str → Option Value} {base : Heap}
theorem scThrees : FnScope ["_law_a", "_law_b", "_law_c"] ["_law_a", "_law_b", "_law_c"] (defScope sThrees) := ⟨rfl, rfl, rfl, by decide +kernel, rfl, by decide +kernel, by decide +kernel⟩
def spThrees (K : PySem.W.Frag) : Sp := fun vs H Q _ => ∃ (pa pb pc : Addr) (x y z : Int × Int), vs = [.ref pa, .ref pb, .ref pc] ∧ SqT K H pa (tf x) ∧ SqT K H pb (tf y) ∧ SqT K H pc (tf z) ∧ Fr.Ok 20 x ∧ Fr.Ok 20 y ∧ Fr.Ok 20 z ∧ ∀ H', Same H H' → Q (.bl true) H'
theorem ok_threes {f fR fA fL fT fP fB fM : Addr} {fd dR dA dL dT dP dB dM : FuncData} (F : Fun K "_law_threes_right" "_law_threes_right" sThrees f fd) (D : Defs P w K mg base fR fA fL fT fP fB fM dR dA dL dT dP dB dM) : FnOk P w K mg base CX0 4 f fd ["_law_a", "_law_b", "_law_c"] (spThrees K) := by
  refine F.ok scThrees (fun vs H Q E h => ?_) (fun cdv A outer s0 H vs Q E hr h => ?_)
  · obtain ⟨pa, pb, pc, x, y, z, rfl, _⟩ := h
    rfl
  · obtain ⟨pa, pb, pc, x, y, z, rfl, Spa, Spb, Spc, ox, oy, oz, k⟩ := h
    have hr2 : Room 2 _ := hr.mono (by decide)
    have hr1 : Room 1 _ := hr.mono (by decide)
    refine ⟨_, (pss_cons (ps_if (PW.pt (pw_or (pt_cmpR (op_neD hr.units) (pe_call D.A.G hr (by rfl) D.A.g D.A.k D.A.b .nil pass0 (pa_cons (pe_call D.A.G hr (by rfl) D.A.g D.A.k D.A.b .nil pass0 (pa_cons (pv 0) (pa_cons (pv 1) pa_nil))) (pa_cons (pv 2) pa_nil))) (pe_call D.A.G hr (by rfl) D.A.g D.A.k D.A.b .nil pass0 (pa_cons (pv 0) (pa_cons (pe_call D.A.G hr (by rfl) D.A.g D.A.k D.A.b .nil pass0 (pa_cons (pv 2) (pa_cons (pv 1) pa_nil))) pa_nil))) (nomark _)) (pw_or1 (pt_cmpR (op_neD hr.units) (pe_call D.T.G hr (by rfl) D.T.g D.T.k D.T.b .nil pass0 (pa_cons (pe_call D.T.G hr (by rfl) D.T.g D.T.k D.T.b .nil pass0 (pa_cons (pv 0) (pa_cons (pv 1) pa_nil))) (pa_cons (pv 2) pa_nil))) (pe_call D.T.G hr (by rfl) D.T.g D.T.k D.T.b .nil pass0 (pa_cons (pv 0) (pa_cons (pe_call D.T.G hr (by rfl) D.T.g D.T.k D.T.b .nil pass0 (pa_cons (pv 2) (pa_cons (pv 1) pa_nil))) pa_nil))) (nomark _))))) (pss_one (ps_ret pe_bl)) pss_nil)
      (pss_cons (ps_if (PW.pt (pw_or (pt_cmpR (op_neD hr.units) (pe_call D.T.G hr (by rfl) D.T.g D.T.k D.T.b .nil pass0 (pa_cons (pv 0) (pa_cons (pe_call D.L.G hr (by rfl) D.L.g D.L.k D.L.b .nil pass0 (pa_cons (pv 1) (pa_cons (pv 2) pa_nil))) pa_nil))) (pe_call D.L.G hr (by rfl) D.L.g D.L.k D.L.b .nil pass0 (pa_cons (pe_call D.T.G hr (by rfl) D.T.g D.T.k D.T.b .nil pass0 (pa_cons (pv 0) (pa_cons (pv 1) pa_nil))) (pa_cons (pe_call D.T.G hr (by rfl) D.T.g D.T.k D.T.b .nil pass0 (pa_cons (pv 0) (pa_cons (pv 2) pa_nil))) pa_nil))) (nomark _)) (pw_or1 (pt_cmpR (op_neD hr.units) (pe_call D.A.G hr (by rfl) D.A.g D.A.k D.A.b .nil pass0 (pa_cons (pe_call D.L.G hr (by rfl) D.L.g D.L.k D.L.b .nil pass0 (pa_cons (pv 0) (pa_cons (pv 1) pa_nil))) (pa_cons (pv 1) pa_nil))) (pv 0) (nomark _))))) (pss_one (ps_ret pe_bl)) pss_nil)
      (pss_cons (ps_if (PW.pt (pw_and (pt_cmpR op_ne (pe_ix ix_tup (pv 1) pe_int (fun _ _ => rfl)) pe_int (nomark _)) (pw_and1 (PW.pt (pw_or (pt_cmpR (op_neD hr.units) (pe_call D.T.G hr (by rfl) D.T.g D.T.k D.T.b .nil pass0 (pa_cons (pe_call D.Q.G hr (by rfl) D.Q.g D.Q.k D.Q.b .nil pass0 (pa_cons (pv 0) (pa_cons (pv 1) pa_nil))) (pa_cons (pv 1) pa_nil))) (pv 0) (nomark _)) (pw_or1 (pt_cmpR (op_neD hr.units) (pe_call D.Q.G hr (by rfl) D.Q.g D.Q.k D.Q.b .nil pass0 (pa_cons (pv 1) (pa_cons (pv 1) pa_nil))) (pe_tup (pa_cons pe_int (pa_cons pe_int pa_nil))) (nomark _)))))))) (pss_one (ps_ret pe_bl)) pss_nil)
      (pss_one (ps_ret (pe_cmpR op_eq (pe_bm PySem.F.plainAttrs_list PySem.F.slot_list_count PySem.F.type_list_count mt_cntB (pe_lst (pa_cons (pe_call D.B.G hr1 (by rfl) D.B.g D.B.k D.B.b .nil pass0 (pa_cons (pv 0) (pa_cons (pv 1) pa_nil))) (pa_cons (pe_call D.B.G hr1 (by rfl) D.B.g D.B.k D.B.b .nil pass0 (pa_cons (pv 1) (pa_cons (pv 0) pa_nil))) (pa_cons (pe_cmpR (op_eqD hr.units) (pv 0) (pv 1) (nomark _)) pa_nil)))) (pa_cons pe_bl pa_nil)) pe_int (nomark _))))))), ?_⟩
    refine ⟨_, rfl, _, rfl, pa, pb, x, y, rfl, Spa, Spb, bd_of ox (by decide), bd_of oy (by decide), fun H1 r1 N1 => ?_⟩
    have Spa := (Kt.of N1.same).sqT Spa
    have Spb := (Kt.of N1.same).sqT Spb
    have Spc := (Kt.of N1.same).sqT Spc
    have S1 : SqT K H1 r1 (tf (Fr.add x y)) := SqT.of N1.at_
    have o1 := Fr.add_ok ox oy
    refine ⟨_, rfl, r1, pc, (Fr.add x y), z, rfl, S1, Spc, bd_of o1 (by decide), bd_of oz (by decide), fun H2 r2 N2 => ?_⟩
    have S1 := (Kt.of N2.same).sqT S1
    have Spa := (Kt.of N2.same).sqT Spa
    have Spb := (Kt.of N2.same).sqT Spb
    have Spc := (Kt.of N2.same).sqT Spc
    have S2 : SqT K H2 r2 (tf (Fr.add (Fr.add x y) z)) := SqT.of N2.at_
    have o2 := Fr.add_ok o1 oz
    refine ⟨_, rfl, _, rfl, _, rfl, pc, pb, z, y, rfl, Spc, Spb, bd_of oz (by decide), bd_of oy (by decide), fun H3 r3 N3 => ?_⟩
    have S1 := (Kt.of N3.same).sqT S1
    have S2 := (Kt.of N3.same).sqT S2
    have Spa := (Kt.of N3.same).sqT Spa
    have Spb := (Kt.of N3.same).sqT Spb
    have Spc := (Kt.of N3.same).sqT Spc
    have S3 : SqT K H3 r3 (tf (Fr.add z y)) := SqT.of N3.at_
    have o3 := Fr.add_ok oz oy
    refine ⟨pa, r3, x, (Fr.add z y), rfl, Spa, S3, bd_of ox (by decide), bd_of o3 (by decide), fun H4 r4 N4 => ?_⟩
    have S1 := (Kt.of N4.same).sqT S1
    have S2 := (Kt.of N4.same).sqT S2
    have S3 := (Kt.of N4.same).sqT S3
    have Spa := (Kt.of N4.same).sqT Spa
    have Spb := (Kt.of N4.same).sqT Spb
    have Spc := (Kt.of N4.same).sqT Spc
    have S4 : SqT K H4 r4 (tf (Fr.add x (Fr.add z y))) := SqT.of N4.at_
    have o4 := Fr.add_ok ox o3
    refine ⟨_, _, dpF S2, dpF S4, shapedF _, shapedF _, _, rfl, ?_⟩
    refine no (same_no (id1 ox oy oz : (Fr.add (Fr.add x y) z) = (Fr.add x (Fr.add z y)))) ?_
    refine ⟨_, rfl, _, rfl, pa, pb, x, y, rfl, Spa, Spb, bd_of ox (by decide), bd_of oy (by decide), fun H5 r5 N5 => ?_⟩
    have S1 := (Kt.of N5.same).sqT S1
    have S2 := (Kt.of N5.same).sqT S2
    have S3 := (Kt.of N5.same).sqT S3
    have S4 := (Kt.of N5.same).sqT S4
    have Spa := (Kt.of N5.same).sqT Spa
    have Spb := (Kt.of N5.same).sqT Spb
    have Spc := (Kt.of N5.same).sqT Spc
    have S5 : SqT K H5 r5 (tf (Fr.mul x y)) := SqT.of N5.at_
    have o5 := Fr.mul_ok ox oy
    refine ⟨_, rfl, r5, pc, (Fr.mul x y), z, rfl, S5, Spc, bd_of o5 (by decide), bd_of oz (by decide), fun H6 r6 N6 => ?_⟩
    have S1 := (Kt.of N6.same).sqT S1
    have S2 := (Kt.of N6.same).sqT S2
    have S3 := (Kt.of N6.same).sqT S3
    have S4 := (Kt.of N6.same).sqT S4
    have S5 := (Kt.of N6.same).sqT S5
    have Spa := (Kt.of N6.same).sqT Spa
    have Spb := (Kt.of N6.same).sqT Spb
    have Spc := (Kt.of N6.same).sqT Spc
    have S6 : SqT K H6 r6 (tf (Fr.mul (Fr.mul x y) z)) := SqT.of N6.at_
    have o6 := Fr.mul_ok o5 oz
    refine ⟨_, rfl, _, rfl, _, rfl, pc, pb, z, y, rfl, Spc, Spb, bd_of oz (by decide), bd_of oy (by decide), fun H7 r7 N7 => ?_⟩
    have S1 := (Kt.of N7.same).sqT S1
    have S2 := (Kt.of N7.same).sqT S2
    have S3 := (Kt.of N7.same).sqT S3
    have S4 := (Kt.of N7.same).sqT S4
    have S5 := (Kt.of N7.same).sqT S5
    have S6 := (Kt.of N7.same).sqT S6
    have Spa := (Kt.of N7.same).sqT Spa
    have Spb := (Kt.of N7.same).sqT Spb
    have Spc := (Kt.of N7.same).sqT Spc
    have S7 : SqT K H7 r7 (tf (Fr.mul z y)) := SqT.of N7.at_
    have o7 := Fr.mul_ok oz oy
    refine ⟨pa, r7, x, (Fr.mul z y), rfl, Spa, S7, bd_of ox (by decide), bd_of o7 (by decide), fun H8 r8 N8 => ?_⟩
    have S1 := (Kt.of N8.same).sqT S1
    have S2 := (Kt.of N8.same).sqT S2
    have S3 := (Kt.of N8.same).sqT S3
    have S4 := (Kt.of N8.same).sqT S4
    have S5 := (Kt.of N8.same).sqT S5
    have S6 := (Kt.of N8.same).sqT S6
    have S7 := (Kt.of N8.same).sqT S7
    have Spa := (Kt.of N8.same).sqT Spa
    have Spb := (Kt.of N8.same).sqT Spb
    have Spc := (Kt.of N8.same).sqT Spc
    have S8 : SqT K H8 r8 (tf (Fr.mul x (Fr.mul z y))) := SqT.of N8.at_
    have o8 := Fr.mul_ok ox o7
    refine ⟨_, _, dpF S6, dpF S8, shapedF _, shapedF _, _, rfl, ?_⟩
    refine no (same_no (id2 ox oy oz : (Fr.mul (Fr.mul x y) z) = (Fr.mul x (Fr.mul z y)))) ?_
    refine ⟨_, rfl, _, rfl, _, rfl, pb, pc, y, z, rfl, Spb, Spc, bd_of oy (by decide), bd_of oz (by decide), fun H9 r9 N9 => ?_⟩
    have S1 := (Kt.of N9.same).sqT S1
    have S2 := (Kt.of N9.same).sqT S2
    have S3 := (Kt.of N9.same).sqT S3
    have S4 := (Kt.of N9.same).sqT S4
    have S5 := (Kt.of N9.same).sqT S5
    have S6 := (Kt.of N9.same).sqT S6
    have S7 := (Kt.of N9.same).sqT S7
    have S8 := (Kt.of N9.same).sqT S8
    have Spa := (Kt.of N9.same).sqT Spa
    have Spb := (Kt.of N9.same).sqT Spb
    have Spc := (Kt.of N9.same).sqT Spc
    have S9 : SqT K H9 r9 (tf (Fr.sub y z)) := SqT.of N9.at_
    have o9 := Fr.sub_ok oy oz
    refine ⟨pa, r9, x, (Fr.sub y z), rfl, Spa, S9, bd_of ox (by decide), bd_of o9 (by decide), fun H10 r10 N10 => ?_⟩
    have S1 := (Kt.of N10.same).sqT S1
    have S2 := (Kt.of N10.same).sqT S2
    have S3 := (Kt.of N10.same).sqT S3
    have S4 := (Kt.of N10.same).sqT S4
    have S5 := (Kt.of N10.same).sqT S5
    have S6 := (Kt.of N10.same).sqT S6
    have S7 := (Kt.of N10.same).sqT S7
    have S8 := (Kt.of N10.same).sqT S8
    have S9 := (Kt.of N10.same).sqT S9
    have Spa := (Kt.of N10.same).sqT Spa
    have Spb := (Kt.of N10.same).sqT Spb
    have Spc := (Kt.of N10.same).sqT Spc
    have S10 : SqT K H10 r10 (tf (Fr.mul x (Fr.sub y z))) := SqT.of N10.at_
    have o10 := Fr.mul_ok ox o9
    refine ⟨_, rfl, _, rfl, pa, pb, x, y, rfl, Spa, Spb, bd_of ox (by decide), bd_of oy (by decide), fun H11 r11 N11 => ?_⟩
    have S1 := (Kt.of N11.same).sqT S1
    have S2 := (Kt.of N11.same).sqT S2
    have S3 := (Kt.of N11.same).sqT S3
    have S4 := (Kt.of N11.same).sqT S4
    have S5 := (Kt.of N11.same).sqT S5
    have S6 := (Kt.of N11.same).sqT S6
    have S7 := (Kt.of N11.same).sqT S7
    have S8 := (Kt.of N11.same).sqT S8
    have S9 := (Kt.of N11.same).sqT S9
    have S10 := (Kt.of N11.same).sqT S10
    have Spa := (Kt.of N11.same).sqT Spa
    have Spb := (Kt.of N11.same).sqT Spb
    have Spc := (Kt.of N11.same).sqT Spc
    have S11 : SqT K H11 r11 (tf (Fr.mul x y)) := SqT.of N11.at_
    have o11 := Fr.mul_ok ox oy
    refine ⟨_, rfl, _, rfl, pa, pc, x, z, rfl, Spa, Spc, bd_of ox (by decide), bd_of oz (by decide), fun H12 r12 N12 => ?_⟩
    have S1 := (Kt.of N12.same).sqT S1
    have S2 := (Kt.of N12.same).sqT S2
    have S3 := (Kt.of N12.same).sqT S3
    have S4 := (Kt.of N12.same).sqT S4
    have S5 := (Kt.of N12.same).sqT S5
    have S6 := (Kt.of N12.same).sqT S6
    have S7 := (Kt.of N12.same).sqT S7
    have S8 := (Kt.of N12.same).sqT S8
    have S9 := (Kt.of N12.same).sqT S9
    have S10 := (Kt.of N12.same).sqT S10
    have S11 := (Kt.of N12.same).sqT S11
    have Spa := (Kt.of N12.same).sqT Spa
    have Spb := (Kt.of N12.same).sqT Spb
    have Spc := (Kt.of N12.same).sqT Spc
    have S12 : SqT K H12 r12 (tf (Fr.mul x z)) := SqT.of N12.at_
    have o12 := Fr.mul_ok ox oz
    refine ⟨r11, r12, (Fr.mul x y), (Fr.mul x z), rfl, S11, S12, bd_of o11 (by decide), bd_of o12 (by decide), fun H13 r13 N13 => ?_⟩
    have S1 := (Kt.of N13.same).sqT S1
    have S2 := (Kt.of N13.same).sqT S2
    have S3 := (Kt.of N13.same).sqT S3
    have S4 := (Kt.of N13.same).sqT S4
    have S5 := (Kt.of N13.same).sqT S5
    have S6 := (Kt.of N13.same).sqT S6
    have S7 := (Kt.of N13.same).sqT S7
    have S8 := (Kt.of N13.same).sqT S8
    have S9 := (Kt.of N13.same).sqT S9
    have S10 := (Kt.of N13.same).sqT S10
    have S11 := (Kt.of N13.same).sqT S11
    have S12 := (Kt.of N13.same).sqT S12
    have Spa := (Kt.of N13.same).sqT Spa
    have Spb := (Kt.of N13.same).sqT Spb
    have Spc := (Kt.of N13.same).sqT Spc
    have S13 : SqT K H13 r13 (tf (Fr.sub (Fr.mul x y) (Fr.mul x z))) := SqT.of N13.at_
    have o13 := Fr.sub_ok o11 o12
    refine ⟨_, _, dpF S10, dpF S13, shapedF _, shapedF _, _, rfl, ?_⟩
    refine no (same_no (id3 ox oy oz : (Fr.mul x (Fr.sub y z)) = (Fr.sub (Fr.mul x y) (Fr.mul x z)))) ?_
    refine ⟨_, rfl, _, rfl, pa, pb, x, y, rfl, Spa, Spb, bd_of ox (by decide), bd_of oy (by decide), fun H14 r14 N14 => ?_⟩
    have S1 := (Kt.of N14.same).sqT S1
    have S2 := (Kt.of N14.same).sqT S2
    have S3 := (Kt.of N14.same).sqT S3
    have S4 := (Kt.of N14.same).sqT S4
    have S5 := (Kt.of N14.same).sqT S5
    have S6 := (Kt.of N14.same).sqT S6
    have S7 := (Kt.of N14.same).sqT S7
    have S8 := (Kt.of N14.same).sqT S8
    have S9 := (Kt.of N14.same).sqT S9
    have S10 := (Kt.of N14.same).sqT S10
    have S11 := (Kt.of N14.same).sqT S11
    have S12 := (Kt.of N14.same).sqT S12
    have S13 := (Kt.of N14.same).sqT S13
    have Spa := (Kt.of N14.same).sqT Spa
    have Spb := (Kt.of N14.same).sqT Spb
    have Spc := (Kt.of N14.same).sqT Spc
    have S14 : SqT K H14 r14 (tf (Fr.sub x y)) := SqT.of N14.at_
    have o14 := Fr.sub_ok ox oy
    refine ⟨_, rfl, r14, pb, (Fr.sub x y), y, rfl, S14, Spb, bd_of o14 (by decide), bd_of oy (by decide), fun H15 r15 N15 => ?_⟩
    have S1 := (Kt.of N15.same).sqT S1
    have S2 := (Kt.of N15.same).sqT S2
    have S3 := (Kt.of N15.same).sqT S3
    have S4 := (Kt.of N15.same).sqT S4
    have S5 := (Kt.of N15.same).sqT S5
    have S6 := (Kt.of N15.same).sqT S6
    have S7 := (Kt.of N15.same).sqT S7
    have S8 := (Kt.of N15.same).sqT S8
    have S9 := (Kt.of N15.same).sqT S9
    have S10 := (Kt.of N15.same).sqT S10
    have S11 := (Kt.of N15.same).sqT S11
    have S12 := (Kt.of N15.same).sqT S12
    have S13 := (Kt.of N15.same).sqT S13
    have S14 := (Kt.of N15.same).sqT S14
    have Spa := (Kt.of N15.same).sqT Spa
    have Spb := (Kt.of N15.same).sqT Spb
    have Spc := (Kt.of N15.same).sqT Spc
    have S15 : SqT K H15 r15 (tf (Fr.add (Fr.sub x y) y)) := SqT.of N15.at_
    have o15 := Fr.add_ok o14 oy
    refine ⟨_, rfl, _, _, dpF S15, dpF Spa, shapedF _, shapedF _, _, rfl, ?_⟩
    refine no (same_no (id4 ox oy : (Fr.add (Fr.sub x y) y) = x)) ?_
    refine ⟨_, rfl, _, _, _, _, rfl, rfl, Spb, atI_nat (j := 0) rfl, rfl, _, rfl, ?_⟩
    by_cases y0 : y.1 = 0
    · refine no (by simp [y0]) ?_
      refine ⟨_, rfl, _, rfl, pa, pb, x, y, rfl, Spa, Spb, bd_of ox (by decide), bd_of oy (by decide), _, rfl, _, rfl, pb, pa, y, x, rfl, Spb, Spa, bd_of oy (by decide), bd_of ox (by decide), _, rfl, _, rfl, _, _, dpF Spa, dpF Spb, shapedF _, shapedF _, (by show 3 ≤ sizeLine; decide), fun l hl => ?_⟩
      refine ⟨.inl ⟨rfl, _, SqL.of upd_same⟩, l, [decide (x.1 * y.2 < y.1 * x.2), decide (y.1 * x.2 < x.1 * y.2), PyData.eqv (zD (.inl x)) (zD (.inl y))], rfl, rfl, SqL.of upd_same, rfl, ?_⟩
      have tri := tri_one (bd_of ox (by decide)) (bd_of oy (by decide)) ox oy
      have ed : decide (V.int (([decide (x.1 * y.2 < y.1 * x.2), decide (y.1 * x.2 < x.1 * y.2), PyData.eqv (zD (.inl x)) (zD (.inl y))].count true : Nat) : Int) = V.int 1) = true := decide_eq_true (by rw [tri]; rfl)
      rw [ed]
      exact k _ (((((((((((((((((Same.refl H).trans N1.same).trans N2.same).trans N3.same).trans N4.same).trans N5.same).trans N6.same).trans N7.same).trans N8.same).trans N9.same).trans N10.same).trans N11.same).trans N12.same).trans N13.same).trans N14.same).trans N15.same).trans (same_new hl))
    · refine yes (by simp [y0]) ?_
      refine ⟨_, rfl, _, rfl, pa, pb, x, y, rfl, Spa, Spb, bd_of ox (by decide), bd_of oy (by decide), y0, fun H16 r16 N16 => ?_⟩
      have S1 := (Kt.of N16.same).sqT S1
      have S2 := (Kt.of N16.same).sqT S2
      have S3 := (Kt.of N16.same).sqT S3
      have S4 := (Kt.of N16.same).sqT S4
      have S5 := (Kt.of N16.same).sqT S5
      have S6 := (Kt.of N16.same).sqT S6
      have S7 := (Kt.of N16.same).sqT S7
      have S8 := (Kt.of N16.same).sqT S8
      have S9 := (Kt.of N16.same).sqT S9
      have S10 := (Kt.of N16.same).sqT S10
      have S11 := (Kt.of N16.same).sqT S11
      have S12 := (Kt.of N16.same).sqT S12
      have S13 := (Kt.of N16.same).sqT S13
      have S14 := (Kt.of N16.same).sqT S14
      have S15 := (Kt.of N16.same).sqT S15
      have Spa := (Kt.of N16.same).sqT Spa
      have Spb := (Kt.of N16.same).sqT Spb
      have Spc := (Kt.of N16.same).sqT Spc
      have S16 : SqT K H16 r16 (tf (Fr.div x y)) := SqT.of N16.at_
      have o16 := Fr.div_ok ox oy y0
      refine ⟨_, rfl, r16, pb, (Fr.div x y), y, rfl, S16, Spb, bd_of o16 (by decide), bd_of oy (by decide), fun H17 r17 N17 => ?_⟩
      have S1 := (Kt.of N17.same).sqT S1
      have S2 := (Kt.of N17.same).sqT S2
      have S3 := (Kt.of N17.same).sqT S3
      have S4 := (Kt.of N17.same).sqT S4
      have S5 := (Kt.of N17.same).sqT S5
      have S6 := (Kt.of N17.same).sqT S6
      have S7 := (Kt.of N17.same).sqT S7
      have S8 := (Kt.of N17.same).sqT S8
      have S9 := (Kt.of N17.same).sqT S9
      have S10 := (Kt.of N17.same).sqT S10
      have S11 := (Kt.of N17.same).sqT S11
      have S12 := (Kt.of N17.same).sqT S12
      have S13 := (Kt.of N17.same).sqT S13
      have S14 := (Kt.of N17.same).sqT S14
      have S15 := (Kt.of N17.same).sqT S15
      have S16 := (Kt.of N17.same).sqT S16
      have Spa := (Kt.of N17.same).sqT Spa
      have Spb := (Kt.of N17.same).sqT Spb
      have Spc := (Kt.of N17.same).sqT Spc
      have S17 : SqT K H17 r17 (tf (Fr.mul (Fr.div x y) y)) := SqT.of N17.at_
      have o17 := Fr.mul_ok o16 oy
      refine ⟨_, rfl, _, _, dpF S17, dpF Spa, shapedF _, shapedF _, _, rfl, ?_⟩
      refine no (same_no (id5 ox oy y0 : (Fr.mul (Fr.div x y) y) = x)) ?_
      refine ⟨_, rfl, _, rfl, pb, pb, y, y, rfl, Spb, Spb, bd_of oy (by decide), bd_of oy (by decide), y0, fun H18 r18 N18 => ?_⟩
      have S1 := (Kt.of N18.same).sqT S1
      have S2 := (Kt.of N18.same).sqT S2
      have S3 := (Kt.of N18.same).sqT S3
      have S4 := (Kt.of N18.same).sqT S4
      have S5 := (Kt.of N18.same).sqT S5
      have S6 := (Kt.of N18.same).sqT S6
      have S7 := (Kt.of N18.same).sqT S7
      have S8 := (Kt.of N18.same).sqT S8
      have S9 := (Kt.of N18.same).sqT S9
      have S10 := (Kt.of N18.same).sqT S10
      have S11 := (Kt.of N18.same).sqT S11
      have S12 := (Kt.of N18.same).sqT S12
      have S13 := (Kt.of N18.same).sqT S13
      have S14 := (Kt.of N18.same).sqT S14
      have S15 := (Kt.of N18.same).sqT S15
      have S16 := (Kt.of N18.same).sqT S16
      have S17 := (Kt.of N18.same).sqT S17
      have Spa := (Kt.of N18.same).sqT Spa
      have Spb := (Kt.of N18.same).sqT Spb
      have Spc := (Kt.of N18.same).sqT Spc
      have S18 : SqT K H18 r18 (tf (Fr.div y y)) := SqT.of N18.at_
      have o18 := Fr.div_ok oy oy y0
      refine ⟨(by show 2 ≤ sizeLine; decide), fun t1 ht1 => ?_⟩
      have s1 := same_new (o := .tup [.int 1, .int 1]) ht1
      have S1 := (Kt.of s1).sqT S1
      have S2 := (Kt.of s1).sqT S2
      have S3 := (Kt.of s1).sqT S3
      have S4 := (Kt.of s1).sqT S4
      have S5 := (Kt.of s1).sqT S5
      have S6 := (Kt.of s1).sqT S6
      have S7 := (Kt.of s1).sqT S7
      have S8 := (Kt.of s1).sqT S8
      have S9 := (Kt.of s1).sqT S9
      have S10 := (Kt.of s1).sqT S10
      have S11 := (Kt.of s1).sqT S11
      have S12 := (Kt.of s1).sqT S12
      have S13 := (Kt.of s1).sqT S13
      have S14 := (Kt.of s1).sqT S14
      have S15 := (Kt.of s1).sqT S15
      have S16 := (Kt.of s1).sqT S16
      have S17 := (Kt.of s1).sqT S17
      have S18 := (Kt.of s1).sqT S18
      have Spa := (Kt.of s1).sqT Spa
      have Spb := (Kt.of s1).sqT Spb
      have Spc := (Kt.of s1).sqT Spc
      have St : SqT K _ t1 (tf (1, 1)) := SqT.of (upd_same (H := H18) (a := t1) (o := .tup [.int 1, .int 1]))
      refine ⟨_, _, dpF S18, dpF St, shapedF _, shapedF _, _, rfl, ?_⟩
      refine no (same_no (id6 oy y0 : (Fr.div y y) = (1, 1))) ?_
      refine ⟨_, rfl, _, rfl, pa, pb, x, y, rfl, Spa, Spb, bd_of ox (by decide), bd_of oy (by decide), _, rfl, _, rfl, pb, pa, y, x, rfl, Spb, Spa, bd_of oy (by decide), bd_of ox (by decide), _, rfl, _, rfl, _, _, dpF Spa, dpF Spb, shapedF _, shapedF _, (by show 3 ≤ sizeLine; decide), fun l hl => ?_⟩
      refine ⟨.inl ⟨rfl, _, SqL.of upd_same⟩, l, [decide (x.1 * y.2 < y.1 * x.2), decide (y.1 * x.2 < x.1 * y.2), PyData.eqv (zD (.inl x)) (zD (.inl y))], rfl, rfl, SqL.of upd_same, rfl, ?_⟩
      have tri := tri_one (bd_of ox (by decide)) (bd_of oy (by decide)) ox oy
      have ed : decide (V.int (([decide (x.1 * y.2 < y.1 * x.2), decide (y.1 * x.2 < x.1 * y.2), PyData.eqv (zD (.inl x)) (zD (.inl y))].count true : Nat) : Int) = V.int 1) = true := decide_eq_true (by rw [tri]; rfl)
      rw [ed]
      exact k _ (((((((((((((((((((((Same.refl H).trans N1.same).trans N2.same).trans N3.same).trans N4.same).trans N5.same).trans N6.same).trans N7.same).trans N8.same).trans N9.same).trans N10.same).trans N11.same).trans N12.same).trans N13.same).trans N14.same).trans N15.same).trans N16.same).trans N17.same).trans N18.same).trans s1).trans (same_new hl))
end
end K

namespace K
open PySem PySem.Spec PyProof.Rows L2 G
structure AtG (P : Program) (w : World) (K : PySem.W.Frag) (mg : Str → Option Value) (base : Heap) (n : Nat) (name : Str) (ps : List Str) (sp : Sp) (f : Addr) (fd : FuncData) : Prop where
  G : FnG P w K mg base n f fd ps sp
  b : Binds K fd ps []
  g : mg name = some (.ref f)
  k : PySem.W.keepIn K (.ref f) = true
theorem Fd.mono {f s : Addr} {ns : List Int} {B C : Int} {H : Hp} (F : Fd H f s ns B) (h : B ≤ C) : Fd H f s ns C := by
  obtain ⟨i, q, n, e, h1, h2, h3, h4⟩ := F.ex
  exact ⟨⟨i, q, n, e, h1, h2, h3, by omega⟩, F.sc, F.ne, F.few⟩
theorem Fd.put {f s : Addr} {ns : List Int} {B : Int} {H : Hp} {D : Addr} {o : HO} (F : Fd H f s ns B) (h1 : D ≠ f) (h2 : D ≠ s) : Fd (upd H D o) f s ns B := by
  obtain ⟨i, q, n, e, h⟩ := F.ex
  exact ⟨⟨i, q, n, by rw [upd_ne h1.symm]; exact e, h⟩, by rw [upd_ne h2.symm]; exact F.sc, F.ne, F.few⟩
theorem Fd.ne_s {f s : Addr} {ns : List Int} {B : Int} {H : Hp} {p : Addr} (F : Fd H f s ns B) (h : H p = none) : p ≠ s := fun z => by
  rw [z, F.sc] at h
  cases h
theorem p29 : (10 : Int) ^ (29 : Int).toNat = 100000000000000000000000000000 := by decide
theorem p28 : (10 : Int) ^ (28 : Int).toNat = 10000000000000000000000000000 := by decide
theorem p24 : (10 : Int) ^ (24 : Int).toNat = 1000000000000000000000000 := by decide
theorem p6 : (10 : Int) ^ (6 : Int).toNat = 1000000 := by decide
theorem small {a : Int} (h : a.natAbs < 2 ^ 210) : a.natAbs < 2 ^ 900 := Fr.bmono h (by decide)
theorem e210 : (2 : Nat) ^ 210 = 1645504557321206042154969182557350504982735865633579863348609024 := by decide
theorem mk_one {b : Int} (h : b ≠ 0) : Fr.mk b b = (1, 1) := by
  have h1 : ((1, 1) : Int × Int) = Fr.mk 1 1 := by decide
  rw [h1]
  refine Fr.mk_eq h (by decide) ?_
  rw [Int.mul_one, Int.one_mul]
section
variable {P : Program} {w : World} {K : PySem.W.Frag} {mg : Str → Option Value} {base : Heap}
theorem scGreat : FnScope ["_law_feed_here", "_law_some", "_law_a", "_law_b", "_law_one", "_law_other", "_law_k"] ["_law_feed_here"] (defScope sGreat) := ⟨rfl, rfl, rfl, by decide +kernel, rfl, by decide +kernel, by decide +kernel⟩
abbrev scGreatN : List Str := ["_law_feed_here", "_law_some", "_law_a", "_law_b", "_law_one", "_law_other", "_law_k"]
abbrev scGreatS : Scope := defScope sGreat
def spGreat : Sp := fun vs H Q _ => ∃ (f s : Addr) (ns : List Int) (B : Int), vs = [.ref f] ∧ Fd H f s ns B ∧ B < 2 ^ 39 ∧ ∀ H', But f H H' → Fd H' f s ns (B + 10) → Q (.bl true) H'
theorem ok_great {f fD fI fR fA fL fT fP fB fM : Addr} {fd dD dI dR dA dL dT dP dB dM : FuncData} (F : Fun K "_law_great_right" "_law_great_right" sGreat f fd) (D : Defs P w K mg base fR fA fL fT fP fB fM dR dA dL dT dP dB dM)
    (DR : At P w K mg base 1 "_law_draw" ["_law_feed_here", "_law_many"] spDraw fD dD) (RI : AtG P w K mg base 4 "_law_is_right" ["_law_one", "_law_other"] (spRight K) fI dI) (mR : mg "repr" = none) (mRange : mg "range" = none) : FnG P w K mg base 5 f fd ["_law_feed_here"] spGreat := by
  refine fn_g F scGreat (fun vs H Q E h => ?_) (fun cdv A outer s0 H vs Q E hg hr h => ?_)
  · obtain ⟨f, s, ns, B, rfl, _⟩ := h
    rfl
  · obtain ⟨f, s, ns, B, rfl, FD, hB, k⟩ := h
    have hr2 : Room 2 _ := hr.mono (by decide)
    have hr1 : Room 1 _ := hr.mono (by decide)
    refine ⟨_, (pss_cons (ps_setLc (i := 1) (own := [("_law_k", 6)]) (g := gName 6) (tt := tYes) rfl scGreat.nd rfl rfl (sw_true rfl rfl rfl (by decide +kernel)) (pi_range1 (by rfl) mRange (pa_cons pe_int pa_nil)) (blkOk_by (own := [("_law_k", 6)]) (N := scGreatN) (sc := scGreatS) (by decide +kernel)) (fun _ _ _ _ _ => (pg_name (i := 6) scGreat.nd rfl (.inl rfl))) (fun _ _ _ _ _ => pts_nil) (fun _ _ _ _ _ => (pe_op op_add (pe_op op_mulW (pe_op op_mulW (pe_op op_pow pe_int pe_int) (pe_call DR.G hr1 (by rfl) DR.g DR.k DR.b .nil pass0 (pa_cons (pv 0) (pa_cons (pe_op op_pow pe_int pe_int) pa_nil)))) (pe_op op_pow pe_int pe_int)) (pe_op op_mulW pe_int (pe_call DR.G hr1 (by rfl) DR.g DR.k DR.b .nil pass0 (pa_cons (pv 0) (pa_cons pe_int pa_nil)))))))
      (pss_cons (ps_par (i := 2) (j := 3) (by rfl) scGreat.nd rfl rfl (by decide) rfl rfl (pa_cons (pe_op op_mulW (pe_ix ix_list (pv 1) pe_int (fun _ _ => rfl)) (pe_ix ix_list (pe_lst (pa_cons pe_int (pa_cons (pe_un un_neg pe_int) pa_nil))) (pe_call DR.G hr1 (by rfl) DR.g DR.k DR.b .nil pass0 (pa_cons (pv 0) (pa_cons pe_int pa_nil))) (fun _ _ => rfl))) (pa_cons (pe_op op_mulW (pe_op op_add (pe_ix ix_list (pv 1) pe_int (fun _ _ => rfl)) pe_int) (pe_ix ix_list (pe_lst (pa_cons pe_int (pa_cons (pe_un un_neg pe_int) (pa_cons pe_int pa_nil)))) (pe_call DR.G hr1 (by rfl) DR.g DR.k DR.b .nil pass0 (pa_cons (pv 0) (pa_cons pe_int pa_nil))) (fun _ _ => rfl))) pa_nil)) (by rfl))
      (pss_cons (ps_if (pt_cmpR op_ne (pe_callB (call_reprD hg hr.units) (by rfl) mR boot_repr (pa_cons (pe_lst (pa_cons (pe_call D.R.G hr2 (by rfl) D.R.g D.R.k D.R.b .nil pass0 (pa_cons (pv 2) (pa_cons (pv 3) pa_nil))) (pa_cons (pe_call D.R.G hr2 (by rfl) D.R.g D.R.k D.R.b .nil pass0 (pa_cons (pv 3) (pa_cons (pv 3) pa_nil))) (pa_cons (pe_call D.R.G hr2 (by rfl) D.R.g D.R.k D.R.b .nil pass0 (pa_cons (pe_op op_mulW (pv 2) pe_int) (pa_cons (pv 3) pa_nil))) pa_nil)))) pa_nil)) (pe_callB (call_reprD hg hr.units) (by rfl) mR boot_repr (pa_cons (pe_lst (pa_cons (pe_call D.M.G hr2 (by rfl) D.M.g D.M.k D.M.b .nil pass0 (pa_cons (pv 2) (pa_cons (pv 3) pa_nil))) (pa_cons (pe_tup (pa_cons pe_int (pa_cons pe_int pa_nil))) (pa_cons (pe_call D.M.G hr2 (by rfl) D.M.g D.M.k D.M.b .nil pass0 (pa_cons (pe_op op_mulW (pv 2) pe_int) (pa_cons (pv 3) pa_nil))) pa_nil)))) pa_nil)) (nomark _)) (pss_one (ps_ret pe_bl)) pss_nil)
      (pss_cons (ps_set (i := 4) scGreat.nd rfl (.inl rfl) (pe_call D.M.G hr2 (by rfl) D.M.g D.M.k D.M.b .nil pass0 (pa_cons (pe_op op_add (pe_op op_pow pe_int pe_int) (pe_call DR.G hr1 (by rfl) DR.g DR.k DR.b .nil pass0 (pa_cons (pv 0) (pa_cons (pe_op op_pow pe_int pe_int) pa_nil)))) (pa_cons (pe_op op_add (pe_op op_add (pe_op op_pow pe_int pe_int) pe_int) (pe_call DR.G hr1 (by rfl) DR.g DR.k DR.b .nil pass0 (pa_cons (pv 0) (pa_cons (pe_op op_pow pe_int pe_int) pa_nil)))) pa_nil))))
      (pss_cons (ps_set (i := 5) scGreat.nd rfl (.inl rfl) (pe_call D.M.G hr2 (by rfl) D.M.g D.M.k D.M.b .nil pass0 (pa_cons (pe_op op_sub (pe_call DR.G hr1 (by rfl) DR.g DR.k DR.b .nil pass0 (pa_cons (pv 0) (pa_cons (pe_op op_pow pe_int pe_int) pa_nil))) (pe_op op_mulW pe_int (pe_op op_pow pe_int pe_int))) (pa_cons (pe_op op_add (pe_op op_add (pe_op op_pow pe_int pe_int) pe_int) (pe_call DR.G hr1 (by rfl) DR.g DR.k DR.b .nil pass0 (pa_cons (pv 0) (pa_cons (pe_op op_pow pe_int pe_int) pa_nil)))) pa_nil))))
      (pss_one (ps_ret (pe_callG RI.G hg hr (by rfl) RI.g RI.k RI.b (pa_cons (pv 4) (pa_cons (pv 5) pa_nil)))))))))), ?_⟩
    have e39 : (2 : Int) ^ 39 = 549755813888 := by decide
    have e40 : (2 : Int) ^ 40 = 1099511627776 := by decide
    refine ⟨2, rfl, by decide, by decide, fun D' hD => ?_⟩
    have nDf := FD.ne_none hD
    have nDs := FD.ne_s hD
    refine lc_range (lo := 0) (n := 2) (fun i H' => ∃ L : List Int, L.length = i ∧ (∀ v ∈ L, 0 ≤ v ∧ v.natAbs < 2 ^ 205) ∧ H' D' = some (.lst (L.map V.int)) ∧ But f H H' ∧ Fd H' f s ns (B + 2 * i)) ?_ ?_ ?_
    · exact ⟨[], rfl, by simp, upd_same, .of (same_new hD), (FD.put nDf nDs).mono (by omega)⟩
    · rintro i H' hi ⟨L, hL, hv, hl, bt, F1⟩
      refine ⟨rfl, ?_⟩
      refine ⟨_, _, rfl, rfl, ⟨by decide, by decide, by decide⟩, _, rfl, _, _, rfl, rfl, ⟨by decide, by decide, by decide⟩, f, s, ns, _, _, rfl, F1, (by rw [p6]; decide), (by rw [p6]; decide), by omega, fun H2 d2 b2 F2 l2 u2 => ?_⟩
      rw [p6] at u2
      refine ⟨_, _, rfl, rfl, mw (by rw [p29]; decide) (small (by rw [e210]; omega)), _, _, rfl, rfl, ⟨by decide, by decide, by decide⟩, _, _, rfl, rfl, mw (small (by rw [e210, p29]; omega)) (by rw [p24]; decide), ?_⟩
      refine ⟨_, rfl, f, s, ns, _, 1000, rfl, F2, (by decide), (by decide), by omega, fun H3 d3 b3 F3 l3 u3 => ?_⟩
      refine ⟨_, _, rfl, rfl, mw (by decide) (small (by rw [e210]; omega)), _, _, rfl, rfl, L.map V.int, b3 _ _ nDf (b2 _ _ nDf hl), (by rw [List.length_map, hL]; exact Nat.lt_trans hi (by decide)), L ++ [10 ^ (29 : Int).toNat * d2 * 10 ^ (24 : Int).toNat + 720720 * d3], (by rw [List.length_append, hL]; rfl), ?_, ?_, ?_, ?_⟩
      · intro v hm
        rw [List.mem_append, List.mem_singleton] at hm
        rcases hm with hm | rfl
        · exact hv v hm
        · rw [p29, p24]
          have e205 : (2 : Nat) ^ 205 = 51422017416287688817342786954917203280710495801049370729644032 := by decide
          rw [e205]
          omega
      · rw [upd_same, List.map_append]
        rfl
      · intro b o nb e
        rw [upd_ne (ne_of_none e hD)]
        exact b3 _ _ nb (b2 _ _ nb (bt _ _ nb e))
      · exact (F3.put nDf nDs).mono (by omega)
    · rintro H0 ⟨L, hL, hv, hl, bt, F0⟩
      obtain ⟨v0, v1, rfl⟩ : ∃ v0 v1, L = [v0, v1] := by
        match L, hL with
        | [v0, v1], _ => exact ⟨v0, v1, rfl⟩
      obtain ⟨p0, q0⟩ := hv v0 (by simp)
      obtain ⟨p1, q1⟩ := hv v1 (by simp)
      refine ⟨_, rfl, _, _, _, _, rfl, rfl, SqL.of hl, atI_nat (j := 0) rfl, 1, rfl, (by show 2 ≤ sizeLine; decide), fun t ht => ?_⟩
      have st := same_new (o := .lst [.int 1, .int (-1)]) ht
      refine ⟨_, rfl, f, s, ns, _, 2, rfl, F0.keep st, (by decide), (by decide), by omega, fun H2 d2 b2 F2 l2 u2 => ?_⟩
      obtain ⟨w1, hw1, mw1⟩ := at_ints (L := [1, -1]) l2 u2
      have bw1 : w1.natAbs ≤ 1 := by
        simp only [List.mem_cons, List.not_mem_nil, or_false] at mw1
        omega
      have hl2 := b2 _ _ nDf (st _ _ hl)
      refine ⟨t, _, _, _, rfl, rfl, SqL.of (b2 _ _ (F0.ne_none ht) upd_same), hw1, _, _, rfl, rfl, mw (Fr.bmono q0 (by decide)) (small (by rw [e210]; omega)), ?_⟩
      refine ⟨_, rfl, _, _, _, _, rfl, rfl, SqL.of hl2, atI_nat (j := 1) rfl, _, _, rfl, rfl, 1, rfl, (by show 3 ≤ sizeLine; decide), fun t2 ht2 => ?_⟩
      have st2 := same_new (o := .lst [.int 1, .int (-1), .int 6]) ht2
      refine ⟨_, rfl, f, s, ns, _, 3, rfl, F2.keep st2, (by decide), (by decide), by omega, fun H3 d3 b3 F3 l3 u3 => ?_⟩
      obtain ⟨w2, hw2, mw2⟩ := at_ints (L := [1, -1, 6]) l3 u3
      have bw2 : w2.natAbs ≤ 6 ∧ w2 ≠ 0 := by
        simp only [List.mem_cons, List.not_mem_nil, or_false] at mw2
        omega
      have q1' : (v1 + 1).natAbs < 2 ^ 206 := Fr.badd q1 (by decide)
      refine ⟨t2, _, _, _, rfl, rfl, SqL.of (b3 _ _ (F2.ne_none ht2) upd_same), hw2, _, _, rfl, rfl, mw (Fr.bmono q1' (by decide)) (small (by rw [e210]; omega)), _, _, rfl, ?_⟩
      have ba : (v0 * w1).natAbs < 2 ^ 210 := Fr.bmono (Fr.bmul q0 (show w1.natAbs < 2 ^ 3 by omega)) (by decide)
      have bb : ((v1 + 1) * w2).natAbs < 2 ^ 210 := Fr.bmono (Fr.bmul q1' (show w2.natAbs < 2 ^ 3 by omega)) (by decide)
      have nb : (v1 + 1) * w2 ≠ 0 := Int.mul_ne_zero (by omega) bw2.2
      have bt3 : But f H H3 := (((bt.trans (.of st)).trans b2).trans (.of st2)).trans b3
      clear hl2 hl
      have b6 : ((v0 * w1) * 6).natAbs < 2 ^ 220 := Fr.bmono (Fr.bmul ba (show (6 : Int).natAbs < 2 ^ 3 by decide)) (by decide)
      have bB : ((v1 + 1) * w2).natAbs < 2 ^ 2000 := Fr.bmono bb (by decide)
      have w6 : CMulW (v0 * w1) 6 := mw (small ba) (by decide)
      refine ⟨_, rfl, _, rfl, (v0 * w1), ((v1 + 1) * w2), rfl, nb, bB, fun J1 r1 N1 => ?_⟩
      refine ⟨_, rfl, _, rfl, ((v1 + 1) * w2), ((v1 + 1) * w2), rfl, nb, bB, fun J2 r2 N2 => ?_⟩
      refine ⟨_, rfl, _, _, rfl, rfl, w6, _, rfl, (v0 * w1) * 6, ((v1 + 1) * w2), rfl, nb, bB, fun J3 r3 N3 => ?_⟩
      refine ⟨(by show 3 ≤ sizeLine; decide), fun l hl => ?_⟩
      have Z1 := ((Hs.nil.new N1).new N2).new N3
      have NL := new_of (o := .lst [.ref r1, .ref r2, .ref r3]) hl
      obtain ⟨d1', d2', d3', d4'⟩ := show_list ([.inl (Fr.mk (v0 * w1) ((v1 + 1) * w2)), .inl (1, 1), .inl (Fr.mk ((v0 * w1) * 6) ((v1 + 1) * w2))] : List Z) (by
        intro z hz
        simp only [List.mem_cons, List.not_mem_nil, or_false] at hz
        rcases hz with rfl | rfl | rfl
        · exact zf (n := 210) (Fr.mk_ok nb ba bb) (by decide)
        · exact ⟨by decide, by decide⟩
        · exact zf (n := 220) (Fr.mk_ok nb b6 (Fr.bmono bb (by decide))) (by decide)) (by show 3 ≤ 10; decide)
      have Z2 : Hs J3 [.ref r1, .ref r2, .ref r3] ([.inl (Fr.mk (v0 * w1) ((v1 + 1) * w2)), .inl (1, 1), .inl (Fr.mk ((v0 * w1) * 6) ((v1 + 1) * w2))] : List Z) := by
        rw [← mk_one nb]
        exact Z1
      refine ⟨l, .list (([.inl (Fr.mk (v0 * w1) ((v1 + 1) * w2)), .inl (1, 1), .inl (Fr.mk ((v0 * w1) * 6) ((v1 + 1) * w2))] : List Z).map zD), rfl, .lst (SqL.of NL.at_) (Z2.kt (Kt.of NL.same)).dp, d1', d2', d3', d4', ?_⟩
      have sJ : Same H3 (upd J3 l (.lst [.ref r1, .ref r2, .ref r3])) := ((N1.same.trans N2.same).trans N3.same).trans NL.same
      generalize (upd J3 l (.lst [.ref r1, .ref r2, .ref r3])) = J4 at *
      refine ⟨_, rfl, _, rfl, (v0 * w1), ((v1 + 1) * w2), rfl, nb, bB, fun J5 r5 N5 => ?_⟩
      refine ⟨(by show 2 ≤ sizeLine; decide), fun r6 hr6 => ?_⟩
      have N6 := new_of (o := .tup (tf (1, 1))) hr6
      refine ⟨_, rfl, _, _, rfl, rfl, w6, _, rfl, (v0 * w1) * 6, ((v1 + 1) * w2), rfl, nb, bB, fun J7 r7 N7 => ?_⟩
      refine ⟨(by show 3 ≤ sizeLine; decide), fun l2' hl2' => ?_⟩
      have Z5 := ((Hs.nil.new N5).new N6).new N7
      have NL2 := new_of (o := .lst [.ref r5, .ref r6, .ref r7]) hl2'
      refine ⟨l2', .list (([.inl (Fr.mk (v0 * w1) ((v1 + 1) * w2)), .inl (1, 1), .inl (Fr.mk ((v0 * w1) * 6) ((v1 + 1) * w2))] : List Z).map zD), rfl, .lst (SqL.of NL2.at_) (Z5.kt (Kt.of NL2.same)).dp, d1', d2', d3', d4', rfl, _, rfl, ?_⟩
      refine no (by rw [decide_eq_true rfl]; rfl) ?_
      have sJ8 : Same H3 (upd J7 l2' (.lst [.ref r5, .ref r6, .ref r7])) := (((sJ.trans N5.same).trans N6.same).trans N7.same).trans NL2.same
      generalize (upd J7 l2' (.lst [.ref r5, .ref r6, .ref r7])) = J8 at *
      have F8 := F3.keep sJ8
      have bt8 := bt3.trans (.of sJ8)
      refine ⟨_, _, rfl, rfl, ⟨by decide, by decide, by decide⟩, _, rfl, _, _, rfl, rfl, ⟨by decide, by decide, by decide⟩, f, s, ns, _, _, rfl, F8, (by rw [p6]; decide), (by rw [p6]; decide), by omega, fun H9 d9 b9 F9 l9 u9 => ?_⟩
      refine ⟨_, _, rfl, rfl, _, _, rfl, rfl, ⟨by decide, by decide, by decide⟩, _, _, rfl, rfl, _, rfl, _, _, rfl, rfl, ⟨by decide, by decide, by decide⟩, f, s, ns, _, _, rfl, F9, (by rw [p6]; decide), (by rw [p6]; decide), by omega, fun H10 d10 b10 F10 l10 u10 => ?_⟩
      rw [p6] at u9 u10
      have x1 : ((10 : Int) ^ (29 : Int).toNat + d9).natAbs < 2 ^ 210 := by rw [p29, e210]; omega
      have x2 : ((10 : Int) ^ (28 : Int).toNat + 1 + d10).natAbs < 2 ^ 210 := by rw [p28, e210]; omega
      have x3 : (10 : Int) ^ (28 : Int).toNat + 1 + d10 ≠ 0 := by rw [p28]; omega
      refine ⟨_, _, rfl, rfl, _, _, rfl, x3, Fr.bmono x2 (by decide), fun H11 r11 N11 => ?_⟩
      have o11 := Fr.mk_ok (n := 210) x3 x1 x2
      have F11 := F10.keep N11.same
      refine ⟨_, rfl, _, _, rfl, rfl, ⟨by decide, by decide, by decide⟩, f, s, ns, _, _, rfl, F11, (by rw [p6]; decide), (by rw [p6]; decide), by omega, fun H12 d12 b12 F12 l12 u12 => ?_⟩
      refine ⟨_, _, rfl, rfl, ⟨by decide, by decide, by decide⟩, _, _, rfl, rfl, mw (by decide) (by rw [p28]; decide), _, _, rfl, rfl, _, _, rfl, rfl, ⟨by decide, by decide, by decide⟩, _, _, rfl, rfl, _, rfl, _, _, rfl, rfl, ⟨by decide, by decide, by decide⟩, f, s, ns, _, _, rfl, F12, (by rw [p6]; decide), (by rw [p6]; decide), by omega, fun H13 d13 b13 F13 l13 u13 => ?_⟩
      rw [p6] at u12 u13
      have y1 : (d12 - 7 * (10 : Int) ^ (28 : Int).toNat).natAbs < 2 ^ 210 := by rw [p28, e210]; omega
      have y2 : ((10 : Int) ^ (28 : Int).toNat + 3 + d13).natAbs < 2 ^ 210 := by rw [p28, e210]; omega
      have y3 : (10 : Int) ^ (28 : Int).toNat + 3 + d13 ≠ 0 := by rw [p28]; omega
      refine ⟨_, _, rfl, rfl, _, _, rfl, y3, Fr.bmono y2 (by decide), fun H14 r14 N14 => ?_⟩
      have o14 := Fr.mk_ok (n := 210) y3 y1 y2
      have S11 : SqT K H14 r11 (tf _) := (((Kt.but b12 F11).trans (Kt.but b13 F12)).trans (Kt.of N14.same)).sqT (SqT.of N11.at_)
      refine ⟨_, rfl, _, rfl, r11, r14, _, _, rfl, S11, SqT.of N14.at_, bd_of o11 (by decide), bd_of o14 (by decide), fun H15 s15 => ?_⟩
      refine k H15 ((((((bt8.trans b9).trans b10).trans (.of N11.same)).trans b12).trans b13).trans (.of (N14.same.trans s15))) (((F13.keep N14.same).keep s15).mono (by omega))
end
end K

namespace K
open PySem PySem.Spec PyProof.Rows L2 G
section
variable {P : Program} {w : World} {K : PySem.W.Frag} {mg : Str → Option Value} {base : Heap}
abbrev scLawN : List Str := ["_law_script", "_law_feed_here", "_law_turn", "_law_one", "_law_other", "_law_third", "_law_near", "_law_pair", "_law_k"]
abbrev scLawS : Scope := defScope sLaw
theorem scLaw : FnScope ["_law_script", "_law_feed_here", "_law_turn", "_law_one", "_law_other", "_law_third", "_law_near", "_law_pair", "_law_k"] ["_law_script"] (defScope sLaw) := ⟨rfl, rfl, rfl, by decide +kernel, rfl, by decide +kernel, by decide +kernel⟩
def spLaw (K : PySem.W.Frag) : Sp := fun vs H Q _ => ∃ (a : Addr) (ns : List Int), vs = [.ref a] ∧ SqL K H a (ns.map V.int) ∧ ns.length ≤ 63 ∧ ∀ H', Q (.bl true) H'
theorem ok_law {f fE fF fI fH fG fR fA fL fT fP fB fM : Addr} {fd dE dF dI dH dG dR dA dL dT dP dB dM : FuncData} (F : Fun K "law" "law" sLaw f fd) (D : Defs P w K mg base fR fA fL fT fP fB fM dR dA dL dT dP dB dM)
    (FE : At P w K mg base 1 "_law_feed" ["_law_script"] (spFeed K) fE dE) (FR : At P w K mg base 3 "_law_fraction" ["_law_feed_here"] spFrac fF dF) (RI : AtG P w K mg base 4 "_law_is_right" ["_law_one", "_law_other"] (spRight K) fI dI)
    (TH : At P w K mg base 4 "_law_threes_right" ["_law_a", "_law_b", "_law_c"] (spThrees K) fH dH) (GR : AtG P w K mg base 5 "_law_great_right" ["_law_feed_here"] spGreat fG dG) (mRange : mg "range" = none) : FnG P w K mg base 6 f fd ["_law_script"] (spLaw K) := by
  refine fn_g F scLaw (fun vs H Q E h => ?_) (fun cdv A outer s0 H vs Q E hg hr h => ?_)
  · obtain ⟨a, ns, rfl, _⟩ := h
    rfl
  · obtain ⟨a, ns, rfl, hS, hl, k⟩ := h
    have hr4 : Room 4 _ := hr.mono (by decide)
    have hr3 : Room 3 _ := hr.mono (by decide)
    have hr2 : Room 2 _ := hr.mono (by decide)
    have hr1 : Room 1 _ := hr.mono (by decide)
    refine ⟨_, (pss_cons (ps_set (i := 1) scLaw.nd rfl (.inr rfl) (pe_call FE.G hr1 (by rfl) FE.g FE.k FE.b .nil pass0 (pa_cons (pv 0) pa_nil)))
      (pss_cons (ps_for PassesOwn.never rfl (pi_range1 (by rfl) mRange (pa_cons pe_int pa_nil)) (pg_name (i := 2) scLaw.nd rfl (.inl rfl)) (pss_cons (ps_asg (pe_lc (own := [("_law_k", 8)]) (g := gName 8) (tt := tYes) rfl scLaw.nd (pi_range1 (by rfl) mRange (pa_cons pe_int pa_nil)) (blkOk_by (own := [("_law_k", 8)]) (N := scLawN) (sc := scLawS) (by decide +kernel)) (fun _ _ _ _ _ => (pg_name (i := 8) scLaw.nd rfl (.inl rfl))) (fun _ _ _ _ _ => pts_nil) (fun _ _ _ _ _ => (pe_call FR.G hr3 (by rfl) FR.g FR.k FR.b .nil pass0 (pa_cons (pv 1) pa_nil)))) (pg_lst rfl (pgs_cons (pg_name (i := 3) scLaw.nd rfl (.inl rfl)) (pgs_cons (pg_name (i := 4) scLaw.nd rfl (.inl rfl)) (pgs_cons (pg_name (i := 5) scLaw.nd rfl (.inl rfl)) pgs_nil)))))
      (pss_cons (ps_set (i := 6) scLaw.nd rfl (.inl rfl) (pe_call D.M.G hr2 (by rfl) D.M.g D.M.k D.M.b .nil pass0 (pa_cons (pe_op op_add (pe_op op_mulW (pe_ix ix_tup (pv 3) pe_int (fun _ _ => rfl)) (pe_ix ix_tup (pv 4) pe_int (fun _ _ => rfl))) pe_int) (pa_cons (pe_op op_mulW (pe_ix ix_tup (pv 3) pe_int (fun _ _ => rfl)) (pe_ix ix_tup (pv 4) pe_int (fun _ _ => rfl))) pa_nil))))
      (pss_cons (ps_for PassesOwn.never rfl (pi_tup (pe_tup (pa_cons (pe_tup (pa_cons (pv 3) (pa_cons (pv 4) pa_nil))) (pa_cons (pe_tup (pa_cons (pv 4) (pa_cons (pv 3) pa_nil))) (pa_cons (pe_tup (pa_cons (pv 3) (pa_cons (pv 3) pa_nil))) (pa_cons (pe_tup (pa_cons (pv 3) (pa_cons (pv 6) pa_nil))) (pa_cons (pe_tup (pa_cons (pv 6) (pa_cons (pv 3) pa_nil))) (pa_cons (pe_tup (pa_cons (pv 3) (pa_cons (pe_tup (pa_cons pe_int (pa_cons pe_int pa_nil))) pa_nil))) (pa_cons (pe_tup (pa_cons (pe_tup (pa_cons pe_int (pa_cons pe_int pa_nil))) (pa_cons (pv 4) pa_nil))) pa_nil))))))))) (pg_name (i := 7) scLaw.nd rfl (.inl rfl)) (pss_one (ps_if (pt_not (pt_val (pe_callG RI.G hg hr4 (by rfl) RI.g RI.k RI.b (pa_cons (pe_ix ix_tup (pv 7) pe_int (fun _ _ => rfl)) (pa_cons (pe_ix ix_tup (pv 7) pe_int (fun _ _ => rfl)) pa_nil))))) (pss_one (ps_ret pe_bl)) pss_nil)))
      (pss_cons (ps_if (PW.pt (pw_or (pt_not (pt_val (pe_callG RI.G hg hr4 (by rfl) RI.g RI.k RI.b (pa_cons (pe_call D.A.G hr3 (by rfl) D.A.g D.A.k D.A.b .nil pass0 (pa_cons (pv 3) (pa_cons (pv 4) pa_nil))) (pa_cons (pe_call D.T.G hr3 (by rfl) D.T.g D.T.k D.T.b .nil pass0 (pa_cons (pv 6) (pa_cons (pv 4) pa_nil))) pa_nil))))) (pw_or1 (pt_not (pt_val (pe_call TH.G hr4 (by rfl) TH.g TH.k TH.b .nil pass0 (pa_cons (pv 3) (pa_cons (pv 4) (pa_cons (pv 5) pa_nil))))))))) (pss_one (ps_ret pe_bl)) pss_nil)
      (pss_one (ps_if (pt_not (pt_val (pe_callG GR.G hg hr (by rfl) GR.g GR.k GR.b (pa_cons (pv 1) pa_nil)))) (pss_one (ps_ret pe_bl)) pss_nil)))))))
      (pss_one (ps_ret pe_bl)))), ?_⟩
    refine ⟨_, rfl, a, ns, rfl, hS, hl, fun H1 f s sm nf nsn FD => ?_⟩
    refine ⟨12, rfl, by decide, by decide, for_range (lo := 0) (n := 12) (fun i σ H' => ∃ y2 y3 y4 y5 y6 y7 y8 : Option V, σ = [some (.ref a), some (.ref f), y2, y3, y4, y5, y6, y7, y8] ∧ Fd H' f s ns (28 * i)) ⟨_, _, _, _, _, _, _, rfl, FD.mono (by decide)⟩ ?_ ?_⟩
    · rintro i0 σ H' hi ⟨y2, y3, y4, y5, y6, y7, y8, rfl, F0⟩
      have e39 : (2 : Int) ^ 39 = 549755813888 := by decide
      refine ⟨3, rfl, by decide, by decide, fun D' hD => ?_⟩
      have nDf := F0.ne_none hD
      have nDs := F0.ne_s hD
      refine lc_range (lo := 0) (n := 3) (fun i H2 => ∃ L : List (Addr × (Int × Int)), L.length = i ∧ (∀ e ∈ L, H2 e.1 = some (.tup (tf e.2)) ∧ Fr.Ok 20 e.2) ∧ H2 D' = some (.lst (L.map fun e => V.ref e.1)) ∧ Fd H2 f s ns (28 * i0 + 6 * i)) ?_ ?_ ?_
      · exact ⟨[], rfl, by simp, upd_same, (F0.put nDf nDs).mono (by omega)⟩
      · rintro i H2 hi2 ⟨L, hL, hv, hl2, F2⟩
        refine ⟨rfl, ?_⟩
        refine ⟨_, rfl, f, s, ns, _, rfl, F2, by omega, fun H3 p x bt np hp ox F3 => ?_⟩
        have hl3 := bt _ _ nDf hl2
        refine ⟨_, hl3, (by rw [List.length_map, hL]; exact Nat.lt_trans hi2 (by decide)), L ++ [(p, x)], (by rw [List.length_append, hL]; rfl), ?_, ?_, ?_⟩
        · intro e he
          rw [List.mem_append, List.mem_singleton] at he
          have kp := Kt.put (o := .lst ((L.map fun e => V.ref e.1) ++ [.ref p])) hl3
          rcases he with he | rfl
          · exact ⟨((Kt.but bt F2).trans kp) _ _ (hv e he).1 (by intro xs z; cases z), (hv e he).2⟩
          · exact ⟨kp _ _ hp (by intro xs z; cases z), ox⟩
        · rw [upd_same, List.map_append]
          rfl
        · exact (F3.put nDf nDs).mono (by omega)
      rintro H3 ⟨L, hL, hv, hl3, F3⟩
      obtain ⟨⟨p1, x1⟩, ⟨p2, x2⟩, ⟨p3, x3⟩, rfl⟩ : ∃ e1 e2 e3, L = [e1, e2, e3] := by
        match L, hL with
        | [e1, e2, e3], _ => exact ⟨e1, e2, e3, rfl⟩
      obtain ⟨t1, o1⟩ := hv (p1, x1) (by simp)
      obtain ⟨t2, o2⟩ := hv (p2, x2) (by simp)
      obtain ⟨t3, o3⟩ := hv (p3, x3) (by simp)
      have bd1 := bd_of o1 (by decide)
      have bd2 := bd_of o2 (by decide)
      refine ⟨D', _, rfl, SqL.of hl3, rfl, _, _, rfl, _, _, rfl, _, _, rfl, rfl, ?_⟩
      have c1 : (x1.1 * x2.2 + 1).natAbs < 2 ^ 41 := Fr.badd (Fr.bmul o1.b1 o2.b2) (by decide)
      have c2 : (x1.2 * x2.2).natAbs < 2 ^ 41 := Fr.bmono (Fr.bmul o1.b2 o2.b2) (by decide)
      have c3 := pos_ne bd1 bd2
      refine ⟨_, rfl, p1, _, _, _, rfl, rfl, SqT.of t1, atI_nat (j := 0) rfl, _, rfl, p2, _, _, _, rfl, rfl, SqT.of t2, atI_nat (j := 1) rfl, _, _, rfl, rfl, mw bd1.b1 bd2.b2, _, _, rfl, rfl, _, rfl, p1, _, _, _, rfl, rfl, SqT.of t1, atI_nat (j := 1) rfl, _, rfl, p2, _, _, _, rfl, rfl, SqT.of t2, atI_nat (j := 1) rfl, _, _, rfl, rfl, mw bd1.b2 bd2.b2, _, _, rfl, c3, Fr.bmono c2 (by decide), fun H4 p4 N4 => ?_⟩
      have o4 := Fr.mk_ok (n := 41) c3 c1 c2
      have t1 := N4.same _ _ t1
      have t2 := N4.same _ _ t2
      have t3 := N4.same _ _ t3
      have t4 := N4.at_
      generalize Fr.mk (x1.1 * x2.2 + 1) (x1.2 * x2.2) = x4 at o4 t4
      have bd4 := bd_of o4 (by decide)
      have bd0 : Bd (0, 1) := ⟨by decide, by decide, by decide⟩
      have F4 := F3.keep N4.same
      refine ⟨_, rfl, _, rfl, (by show 2 ≤ sizeLine; decide), fun q1 hq1 => ?_⟩
      have Nq1 := new_of (o := .tup [.ref p1, .ref p2]) hq1
      generalize upd H4 q1 (.tup [.ref p1, .ref p2]) = Jq1 at Nq1 ⊢
      refine ⟨_, rfl, _, rfl, (by show 2 ≤ sizeLine; decide), fun q2 hq2 => ?_⟩
      have Nq2 := new_of (o := .tup [.ref p2, .ref p1]) hq2
      generalize upd Jq1 q2 (.tup [.ref p2, .ref p1]) = Jq2 at Nq2 ⊢
      refine ⟨_, rfl, _, rfl, (by show 2 ≤ sizeLine; decide), fun q3 hq3 => ?_⟩
      have Nq3 := new_of (o := .tup [.ref p1, .ref p1]) hq3
      generalize upd Jq2 q3 (.tup [.ref p1, .ref p1]) = Jq3 at Nq3 ⊢
      refine ⟨_, rfl, _, rfl, (by show 2 ≤ sizeLine; decide), fun q4 hq4 => ?_⟩
      have Nq4 := new_of (o := .tup [.ref p1, .ref p4]) hq4
      generalize upd Jq3 q4 (.tup [.ref p1, .ref p4]) = Jq4 at Nq4 ⊢
      refine ⟨_, rfl, _, rfl, (by show 2 ≤ sizeLine; decide), fun q5 hq5 => ?_⟩
      have Nq5 := new_of (o := .tup [.ref p4, .ref p1]) hq5
      generalize upd Jq4 q5 (.tup [.ref p4, .ref p1]) = Jq5 at Nq5 ⊢
      refine ⟨_, rfl, (by show 2 ≤ sizeLine; decide), fun z1 hz1 => ?_⟩
      have Nz1 := new_of (o := .tup (tf (0, 1))) hz1
      generalize upd Jq5 z1 (.tup (tf (0, 1))) = Jz1 at Nz1 ⊢
      refine ⟨(by show 2 ≤ sizeLine; decide), fun q6 hq6 => ?_⟩
      have Nq6 := new_of (o := .tup [.ref p1, .ref z1]) hq6
      generalize upd Jz1 q6 (.tup [.ref p1, .ref z1]) = Jq6 at Nq6 ⊢
      refine ⟨(by show 2 ≤ sizeLine; decide), fun z2 hz2 => ?_⟩
      have Nz2 := new_of (o := .tup (tf (0, 1))) hz2
      generalize upd Jq6 z2 (.tup (tf (0, 1))) = Jz2 at Nz2 ⊢
      refine ⟨_, rfl, (by show 2 ≤ sizeLine; decide), fun q7 hq7 => ?_⟩
      have Nq7 := new_of (o := .tup [.ref z2, .ref p2]) hq7
      generalize upd Jz2 q7 (.tup [.ref z2, .ref p2]) = Jq7 at Nq7 ⊢
      refine ⟨(by show 7 ≤ sizeLine; decide), fun qt hqt => ?_⟩
      have Nqt := new_of (o := .tup [.ref q1, .ref q2, .ref q3, .ref q4, .ref q5, .ref q6, .ref q7]) hqt
      generalize upd Jq7 qt (.tup [.ref q1, .ref q2, .ref q3, .ref q4, .ref q5, .ref q6, .ref q7]) = Jqt at Nqt ⊢
      have sQ := ((((((((((Same.refl _).trans Nq1.same).trans Nq2.same).trans Nq3.same).trans Nq4.same).trans Nq5.same).trans Nz1.same).trans Nq6.same).trans Nz2.same).trans Nq7.same).trans Nqt.same
      have F5 := F4.keep sQ
      have s1 : SqT K Jqt p1 (tf x1) := SqT.of (sQ _ _ t1)
      have s2 : SqT K Jqt p2 (tf x2) := SqT.of (sQ _ _ t2)
      have s3 : SqT K Jqt p3 (tf x3) := SqT.of (sQ _ _ t3)
      have s4 : SqT K Jqt p4 (tf x4) := SqT.of (sQ _ _ t4)
      have sz_z1 : SqT K Jqt z1 (tf (0, 1)) := SqT.of ((((((Same.refl _).trans Nq6.same).trans Nz2.same).trans Nq7.same).trans Nqt.same) _ _ Nz1.at_)
      have sz_z2 : SqT K Jqt z2 (tf (0, 1)) := SqT.of ((((Same.refl _).trans Nq7.same).trans Nqt.same) _ _ Nz2.at_)
      have every : ∀ v ∈ ([.ref q1, .ref q2, .ref q3, .ref q4, .ref q5, .ref q6, .ref q7] : List V), ∃ (q u1 u2 : Addr) (w1 w2 : Int × Int), v = .ref q ∧ SqT K Jqt q [.ref u1, .ref u2] ∧ SqT K Jqt u1 (tf w1) ∧ SqT K Jqt u2 (tf w2) ∧ Bd w1 ∧ Bd w2 := by
        intro v hv
        simp only [List.mem_cons, List.not_mem_nil, or_false] at hv
        rcases hv with rfl | rfl | rfl | rfl | rfl | rfl | rfl
        · exact ⟨q1, p1, p2, x1, x2, rfl, SqT.of (((((((((((Same.refl _).trans Nq2.same).trans Nq3.same).trans Nq4.same).trans Nq5.same).trans Nz1.same).trans Nq6.same).trans Nz2.same).trans Nq7.same).trans Nqt.same) _ _ Nq1.at_), s1, s2, bd1, bd2⟩
        · exact ⟨q2, p2, p1, x2, x1, rfl, SqT.of ((((((((((Same.refl _).trans Nq3.same).trans Nq4.same).trans Nq5.same).trans Nz1.same).trans Nq6.same).trans Nz2.same).trans Nq7.same).trans Nqt.same) _ _ Nq2.at_), s2, s1, bd2, bd1⟩
        · exact ⟨q3, p1, p1, x1, x1, rfl, SqT.of (((((((((Same.refl _).trans Nq4.same).trans Nq5.same).trans Nz1.same).trans Nq6.same).trans Nz2.same).trans Nq7.same).trans Nqt.same) _ _ Nq3.at_), s1, s1, bd1, bd1⟩
        · exact ⟨q4, p1, p4, x1, x4, rfl, SqT.of ((((((((Same.refl _).trans Nq5.same).trans Nz1.same).trans Nq6.same).trans Nz2.same).trans Nq7.same).trans Nqt.same) _ _ Nq4.at_), s1, s4, bd1, bd4⟩
        · exact ⟨q5, p4, p1, x4, x1, rfl, SqT.of (((((((Same.refl _).trans Nz1.same).trans Nq6.same).trans Nz2.same).trans Nq7.same).trans Nqt.same) _ _ Nq5.at_), s4, s1, bd4, bd1⟩
        · exact ⟨q6, p1, z1, x1, (0, 1), rfl, SqT.of (((((Same.refl _).trans Nz2.same).trans Nq7.same).trans Nqt.same) _ _ Nq6.at_), s1, sz_z1, bd1, bd0⟩
        · exact ⟨q7, z2, p2, (0, 1), x2, rfl, SqT.of (((Same.refl _).trans Nqt.same) _ _ Nq7.at_), sz_z2, s2, bd0, bd2⟩
      refine ⟨qt, rfl, ⟨_, SqT.of Nqt.at_⟩, for_tup (K := K) (a := qt) (xs := [.ref q1, .ref q2, .ref q3, .ref q4, .ref q5, .ref q6, .ref q7]) (fun i σ' Hk => ∃ z7 z8 : Option V, σ' = [some (.ref a), some (.ref f), some (.int (0 + (i0 : Int))), some (.ref p1), some (.ref p2), some (.ref p3), some (.ref p4), z7, z8] ∧ Same Jqt Hk) ⟨_, _, rfl, Same.refl _⟩ ?_ ?_ ?_⟩
      · rintro i σ' Hk hi3 ⟨z7, z8, rfl, sk⟩
        exact (Kt.of sk).sqT (SqT.of Nqt.at_)
      · rintro i v σ' Hk hv ⟨z7, z8, rfl, sk⟩
        obtain ⟨q, u1, u2, w1, w2, rfl, g1, g2, g3, g4, g5⟩ := every v (List.mem_of_getElem? hv)
        have kk := Kt.of sk
        refine ⟨_, rfl, q, _, _, _, rfl, rfl, kk.sqT g1, atI_nat (j := 0) rfl, _, rfl, q, _, _, _, rfl, rfl, kk.sqT g1, atI_nat (j := 1) rfl, u1, u2, w1, w2, rfl, kk.sqT g2, kk.sqT g3, g4, g5, fun Hm sm' => ?_⟩
        refine ⟨true, rfl, ?_⟩
        exact ⟨_, _, rfl, sk.trans sm'⟩
      · rintro σ' Hk ⟨z7, z8, rfl, sk⟩
        have kk := Kt.of sk
        refine ⟨_, rfl, _, rfl, p1, p2, x1, x2, rfl, kk.sqT s1, kk.sqT s2, bd1, bd2, fun Ha ra Na => ?_⟩
        have ka := kk.trans (Kt.of Na.same)
        refine ⟨_, rfl, _, rfl, p4, p2, x4, x2, rfl, ka.sqT s4, ka.sqT s2, bd4, bd2, fun Hb rb Nb => ?_⟩
        refine ⟨ra, rb, _, _, rfl, (Kt.of Nb.same).sqT (SqT.of Na.at_), SqT.of Nb.at_, bd_of (Fr.add_ok o1 o2) (by decide), bd_of (Fr.mul_ok o4 o2) (by decide), fun Hc sc => ?_⟩
        have kc := (ka.trans (Kt.of Nb.same)).trans (Kt.of sc)
        refine ⟨true, rfl, ?_⟩
        refine ⟨_, rfl, _, rfl, _, rfl, p1, p2, p3, x1, x2, x3, rfl, kc.sqT s1, kc.sqT s2, kc.sqT s3, o1, o2, o3, fun Hd sd => ?_⟩
        refine ⟨true, rfl, ?_⟩
        have F6 := ((((F5.keep sk).keep Na.same).keep Nb.same).keep sc).keep sd
        refine ⟨_, rfl, f, s, ns, _, rfl, F6, by omega, fun He be Fe => ?_⟩
        refine ⟨true, rfl, ?_⟩
        exact ⟨_, _, _, _, _, _, _, rfl, Fe.mono (by omega)⟩
    · rintro σ H' ⟨y2, y3, y4, y5, y6, y7, y8, rfl, F0⟩
      exact k _
end
end K

namespace K
open PySem PySem.Spec PyProof.Rows L2 G
theorem all_mk {l : PySem.W.OpenLaw} {w : World} {K : PySem.W.Frag} {h : Heap} {mg : Str → Option Value} {fa : Addr} (X : K.In h) (G : h.Ns mainGlobals mg) (hfa : mg "law" = some (.ref fa))
    {o0 : Value} {od0 an0 : Option Addr} {sl0 : Array (Option Value)} {kV0 dc0 pm0 cd0 ct0 : Value} {f0 : Addr} {o1 : Value} {od1 an1 : Option Addr} {sl1 : Array (Option Value)} {kV1 dc1 pm1 cd1 ct1 : Value} {f1 : Addr} {o2 : Value} {od2 an2 : Option Addr} {sl2 : Array (Option Value)} {kV2 dc2 pm2 cd2 ct2 : Value} {f2 : Addr} {o3 : Value} {od3 an3 : Option Addr} {sl3 : Array (Option Value)} {kV3 dc3 pm3 cd3 ct3 : Value} {f3 : Addr} {o4 : Value} {od4 an4 : Option Addr} {sl4 : Array (Option Value)} {kV4 dc4 pm4 cd4 ct4 : Value} {f4 : Addr} {o5 : Value} {od5 an5 : Option Addr} {sl5 : Array (Option Value)} {kV5 dc5 pm5 cd5 ct5 : Value} {f5 : Addr} {o6 : Value} {od6 an6 : Option Addr} {sl6 : Array (Option Value)} {kV6 dc6 pm6 cd6 ct6 : Value} {f6 : Addr} {o7 : Value} {od7 an7 : Option Addr} {sl7 : Array (Option Value)} {kV7 dc7 pm7 cd7 ct7 : Value} {f7 : Addr} {o8 : Value} {od8 an8 : Option Addr} {sl8 : Array (Option Value)} {kV8 dc8 pm8 cd8 ct8 : Value} {f8 : Addr} {o9 : Value} {od9 an9 : Option Addr} {sl9 : Array (Option Value)} {kV9 dc9 pm9 cd9 ct9 : Value} {f9 : Addr} {o10 : Value} {od10 an10 : Option Addr} {sl10 : Array (Option Value)} {kV10 dc10 pm10 cd10 ct10 : Value} {f10 : Addr} {o11 : Value} {od11 an11 : Option Addr} {sl11 : Array (Option Value)} {kV11 dc11 pm11 cd11 ct11 : Value} {f11 : Addr} {o12 : Value} {od12 an12 : Option Addr} {sl12 : Array (Option Value)} {kV12 dc12 pm12 cd12 ct12 : Value} {f12 : Addr} {o13 : Value} {od13 an13 : Option Addr} {sl13 : Array (Option Value)} {kV13 dc13 pm13 cd13 ct13 : Value} {f13 : Addr} {o14 : Value} {od14 an14 : Option Addr} {sl14 : Array (Option Value)} {kV14 dc14 pm14 cd14 ct14 : Value} {f14 : Addr} {o15 : Value} {od15 an15 : Option Addr} {sl15 : Array (Option Value)} {kV15 dc15 pm15 cd15 ct15 : Value} {f15 : Addr}
    (a0 : PySem.W.nsIn K mainGlobals "common_divisor" = some (some (.ref f0))) (l0 : K.lookup f0 = some ⟨o0, od0, .func (PySem.W.fnOf "common_divisor" "common_divisor" (defArgs sCd) (defBody sCd) (defScope sCd) .none kV0 dc0 pm0 an0 cd0 ct0), sl0⟩) (c0 : PySem.W.codeIn K cd0 "common_divisor" = true) (k0 : PySem.W.keepIn K (.ref f0) = true)
    (a1 : PySem.W.nsIn K mainGlobals "ratio" = some (some (.ref f1))) (l1 : K.lookup f1 = some ⟨o1, od1, .func (PySem.W.fnOf "ratio" "ratio" (defArgs sRatio) (defBody sRatio) (defScope sRatio) .none kV1 dc1 pm1 an1 cd1 ct1), sl1⟩) (c1 : PySem.W.codeIn K cd1 "ratio" = true) (k1 : PySem.W.keepIn K (.ref f1) = true)
    (a2 : PySem.W.nsIn K mainGlobals "added" = some (some (.ref f2))) (l2 : K.lookup f2 = some ⟨o2, od2, .func (PySem.W.fnOf "added" "added" (defArgs sAdded) (defBody sAdded) (defScope sAdded) .none kV2 dc2 pm2 an2 cd2 ct2), sl2⟩) (c2 : PySem.W.codeIn K cd2 "added" = true) (k2 : PySem.W.keepIn K (.ref f2) = true)
    (a3 : PySem.W.nsIn K mainGlobals "less" = some (some (.ref f3))) (l3 : K.lookup f3 = some ⟨o3, od3, .func (PySem.W.fnOf "less" "less" (defArgs sLess) (defBody sLess) (defScope sLess) .none kV3 dc3 pm3 an3 cd3 ct3), sl3⟩) (c3 : PySem.W.codeIn K cd3 "less" = true) (k3 : PySem.W.keepIn K (.ref f3) = true)
    (a4 : PySem.W.nsIn K mainGlobals "times" = some (some (.ref f4))) (l4 : K.lookup f4 = some ⟨o4, od4, .func (PySem.W.fnOf "times" "times" (defArgs sTimes) (defBody sTimes) (defScope sTimes) .none kV4 dc4 pm4 an4 cd4 ct4), sl4⟩) (c4 : PySem.W.codeIn K cd4 "times" = true) (k4 : PySem.W.keepIn K (.ref f4) = true)
    (a5 : PySem.W.nsIn K mainGlobals "parted" = some (some (.ref f5))) (l5 : K.lookup f5 = some ⟨o5, od5, .func (PySem.W.fnOf "parted" "parted" (defArgs sParted) (defBody sParted) (defScope sParted) .none kV5 dc5 pm5 an5 cd5 ct5), sl5⟩) (c5 : PySem.W.codeIn K cd5 "parted" = true) (k5 : PySem.W.keepIn K (.ref f5) = true)
    (a6 : PySem.W.nsIn K mainGlobals "is_below" = some (some (.ref f6))) (l6 : K.lookup f6 = some ⟨o6, od6, .func (PySem.W.fnOf "is_below" "is_below" (defArgs sBelow) (defBody sBelow) (defScope sBelow) .none kV6 dc6 pm6 an6 cd6 ct6), sl6⟩) (c6 : PySem.W.codeIn K cd6 "is_below" = true) (k6 : PySem.W.keepIn K (.ref f6) = true)
    (a7 : PySem.W.nsIn K mainGlobals "_law_feed" = some (some (.ref f7))) (l7 : K.lookup f7 = some ⟨o7, od7, .func (PySem.W.fnOf "_law_feed" "_law_feed" (defArgs sFeed) (defBody sFeed) (defScope sFeed) .none kV7 dc7 pm7 an7 cd7 ct7), sl7⟩) (c7 : PySem.W.codeIn K cd7 "_law_feed" = true) (k7 : PySem.W.keepIn K (.ref f7) = true)
    (a8 : PySem.W.nsIn K mainGlobals "_law_draw" = some (some (.ref f8))) (l8 : K.lookup f8 = some ⟨o8, od8, .func (PySem.W.fnOf "_law_draw" "_law_draw" (defArgs sDraw) (defBody sDraw) (defScope sDraw) .none kV8 dc8 pm8 an8 cd8 ct8), sl8⟩) (c8 : PySem.W.codeIn K cd8 "_law_draw" = true) (k8 : PySem.W.keepIn K (.ref f8) = true)
    (a9 : PySem.W.nsIn K mainGlobals "_law_divisor" = some (some (.ref f9))) (l9 : K.lookup f9 = some ⟨o9, od9, .func (PySem.W.fnOf "_law_divisor" "_law_divisor" (defArgs sDiv) (defBody sDiv) (defScope sDiv) .none kV9 dc9 pm9 an9 cd9 ct9), sl9⟩) (c9 : PySem.W.codeIn K cd9 "_law_divisor" = true) (k9 : PySem.W.keepIn K (.ref f9) = true)
    (a10 : PySem.W.nsIn K mainGlobals "_law_made" = some (some (.ref f10))) (l10 : K.lookup f10 = some ⟨o10, od10, .func (PySem.W.fnOf "_law_made" "_law_made" (defArgs sMade) (defBody sMade) (defScope sMade) .none kV10 dc10 pm10 an10 cd10 ct10), sl10⟩) (c10 : PySem.W.codeIn K cd10 "_law_made" = true) (k10 : PySem.W.keepIn K (.ref f10) = true)
    (a11 : PySem.W.nsIn K mainGlobals "_law_fraction" = some (some (.ref f11))) (l11 : K.lookup f11 = some ⟨o11, od11, .func (PySem.W.fnOf "_law_fraction" "_law_fraction" (defArgs sFrac) (defBody sFrac) (defScope sFrac) .none kV11 dc11 pm11 an11 cd11 ct11), sl11⟩) (c11 : PySem.W.codeIn K cd11 "_law_fraction" = true) (k11 : PySem.W.keepIn K (.ref f11) = true)
    (a12 : PySem.W.nsIn K mainGlobals "_law_is_right" = some (some (.ref f12))) (l12 : K.lookup f12 = some ⟨o12, od12, .func (PySem.W.fnOf "_law_is_right" "_law_is_right" (defArgs sRight) (defBody sRight) (defScope sRight) .none kV12 dc12 pm12 an12 cd12 ct12), sl12⟩) (c12 : PySem.W.codeIn K cd12 "_law_is_right" = true) (k12 : PySem.W.keepIn K (.ref f12) = true)
    (a13 : PySem.W.nsIn K mainGlobals "_law_threes_right" = some (some (.ref f13))) (l13 : K.lookup f13 = some ⟨o13, od13, .func (PySem.W.fnOf "_law_threes_right" "_law_threes_right" (defArgs sThrees) (defBody sThrees) (defScope sThrees) .none kV13 dc13 pm13 an13 cd13 ct13), sl13⟩) (c13 : PySem.W.codeIn K cd13 "_law_threes_right" = true) (k13 : PySem.W.keepIn K (.ref f13) = true)
    (a14 : PySem.W.nsIn K mainGlobals "_law_great_right" = some (some (.ref f14))) (l14 : K.lookup f14 = some ⟨o14, od14, .func (PySem.W.fnOf "_law_great_right" "_law_great_right" (defArgs sGreat) (defBody sGreat) (defScope sGreat) .none kV14 dc14 pm14 an14 cd14 ct14), sl14⟩) (c14 : PySem.W.codeIn K cd14 "_law_great_right" = true) (k14 : PySem.W.keepIn K (.ref f14) = true)
    (a15 : PySem.W.nsIn K mainGlobals "law" = some (some (.ref f15))) (l15 : K.lookup f15 = some ⟨o15, od15, .func (PySem.W.fnOf "law" "law" (defArgs sLaw) (defBody sLaw) (defScope sLaw) .none kV15 dc15 pm15 an15 cd15 ct15), sl15⟩) (c15 : PySem.W.codeIn K cd15 "law" = true) (k15 : PySem.W.keepIn K (.ref f15) = true)
    (z_abs : PySem.W.nsIn K mainGlobals "abs" = some none) (z_len : PySem.W.nsIn K mainGlobals "len" = some none) (z_repr : PySem.W.nsIn K mainGlobals "repr" = some none) (z_int : PySem.W.nsIn K mainGlobals "int" = some none) (z_range : PySem.W.nsIn K mainGlobals "range" = some none) :
    ∃ fd : FuncData, (∀ (s : Shared) (v : Value), BindsTo s fd ⟨[v], []⟩ [("_law_script", v)]) ∧ ∀ base : Heap, K.In base → base.Ns mainGlobals mg → FnG l.prog w K mg base 6 fa fd ["_law_script"] (spLaw K) := by
  have e := hfa.symm.trans (PySem.W.mg_of X G a15)
  cases e
  have F0 := fun_mk (st := sCd) l0 c0 k0
  have g0 := PySem.W.mg_of X G a0
  have b0 := F0.binds (ps := ["a", "b"]) fun _ _ _ _ _ _ us hl => match us, hl with | [_, _], _ => rfl
  have F1 := fun_mk (st := sRatio) l1 c1 k1
  have g1 := PySem.W.mg_of X G a1
  have b1 := F1.binds (ps := ["a", "b"]) fun _ _ _ _ _ _ us hl => match us, hl with | [_, _], _ => rfl
  have F2 := fun_mk (st := sAdded) l2 c2 k2
  have g2 := PySem.W.mg_of X G a2
  have b2 := F2.binds (ps := ["one", "other"]) fun _ _ _ _ _ _ us hl => match us, hl with | [_, _], _ => rfl
  have F3 := fun_mk (st := sLess) l3 c3 k3
  have g3 := PySem.W.mg_of X G a3
  have b3 := F3.binds (ps := ["one", "other"]) fun _ _ _ _ _ _ us hl => match us, hl with | [_, _], _ => rfl
  have F4 := fun_mk (st := sTimes) l4 c4 k4
  have g4 := PySem.W.mg_of X G a4
  have b4 := F4.binds (ps := ["one", "other"]) fun _ _ _ _ _ _ us hl => match us, hl with | [_, _], _ => rfl
  have F5 := fun_mk (st := sParted) l5 c5 k5
  have g5 := PySem.W.mg_of X G a5
  have b5 := F5.binds (ps := ["one", "other"]) fun _ _ _ _ _ _ us hl => match us, hl with | [_, _], _ => rfl
  have F6 := fun_mk (st := sBelow) l6 c6 k6
  have g6 := PySem.W.mg_of X G a6
  have b6 := F6.binds (ps := ["one", "other"]) fun _ _ _ _ _ _ us hl => match us, hl with | [_, _], _ => rfl
  have F7 := fun_mk (st := sFeed) l7 c7 k7
  have g7 := PySem.W.mg_of X G a7
  have b7 := F7.binds (ps := ["_law_script"]) fun _ _ _ _ _ _ us hl => match us, hl with | [_], _ => rfl
  have F8 := fun_mk (st := sDraw) l8 c8 k8
  have g8 := PySem.W.mg_of X G a8
  have b8 := F8.binds (ps := ["_law_feed_here", "_law_many"]) fun _ _ _ _ _ _ us hl => match us, hl with | [_, _], _ => rfl
  have F9 := fun_mk (st := sDiv) l9 c9 k9
  have g9 := PySem.W.mg_of X G a9
  have b9 := F9.binds (ps := ["_law_one", "_law_other"]) fun _ _ _ _ _ _ us hl => match us, hl with | [_, _], _ => rfl
  have F10 := fun_mk (st := sMade) l10 c10 k10
  have g10 := PySem.W.mg_of X G a10
  have b10 := F10.binds (ps := ["_law_a", "_law_b"]) fun _ _ _ _ _ _ us hl => match us, hl with | [_, _], _ => rfl
  have F11 := fun_mk (st := sFrac) l11 c11 k11
  have g11 := PySem.W.mg_of X G a11
  have b11 := F11.binds (ps := ["_law_feed_here"]) fun _ _ _ _ _ _ us hl => match us, hl with | [_], _ => rfl
  have F12 := fun_mk (st := sRight) l12 c12 k12
  have g12 := PySem.W.mg_of X G a12
  have b12 := F12.binds (ps := ["_law_one", "_law_other"]) fun _ _ _ _ _ _ us hl => match us, hl with | [_, _], _ => rfl
  have F13 := fun_mk (st := sThrees) l13 c13 k13
  have g13 := PySem.W.mg_of X G a13
  have b13 := F13.binds (ps := ["_law_a", "_law_b", "_law_c"]) fun _ _ _ _ _ _ us hl => match us, hl with | [_, _, _], _ => rfl
  have F14 := fun_mk (st := sGreat) l14 c14 k14
  have g14 := PySem.W.mg_of X G a14
  have b14 := F14.binds (ps := ["_law_feed_here"]) fun _ _ _ _ _ _ us hl => match us, hl with | [_], _ => rfl
  have F15 := fun_mk (st := sLaw) l15 c15 k15
  have g15 := PySem.W.mg_of X G a15
  have m_abs := PySem.W.mg_none_of X G z_abs
  have m_len := PySem.W.mg_none_of X G z_len
  have m_repr := PySem.W.mg_none_of X G z_repr
  have m_int := PySem.W.mg_none_of X G z_int
  have m_range := PySem.W.mg_none_of X G z_range
  refine ⟨PySem.W.fnOf "law" "law" (defArgs sLaw) (defBody sLaw) (defScope sLaw) .none kV15 dc15 pm15 an15 cd15 ct15, fun s v => .of_eq rfl, fun base _ _ => ?_⟩
  have R : Rat l.prog w K mg base f1 _ := ⟨ok_ratio F1 F0 b0 g0 m_abs, b1, g1, k1⟩
  have M : At l.prog w K mg base 2 "_law_made" ["_law_a", "_law_b"] spRatio f10 _ := ⟨ok_made F10 F9 b9 g9 m_abs, b10, g10, k10⟩
  have D : Defs l.prog w K mg base f1 f2 f3 f4 f5 f6 f10 _ _ _ _ _ _ _ := ⟨⟨R.G, b1, g1, k1⟩, ⟨ok_added F2 R, b2, g2, k2⟩, ⟨ok_less F3 R, b3, g3, k3⟩, ⟨ok_times F4 R, b4, g4, k4⟩, ⟨ok_parted F5 R, b5, g5, k5⟩, ⟨ok_below F6, b6, g6, k6⟩, M⟩
  have DR : At l.prog w K mg base 1 "_law_draw" ["_law_feed_here", "_law_many"] spDraw f8 _ := ⟨ok_draw F8 m_len, b8, g8, k8⟩
  have FR : At l.prog w K mg base 3 "_law_fraction" ["_law_feed_here"] spFrac f11 _ := ⟨ok_frac F11 DR M, b11, g11, k11⟩
  have RI : AtG l.prog w K mg base 4 "_law_is_right" ["_law_one", "_law_other"] (spRight K) f12 _ := ⟨ok_right F12 D m_abs m_int m_repr, b12, g12, k12⟩
  have TH : At l.prog w K mg base 4 "_law_threes_right" ["_law_a", "_law_b", "_law_c"] (spThrees K) f13 _ := ⟨ok_threes F13 D, b13, g13, k13⟩
  have GR : AtG l.prog w K mg base 5 "_law_great_right" ["_law_feed_here"] spGreat f14 _ := ⟨ok_great F14 D DR RI m_repr m_range, b14, g14, k14⟩
  exact ok_law F15 D ⟨ok_feed F7, b7, g7, k7⟩ FR RI TH GR m_range
end K
open PySem PySem.W PyProof.Rows in
set_option maxRecDepth 100000 in
set_option maxHeartbeats 0 in
theorem PySem.Challenge.cw_ledclocks_k02_fractions_reckoned_holds : PySem.Challenge.rw_ledclocks_k02_fractions_reckoned.Holds := by
  w_on; o_law; k_head; (case hw => w_witness2)
  k_fill
  refine G.walk_g (l := PySem.Challenge.rw_ledclocks_k02_fractions_reckoned) (n := 63) (k := 6) (x := "_law_script") (sp := fun w => K.spLaw _) rfl (by decide) rfl ⟨rfl, by decide, by decide⟩ (fun w h Y => PySem.W.kIn_of Y) ?F (fun _ _ a ns hl _ hS => ⟨a, ns, rfl, hS, hl, fun _ => rfl⟩)
  case F =>
    intro w mg fa h KX G hmg
    refine' K.all_mk KX G hmg ?a0 ?l0 ?c0 ?k0 ?a1 ?l1 ?c1 ?k1 ?a2 ?l2 ?c2 ?k2 ?a3 ?l3 ?c3 ?k3 ?a4 ?l4 ?c4 ?k4 ?a5 ?l5 ?c5 ?k5 ?a6 ?l6 ?c6 ?k6 ?a7 ?l7 ?c7 ?k7 ?a8 ?l8 ?c8 ?k8 ?a9 ?l9 ?c9 ?k9 ?a10 ?l10 ?c10 ?k10 ?a11 ?l11 ?c11 ?k11 ?a12 ?l12 ?c12 ?k12 ?a13 ?l13 ?c13 ?k13 ?a14 ?l14 ?c14 ?k14 ?a15 ?l15 ?c15 ?k15 ?z_abs ?z_len ?z_repr ?z_int ?z_range
    (case a0 => k_is)
    (case l0 => k_is)
    (case c0 => k_is)
    (case k0 => k_is)
    (case a1 => k_is)
    (case l1 => k_is)
    (case c1 => k_is)
    (case k1 => k_is)
    (case a2 => k_is)
    (case l2 => k_is)
    (case c2 => k_is)
    (case k2 => k_is)
    (case a3 => k_is)
    (case l3 => k_is)
    (case c3 => k_is)
    (case k3 => k_is)
    (case a4 => k_is)
    (case l4 => k_is)
    (case c4 => k_is)
    (case k4 => k_is)
    (case a5 => k_is)
    (case l5 => k_is)
    (case c5 => k_is)
    (case k5 => k_is)
    (case a6 => k_is)
    (case l6 => k_is)
    (case c6 => k_is)
    (case k6 => k_is)
    (case a7 => k_is)
    (case l7 => k_is)
    (case c7 => k_is)
    (case k7 => k_is)
    (case a8 => k_is)
    (case l8 => k_is)
    (case c8 => k_is)
    (case k8 => k_is)
    (case a9 => k_is)
    (case l9 => k_is)
    (case c9 => k_is)
    (case k9 => k_is)
    (case a10 => k_is)
    (case l10 => k_is)
    (case c10 => k_is)
    (case k10 => k_is)
    (case a11 => k_is)
    (case l11 => k_is)
    (case c11 => k_is)
    (case k11 => k_is)
    (case a12 => k_is)
    (case l12 => k_is)
    (case c12 => k_is)
    (case k12 => k_is)
    (case a13 => k_is)
    (case l13 => k_is)
    (case c13 => k_is)
    (case k13 => k_is)
    (case a14 => k_is)
    (case l14 => k_is)
    (case c14 => k_is)
    (case k14 => k_is)
    (case a15 => k_is)
    (case l15 => k_is)
    (case c15 => k_is)
    (case k15 => k_is)
    (case z_abs => k_is)
    (case z_len => k_is)
    (case z_repr => k_is)
    (case z_int => k_is)
    (case z_range => k_is)

