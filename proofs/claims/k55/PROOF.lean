import PyProof.Rows.All
import Wide.All
import OpenK.AllK
import Wide.FinOn
import HandS.ForMost
import HandS.Wide
import HandS.TryOnly
import HandS.Codes
import PyProof.ReprRoads
import HandS.Walk
import HandS.Strs
import HandS.Lambda
import HandS.Sort
import HandS.SortRule
import HandS.Style
import HandS.IsInst
import HandS.TupAny
import HandS.RaiseMore
import PyProof.StrOps2
import PyProof.StrLawsRepr
import KE.GoesMore
import PyProof.EnumMake
import PyProof.EnumFor
import PyProof.Draws
import HandS.Iter
import KE.GoesZip
import HandS.Zip
import KE.KSortTupAny
import HandS.SortOrd
import HandS.More
import HandS.Defaults
import HandS.MakeKwOnly
import HandS.DictComp
import HandS.Exc
import HandS.SetFor
import HandS.Deep
import PyProof.P3Eq
import HandS.TupLe
import HandS.ExcOwn
import HandS.ExcInit
import KE.KExcInit
import PySem.Challenge.RW_ledclocks_k55_nets_by_kind
set_option Elab.async false
set_option linter.all false
set_option maxRecDepth 100000
set_option maxHeartbeats 4000000
set_option exponentiation.threshold 3000
namespace G
open PySem PySem.Spec PyProof.Rows L2
/-- a def's promise where no repr is under way -/
structure FnG (P : Program) (w : World) (K : PySem.W.Frag) (mg : Str → Option Value) (base : Heap) (k : Nat) (f : Addr) (fd : FuncData) (ps : List Str) (sp : Sp) : Prop where
  len : ∀ vs H Q E, sp vs H Q E → vs.length = ps.length
  run : ∀ (A : Around) (outer : List Env) (s : Shared) (H : Hp) (args : Args) (us : List Value) (vs : List V) (Q : VK) (E : XK),
    A.guards = some [] → Room k A → Env0 P w K mg base A outer s H → BindsTo s fd args (ps.zip us) → Vals vs us → sp vs H Q E →
      codeAny (model P w) A (.call (.ref f) args) (CR CX0 outer P w H s Q E) s
section
variable {X : Cx} {k : Nat} {f : Addr} {fd : FuncData} {ps : List Str} {sp : Sp} {E : XK} {x : Str} {p pos : Pos} {e : Expr} {es : List Expr} {t : TA}
theorem run_g {pins : List (Addr × Obj)} {σ : L2.St} {H : Hp} {s : Shared} {Q : VK} {us : List Value} {vs : List V}
    (F : FnG X.prog X.w X.K X.mg X.base k f fd ps sp) (g : X.A.guards = some []) (hr : Room k X.A) (hb : Binds X.K fd ps [])
    (I : Inv X pins σ H s) (r : Vals vs us) (h : sp vs H Q E) :
    wpAny (model X.prog X.w) X.A (call (.ref f) us) (EP X pins σ Q) X.xe s := by
  have n1 : us.length = ps.length := r.length.symm.trans (F.len vs H Q E h)
  have b1 := hb s us I.kIn ((congrArg List.length (List.append_nil us)).trans n1)
  rw [List.append_nil] at b1
  refine wpAny_call (codeAny_mono (F.run X.A X.stack s H ⟨us, []⟩ us vs Q E g hr I.env0 b1 r h) ?_)
  intro res s' c
  match res, c with
  | .error _, c => exact False.elim c
  | .ok (.ret _), c => exact I.after c
  | .ok .next, c => exact False.elim c
  | .ok .brk, c => exact False.elim c
  | .ok .cont, c => exact False.elim c
/-- f(e, ..) of such a def -/
theorem pe_callG (F : FnG X.prog X.w X.K X.mg X.base k f fd ps sp) (g : X.A.guards = some []) (hr : Room k X.A) (hgl : Gl X x) (hm : X.mg x = some (.ref f))
    (hk : PySem.W.keepIn X.K (.ref f) = true) (hb : Binds X.K fd ps []) (ha : PA X (e :: es) t)
    (hdb : (x == ("__debug__" : Str)) = false := by decide)
    (he : starEach (e :: es) X.env = (false, eval e X.env) :: starEach es X.env := by rfl)
    (hpl : (backTo pos (starEach es X.env)).any (·.1) = false := by rfl) :
    PE X (.Call (.Name x p) (e :: es) [] pos) (fun σ H Q => t σ H fun vs H1 => sp vs H1 Q E0) := by
  constructor
  intro pins s σ H Q I h
  apply wpAny_Call_Name_kw
  apply ld_glob I hgl hm _ hdb
  refine PySem.W.callWith_K (h₀ := X.base) I.ok.mod.kin hk (thn (ha.run pos pins s σ H _ I h) ?_) he hpl
  rintro us s1 ⟨vs, H1, I1, r, q⟩
  exact ⟨I1.kIn, run_g (E := E0) F g hr hb I1 r q⟩
end
/-- such a def by its body -/
theorem fn_g {P : Program} {w : World} {K : PySem.W.Frag} {mg : Str → Option Value} {base : Heap} {x qual : Str} {st : Stmt} {f : Addr} {fd : FuncData} {N ps : List Str} {k : Nat} {sp : Sp}
    (F : Fun K x qual st f fd) (S : FnScope N ps (defScope st)) (len : ∀ vs H Q E, sp vs H Q E → vs.length = ps.length)
    (body : ∀ (cdv : Value) (A : Around) (outer : List Env) (s : Shared) (H : Hp) (vs : List V) (Q : VK) (E : XK), A.guards = some [] →
      Room k (A.deeper (envOfC qual (defScope st) s.heap.objs.size f cdv)) → sp vs H Q E →
      ∃ t, PSs (cxOf CX0 P w K mg base N qual (defScope st) f cdv A outer s H E).nox (defBody st) t ∧ t { nx := fun _ H' => Q .non H', rt := Q } (start N vs) H) :
    FnG P w K mg base (k + 1) f fd ps sp := by
  obtain ⟨oc, od, kV, doc, pm, an, cdv, ct, osl, rfl, lk, hcd⟩ := F.ex
  refine ⟨len, ?_⟩
  intro A outer s H args us vs Q E g hr e0 hb r hsp
  have up : ∀ b o, base.get? b = some o → s.heap.get? b = some o := fun b o e => (e0.bs b o e).1
  have KX : K.In s.heap := e0.mod.kin.keeps up
  refine codeAny_call_function hr.depth (KX _ _ lk) rfl S.co S.gen rfl (PySem.W.codeRec_of KX hcd) (hb _ _ _ _ ?_)
  refine wpAny_newFunctionEnv_cells S.kind ?_ ?_
  · rintro ⟨n, v⟩ hy
    cases S.par n (List.of_mem_zip hy).1 with
    | inl q => exact .inl q
    | inr q => exact .inr ⟨q, PySem.W.cellsFrom_some _ _ _ (.inl q)⟩
  · rintro env rfl s1 x
    refine ⟨(e0.mod.nolimit.keeps up).keeps x.toInCall.keep, codeAny_func ?_⟩
    obtain ⟨t, ht, hq⟩ := body cdv A outer s H vs Q E g (hr.deeper _) hsp
    have I := inv_start (CX := CX0) (E := E) S hr.hd e0 (len _ _ _ _ hsp) r x
    refine wpAny_mono (ht.nox.run [] s1 (start N vs) H _ I hq) ?_ (fun e s' hs => hs)
    intro fl s' hs
    match fl, hs with
    | .ret u, ⟨v, σ', H', J, rv, q⟩ => exact ⟨v, H', J.os, J.bare, J.base, J.hok, rv, q⟩
    | .next, ⟨σ', H', J, q⟩ => exact ⟨.non, H', J.os, J.bare, J.base, J.hok, rfl, q⟩
    | .brk, ⟨_, _, _, q⟩ => exact False.elim q
    | .cont, ⟨_, _, _, q⟩ => exact False.elim q
/-- the law's call, from a heap in which nothing but the script may be tracked -/
theorem law_core {P : Program} {w : World} {K : PySem.W.Frag} {mg mb : Str → Option Value} {k : Nat} {fa a : Addr} {fd : FuncData} {x : Str} {sp : Sp} {s₁ : Shared} {vs : List Value}
    (KX : K.In s₁.heap) (hns : s₁.heap.Ns mainGlobals mg) (hb : s₁.heap.Ns builtinsNs mb) (hbb : ∀ x : Str, x ≠ "__name__" → mb x = bootBuiltins x) (hlim : s₁.heap.NoLimit) (hg : s₁.gens = #[])
    (ha : s₁.heap.get? a = some { cls := .type "list", data := .seq vs.toArray }) (hr : Room k callerA)
    (F : ∀ base : Heap, K.In base → base.Ns mainGlobals mg → FnG P w K mg base k fa fd [x] sp) (hbind : ∀ (s : Shared) (u : Value), BindsTo s fd ⟨[u], []⟩ [(x, u)])
    (H : Hp) (hO : Only H) (hok : HOk P w H s₁.heap) (hA : ∀ b, H b ≠ none → b = a) (hK : H a ≠ none → K.lookup a = none)
    (hsp : sp [.ref a] H (fun v _ => v = .bl true) fun _ _ _ => False) :
    codeAny (model P w) callerA (.call (.ref fa) ⟨[.ref a], []⟩) (fun r s' => r = .ok (.ret (.bool true)) ∧ OldK s₁.heap s'.heap ∧ s'.os = s₁.os ∧ AllBare s'.gens) s₁ := by
  have free : ∀ {b : Addr} {o : Obj}, s₁.heap.get? b = some o → (b = a → False) → H b = none := by
    intro b o _ hne
    cases q : H b with
    | none => rfl
    | some u => exact (hne (hA b (by simp [q]))).elim
  have hid : ∀ {b : Addr} {o : Obj}, s₁.heap.get? b = some o → H b = none → (hidT s₁.heap H).get? b = some o := fun e n => hidT_get e n
  have ns_of : ∀ {b : Addr} {m : Str → Option Value}, s₁.heap.Ns b m → (hidT s₁.heap H).Ns b m := by
    rintro b m ⟨o, es, ep, e, d, r⟩
    refine ⟨o, es, ep, hid e (free e fun z => ?_), d, r⟩
    subst z
    rw [ha] at e
    cases e
    cases (d : Data.seq vs.toArray _ = Data.dict es ep)
  have kin : K.In (hidT s₁.heap H) := by
    intro b o e
    have e2 := KX b o e
    cases q : H b with
    | none => exact hid e2 q
    | some u =>
      have z := hA b (by simp [q])
      subst z
      rw [hK (by simp [q])] at e
      cases e
  obtain ⟨mc, l1, l2⟩ := hlim
  have md : Mod K mg (hidT s₁.heap H) := ⟨kin, ns_of hns, ⟨mb, ns_of hb, hbb⟩, ⟨mc, ns_of l1, l2⟩⟩
  have none_in : ∀ {b : Addr} {Z : Prop}, b ∈ ([] : List Addr) → Z := fun z => (nomatch z)
  have e0 : Env0 P w K mg (hidT s₁.heap H) callerA [] s₁ H :=
    ⟨rfl, md, fun b o e => of_hidT e, Nat.le_of_eq (hidT_size _ _), trivial, fun b z => none_in z, hok, .of_eq hg⟩
  refine codeAny_mono ((F _ kin (ns_of hns)).run callerA [] s₁ H ⟨[.ref a], []⟩ [.ref a] [.ref a] _ _ rfl hr e0 (hbind s₁ (.ref a)) (.cons rfl .nil) hsp) ?_
  intro r s' c
  match r, c with
  | .error _, c => exact False.elim c
  | .ok .next, c => exact False.elim c
  | .ok .brk, c => exact False.elim c
  | .ok .cont, c => exact False.elim c
  | .ok (.ret u), ⟨v, H', os, bare, un, hok', rv, q⟩ =>
    have q' : v = .bl true := q
    subst q'
    obtain rfl : u = Value.bool true := rv
    refine ⟨rfl, OldK.of_keep ?_, os, bare⟩
    intro b o e
    cases hq : H b with
    | none => exact un.keep b o e hq (fun z => none_in z) (by simp)
    | some u =>
      cases hO b with
      | inl z => rw [hq] at z; cases z
      | inr z =>
        obtain ⟨ob, xs, z⟩ := z
        have o1 := (hok b _ z).1
        have o2 := (hok' b _ (un.frzs b ob _ z)).1
        rw [e] at o1
        cases o1
        exact o2
theorem law_g {P : Program} {w : World} {K : PySem.W.Frag} {mg mb : Str → Option Value} {k : Nat} {fa a : Addr} {fd : FuncData} {x : Str} {sp : Sp} {s₁ : Shared} {vs : List Value} {ns : List Int}
    (KX : K.In s₁.heap) (hns : s₁.heap.Ns mainGlobals mg) (hb : s₁.heap.Ns builtinsNs mb) (hbb : ∀ x : Str, x ≠ "__name__" → mb x = bootBuiltins x) (hlim : s₁.heap.NoLimit) (hg : s₁.gens = #[])
    (ha : s₁.heap.get? a = some { cls := .type "list", data := .seq vs.toArray }) (hi : IntsAre vs ns) (hl : ns.length ≤ sizeLine) (hr : Room k callerA)
    (F : ∀ base : Heap, K.In base → base.Ns mainGlobals mg → FnG P w K mg base k fa fd [x] sp) (hbind : ∀ (s : Shared) (u : Value), BindsTo s fd ⟨[u], []⟩ [(x, u)])
    (hsp : ∀ H : Hp, Only H → SqL K H a (ns.map V.int) → sp [.ref a] H (fun v _ => v = .bl true) fun _ _ _ => False) :
    codeAny (model P w) callerA (.call (.ref fa) ⟨[.ref a], []⟩) (fun r s' => r = .ok (.ret (.bool true)) ∧ OldK s₁.heap s'.heap ∧ s'.os = s₁.os ∧ AllBare s'.gens) s₁ := by
  have rv := vals_ints hi
  cases hk : K.lookup a with
  | some o =>
    have e := KX a o hk
    rw [ha] at e
    cases e
    have oo : Only (fun _ => none) := fun _ => .inl rfl
    refine law_core KX hns hb hbb hlim hg ha hr F hbind (fun _ => none) oo (fun b u z => by cases (z : (none : Option HO) = some u)) (fun b z => absurd rfl z) (fun z => absurd rfl z) (hsp _ oo ?_)
    refine .inr ⟨_, vs.toArray, _, hk, rfl, rfl, rfl, ?_, by simpa using rv⟩
    rw [List.size_toArray, hi.length]
    exact hl
  | none =>
    let H : Hp := fun b => if b = a then some (.frz { cls := .type "list", data := .seq vs.toArray } (.lst (ns.map V.int))) else none
    have at_ : H a = some (.frz { cls := .type "list", data := .seq vs.toArray } (.lst (ns.map V.int))) := if_pos rfl
    have off : ∀ {b : Addr}, b ≠ a → H b = none := fun n => if_neg n
    have oo : Only H := fun b => by
      by_cases z : b = a
      · subst z
        exact .inr ⟨_, _, at_⟩
      · exact .inl (off z)
    refine law_core KX hns hb hbb hlim hg ha hr F hbind H oo ?_ ?_ (fun _ => hk) (hsp _ oo (.inl (.inr ⟨_, at_⟩)))
    · intro b u z
      by_cases q : b = a
      · subst q
        rw [at_] at z
        cases z
        exact ⟨ha, by rw [List.length_map]; exact hl, vs, _, rv, ha⟩
      · rw [off q] at z
        cases z
    · intro b z
      by_cases q : b = a
      · exact q
      · exact absurd (off q) z
/-- what is left behind the head, from the law's promise -/
theorem walk_g {l : PySem.W.OpenLaw} {n k : Nat} {q : Program} {loose : List Str} {XP : (Str → Option Value) → Heap → Prop} {YP : World → Heap → Prop} {d : DefRec} {K : Params → PySem.W.Frag} {sp : World → Sp} {x : Str}
    (hn : l.most = some n) (hn2 : n ≤ sizeLine) (hdf : d.params.defaults = []) (hr : Room k callerA)
    (hY : ∀ (w : World) (h : Heap), YP w h → (K w.params).In h)
    (F : ∀ (w : World) (mg : Str → Option Value) (fa : Addr) (h : Heap), (K w.params).In h → h.Ns mainGlobals mg → mg d.name = some (.ref fa) →
      ∃ fd : FuncData, (∀ (s : Shared) (u : Value), BindsTo s fd ⟨[u], []⟩ [(x, u)]) ∧
        ∀ base : Heap, (K w.params).In base → base.Ns mainGlobals mg → FnG l.prog w (K w.params) mg base k fa fd [x] (sp w))
    (hsp : ∀ (w : World) (H : Hp) (a : Addr) (ns : List Int), ns.length ≤ n → Only H → SqL (K w.params) H a (ns.map V.int) → sp w [.ref a] H (fun v _ => v = .bl true) fun _ _ _ => False) :
    PySem.W.WalkO q loose XP YP l.row.toRowW d [] (fun f vs => PySem.call f vs) := by
  refine Att.attach_call hn hdf ?_
  intro w s₀ s₁ mg mb fa o pm cd doc a vs ns G Y ho hd hcd hmg hobj hints hlen hg
  obtain ⟨fd, hb, hF⟩ := F w mg fa _ (hY w _ Y) G.T.g hmg
  exact law_g (hY w _ Y) G.T.g G.T.b G.T.builtins G.T.nolimit hg hobj hints (Nat.le_trans hlen hn2) hr hF hb (fun H oo hS => hsp w H a ns hlen oo hS)
end G
namespace AL
open PySem PySem.Spec PyProof.Rows L2 G
inductive Val where
  | non | bl (b : Bool) | int (i : Int) | str (x : Str) | tup (vs : List Val) | ref (n : Nat) | scr (ns : List Int)
  /-- a lambda that was handed over: its object, its code object, its name, what its maker holds -/
  | lam (f c : Addr) (q : Str) (us : List V) (vs : List Val)
  /-- an exception that a suite holds: its object, its dict, its class, its fields -/
  | exc (a dd : Addr) (c : Str) (vs : List Val)
inductive Ob where
  | lst (vs : List Val)
  | dic (kvs : List (Key × Val))
  | set (w : World) (f : Int → Bool) (n : Nat)
abbrev Sto := List Ob
/-- the tables of code objects that stand open -/
class TT where
  T : List (Addr × Str)
instance (priority := low) noTT : TT := ⟨[]⟩
/-- the fields of the program's refusals -/
def xfs (c : Str) : List Str := if c = "NoPaper" then ["word", "at"] else if c = "NoEvent" then ["word", "at"] else if c = "NoWorld" then ["ring"] else if c = "Lied" then ["many"] else if c = "NoText" then ["row", "word"] else if c = "NoRow" then ["row"] else if c = "NoHouse" then ["name"] else ["number"]
/-- a set is no code object -/
theorem set_ne_code {w : World} {a : Addr} {f : Int → Bool} {n : Nat} {q : Str} : SetO w a f n ≠ LamX.CodeO a q := by
  intro z
  have e : (fun h => SetR w h a f n) = fun h => ∃ (oc : Obj) (vs : Array Value) (t : Tok), h.get? a = some oc ∧ oc.data = .fields vs ∧ vs[1]? = some (.str q t) := HO.ext.inj z
  have g : (⟨Array.replicate (a + 1) { cls := .none, data := .fields #[.none, .str q 0] }, {}⟩ : Heap).get? a = some { cls := .none, data := .fields #[.none, .str q 0] } := by
    unfold Heap.get?
    simp
  have y := congrFun e ⟨Array.replicate (a + 1) { cls := .none, data := .fields #[.none, .str q 0] }, {}⟩
  have h2 : ∃ (oc : Obj) (vs : Array Value) (t : Tok), (⟨Array.replicate (a + 1) { cls := .none, data := .fields #[.none, .str q 0] }, {}⟩ : Heap).get? a = some oc ∧ oc.data = .fields vs ∧ vs[1]? = some (.str q t) := ⟨_, _, 0, g, rfl, rfl⟩
  obtain ⟨o, es, ep, t, ho, _, hd, _⟩ := y.mpr h2
  rw [g] at ho
  cases ho
  cases hd
abbrev Rho := List (Option Val)
/-- the script: never written -/
def SqF (K : PySem.W.Frag) (H : Hp) (a : Addr) (ns : List Int) : Prop :=
  (∃ o, H a = some (.frz o (.lst (ns.map V.int)))) ∨ ∃ (o : Obj) (its : Array Value) (n : Nat), K.lookup a = some o ∧ o.cls = .type "list" ∧ o.dict = none ∧ o.data = .seq its n ∧ its.size ≤ sizeLine ∧ Vals (ns.map V.int) its.toList
theorem SqF.sq {K : PySem.W.Frag} {H : Hp} {a : Addr} {ns : List Int} (h : SqF K H a ns) : SqL K H a (ns.map V.int) := by
  rcases h with ⟨o, h⟩ | h
  · exact .inl (.inr ⟨o, h⟩)
  · exact .inr h
/-- a tuple that is read: tracked or written -/
def TupAt (K : PySem.W.Frag) (H : Hp) (a : Addr) (xs : List V) : Prop :=
  H a = some (.tup xs) ∨ ∃ (o : Obj) (its : Array Value) (n : Nat), K.lookup a = some o ∧ o.cls = .type "tuple" ∧ o.data = .seq its n ∧ its.size ≤ sizeLine ∧ Vals xs its.toList
theorem TupAt.sq {K : PySem.W.Frag} {H : Hp} {a : Addr} {xs : List V} (h : TupAt K H a xs) : SqT K H a xs := by
  rcases h with h | h
  · exact .inl (.inl h)
  · exact .inr h
mutual
inductive VR (K : PySem.W.Frag) (H : Hp) (m : List Addr) : V → Val → Prop
  | non : VR K H m .non .non
  | bl (b : Bool) : VR K H m (.bl b) (.bl b)
  | int (i : Int) : VR K H m (.int i) (.int i)
  | str (x : Str) : VR K H m (.str x) (.str x)
  | tup {a : Addr} {xs : List V} {vs : List Val} : TupAt K H a xs → VRs K H m xs vs → VR K H m (.ref a) (.tup vs)
  | ref {a : Addr} {n : Nat} : m[n]? = some a → VR K H m (.ref a) (.ref n)
  | scr {a : Addr} {ns : List Int} : SqF K H a ns → VR K H m (.ref a) (.scr ns)
  | lam {f c : Addr} {q : Str} {us : List V} {vs : List Val} : H c = some (LamX.CodeO c q) → VRs K H m us vs → VR K H m (.ref f) (.lam f c q us vs)
  | exc {a dd : Addr} {c : Str} {fs : List (Str × V)} {us : List V} {vs : List Val} : H dd = some (.xd fs) → (∀ (i : Nat) (n : Str) (u : V), (xfs c)[i]? = some n → us[i]? = some u → fs.lookup n = some u) → VRs K H m us vs → VR K H m (.ref a) (.exc a dd c vs)
inductive VRs (K : PySem.W.Frag) (H : Hp) (m : List Addr) : List V → List Val → Prop
  | nil : VRs K H m [] []
  | cons {u : V} {us : List V} {v : Val} {vs : List Val} : VR K H m u v → VRs K H m us vs → VRs K H m (u :: us) (v :: vs)
end
/-- what carries values over -/
structure Kp (m : List Addr) (H : Hp) (m' : List Addr) (H' : Hp) : Prop where
  pre : ∃ r, m' = m ++ r
  tup : ∀ a xs, H a = some (.tup xs) → H' a = some (.tup xs)
  frz : ∀ a o u, H a = some (.frz o u) → H' a = some (.frz o u)
  xd : ∀ a fs, H a = some (.xd fs) → H' a = some (.xd fs)
  cod : ∀ a q, H a = some (LamX.CodeO a q) → H' a = some (LamX.CodeO a q)
theorem Kp.refl (m : List Addr) (H : Hp) : Kp m H m H := ⟨⟨[], (List.append_nil m).symm⟩, fun _ _ h => h, fun _ _ _ h => h, fun _ _ h => h, fun _ _ h => h⟩
theorem Kp.grow {m : List Addr} {H H' : Hp} (r : List Addr) (k : Kp m H m H') : Kp m H (m ++ r) H' := ⟨⟨r, rfl⟩, k.tup, k.frz, k.xd, k.cod⟩
theorem Kp.trans {m m1 m2 : List Addr} {H H1 H2 : Hp} (a : Kp m H m1 H1) (b : Kp m1 H1 m2 H2) : Kp m H m2 H2 := by
  obtain ⟨r, rfl⟩ := a.pre
  obtain ⟨q, rfl⟩ := b.pre
  exact ⟨⟨r ++ q, List.append_assoc ..⟩, fun x y h => b.tup x y (a.tup x y h), fun x y z h => b.frz x y z (a.frz x y z h), fun x y h => b.xd x y (a.xd x y h), fun x y h => b.cod x y (a.cod x y h)⟩
theorem Kp.get {m m' : List Addr} {H H' : Hp} (k : Kp m H m' H') {n : Nat} {a : Addr} (h : m[n]? = some a) : m'[n]? = some a := by
  obtain ⟨r, rfl⟩ := k.pre
  rw [List.getElem?_append_left (List.getElem?_eq_some_iff.mp h).1]
  exact h
/-- what may be written: a list, a dict, a set -/
def Mut (a : Addr) : HO → Prop := fun u => (∃ xs, u = .lst xs) ∨ (∃ xs, u = .dK xs) ∨ ∃ w f n, u = SetO w a f n
theorem Mut.ne {a : Addr} {u : HO} (h : Mut a u) : (∀ xs, u ≠ .tup xs) ∧ (∀ o v, u ≠ .frz o v) ∧ (∀ fs, u ≠ .xd fs) ∧ (∀ q, u ≠ LamX.CodeO a q) ∧ ∀ ps, u ≠ .tbl ps := by
  rcases h with ⟨xs, rfl⟩ | ⟨xs, rfl⟩ | ⟨w, f, n, rfl⟩
  · refine ⟨?_, ?_, ?_, ?_, ?_⟩ <;> intros <;> intro z <;> cases z
  · refine ⟨?_, ?_, ?_, ?_, ?_⟩ <;> intros <;> intro z <;> cases z
  · refine ⟨fun _ z => ?_, fun _ _ z => ?_, fun _ z => ?_, fun _ => set_ne_code, fun _ z => ?_⟩ <;> (unfold SetO at z; cases z)
theorem Kp.at_ {m : List Addr} {H : Hp} {a : Addr} {o : HO} (h : ∀ u, H a = some u → Mut a u) : Kp m H m (upd H a o) := by
  refine ⟨⟨[], (List.append_nil m).symm⟩, fun b xs e => ?_, fun b o' u e => ?_, fun b xs e => ?_, fun b xs e => ?_⟩
  · rw [upd_ne (show b ≠ a from fun z => (h _ (z ▸ e)).ne.1 xs rfl)]
    exact e
  · rw [upd_ne (show b ≠ a from fun z => (h _ (z ▸ e)).ne.2.1 o' u rfl)]
    exact e
  · rw [upd_ne (show b ≠ a from fun z => (h _ (z ▸ e)).ne.2.2.1 xs rfl)]
    exact e
  · by_cases z : b = a
    · subst z
      exact absurd rfl ((h _ e).ne.2.2.2.1 xs)
    · rw [upd_ne z]
      exact e
theorem Kp.new {m : List Addr} {H : Hp} {a : Addr} {o : HO} (h : H a = none) : Kp m H m (upd H a o) := .at_ fun u e => by rw [h] at e; cases e
section
variable {K : PySem.W.Frag} {H H' : Hp} {m m' : List Addr}
theorem TupAt.kp (k : Kp m H m' H') {a : Addr} {xs : List V} (h : TupAt K H a xs) : TupAt K H' a xs := by
  rcases h with h | h
  · exact .inl (k.tup _ _ h)
  · exact .inr h
theorem SqF.kp (k : Kp m H m' H') {a : Addr} {ns : List Int} (h : SqF K H a ns) : SqF K H' a ns := by
  rcases h with ⟨o, h⟩ | h
  · exact .inl ⟨o, k.frz _ _ _ h⟩
  · exact .inr h
mutual
theorem VR.kpA (k : Kp m H m' H') : ∀ (v : Val) (u : V), VR K H m u v → VR K H' m' u v
  | .non, _, h => by cases h; exact .non
  | .bl b, _, h => by cases h; exact .bl _
  | .int i, _, h => by cases h; exact .int _
  | .str x, _, h => by cases h; exact .str _
  | .ref n, _, h => by
    cases h with
    | ref e => exact .ref (k.get e)
  | .scr ns, _, h => by
    cases h with
    | scr e => exact .scr (e.kp k)
  | .lam f c q us vs, _, h => by
    cases h with
    | lam e r => exact .lam (k.cod _ _ e) (VRs.kpA k vs _ r)
  | .exc a dd c vs, _, h => by
    cases h with
    | exc e l r => exact .exc (k.xd _ _ e) l (VRs.kpA k vs _ r)
  | .tup vs, _, h => by
    cases h with
    | tup e r => exact .tup (e.kp k) (VRs.kpA k vs _ r)
theorem VRs.kpA (k : Kp m H m' H') : ∀ (vs : List Val) (us : List V), VRs K H m us vs → VRs K H' m' us vs
  | [], _, h => by cases h; exact .nil
  | v :: vs, _, h => by
    cases h with
    | cons a r => exact .cons (VR.kpA k v _ a) (VRs.kpA k vs _ r)
end
theorem VR.kp {u : V} {v : Val} (h : VR K H m u v) (k : Kp m H m' H') : VR K H' m' u v := VR.kpA k v u h
theorem VRs.kp {us : List V} {vs : List Val} (h : VRs K H m us vs) (k : Kp m H m' H') : VRs K H' m' us vs := VRs.kpA k vs us h
theorem VRs.len : ∀ {us : List V} {vs : List Val}, VRs K H m us vs → us.length = vs.length
  | _, _, .nil => rfl
  | _, _, .cons _ r => by rw [List.length_cons, List.length_cons, r.len]
theorem VRs.get : ∀ {us : List V} {vs : List Val} {i : Nat} {v : Val}, VRs K H m us vs → vs[i]? = some v → ∃ u, us[i]? = some u ∧ VR K H m u v
  | _, _, _, _, .nil, e => by simp at e
  | _, _, 0, _, .cons a q, e => by
    cases e
    exact ⟨_, rfl, a⟩
  | _, _, i + 1, _, .cons a q, e => q.get (i := i) e
theorem VRs.app : ∀ {us ws : List V} {vs xs : List Val}, VRs K H m us vs → VRs K H m ws xs → VRs K H m (us ++ ws) (vs ++ xs)
  | _, _, _, _, .nil, r => r
  | _, _, _, _, .cons a q, r => .cons a (q.app r)
theorem VRs.take : ∀ {us : List V} {vs : List Val} (n : Nat), VRs K H m us vs → VRs K H m (us.take n) (vs.take n)
  | _, _, 0, _ => .nil
  | _, _, _ + 1, .nil => .nil
  | _, _, n + 1, .cons a q => .cons a (q.take n)
theorem VRs.drop : ∀ {us : List V} {vs : List Val} (n : Nat), VRs K H m us vs → VRs K H m (us.drop n) (vs.drop n)
  | _, _, 0, h => h
  | _, _, _ + 1, .nil => .nil
  | _, _, n + 1, .cons a q => q.drop n
theorem VRs.set {u : V} {v : Val} (h : VR K H m u v) : ∀ {us : List V} {vs : List Val} (n : Nat), VRs K H m us vs → VRs K H m (us.set n u) (vs.set n v)
  | _, _, _, .nil => .nil
  | _, _, 0, .cons a q => .cons h q
  | _, _, n + 1, .cons a q => .cons a (q.set h n)
theorem VR.one {u : V} {v : Val} (h : VR K H m u v) : VRs K H m [u] [v] := .cons h .nil
end
/-- an object of the store and what stands at its address -/
def OR (K : PySem.W.Frag) (H : Hp) (m : List Addr) (a : Addr) : Ob → Prop
  | .lst vs => ∃ xs, H a = some (.lst xs) ∧ VRs K H m xs vs
  | .dic kvs => ∃ xs : List (Key × V), H a = some (.dK xs) ∧ xs.map (·.1) = kvs.map (·.1) ∧ VRs K H m (xs.map (·.2)) (kvs.map (·.2))
  | .set w f n => H a = some (SetO w a f n)
variable [TT]
structure Rel (K : PySem.W.Frag) (m : List Addr) (S : Sto) (H : Hp) : Prop where
  len : m.length = S.length
  nd : m.Nodup
  ob : ∀ (n : Nat) (o : Ob) (a : Addr), S[n]? = some o → m[n]? = some a → OR K H m a o
  tb : LamX.Tabs TT.T H
structure Ext (m : List Addr) (H : Hp) (m' : List Addr) (H' : Hp) : Prop where
  pre : ∃ r, m' = m ++ r
  fr' : ∀ a o, H a = some o → a ∉ m → (∀ ps, o ≠ .tbl ps) → H' a = some o
  nw' : ∀ a o, a ∈ m' → a ∉ m → H a = some o → ∃ ps, o = .tbl ps
section
variable {K : PySem.W.Frag} {H H' H2 : Hp} {m m' m2 : List Addr} {S S' : Sto}
omit [TT] in
theorem Ext.refl (m : List Addr) (H : Hp) : Ext m H m H := ⟨⟨[], (List.append_nil m).symm⟩, fun _ _ h _ _ => h, fun _ _ h n => absurd h n⟩
omit [TT] in
theorem Ext.fr (e : Ext m H m' H') (a : Addr) (o : HO) (h : H a = some o) (n : a ∉ m) (t : ∀ ps, o ≠ .tbl ps := by intro ps z; cases z) : H' a = some o := e.fr' a o h n t
omit [TT] in
theorem Ext.no (e : Ext m H m' H') {a : Addr} {o : HO} (h : H a = some o) (n : a ∉ m) (t : ∀ ps, o ≠ .tbl ps := by intro ps z; cases z) : a ∉ m' := fun z => by
  obtain ⟨ps, e⟩ := e.nw' a o z n h
  exact t ps e
omit [TT] in
theorem Ext.mem (e : Ext m H m' H') {a : Addr} (h : a ∈ m) : a ∈ m' := by
  obtain ⟨r, rfl⟩ := e.pre
  exact List.mem_append_left _ h
omit [TT] in
theorem Ext.trans (a : Ext m H m' H') (b : Ext m' H' m2 H2) : Ext m H m2 H2 := by
  refine ⟨?_, fun x o h n t => b.fr' x o (a.fr' x o h n t) (a.no h n t) t, fun x o h n e => ?_⟩
  · obtain ⟨r, rfl⟩ := a.pre
    obtain ⟨q, rfl⟩ := b.pre
    exact ⟨r ++ q, List.append_assoc ..⟩
  · by_cases t : ∀ ps, o ≠ .tbl ps
    · exact b.nw' x o h (a.no e n t) (a.fr' x o e n t)
    · simpa using t
theorem Rel.find (R : Rel K m S H) {n : Nat} {a : Addr} (h : m[n]? = some a) : ∃ o, S[n]? = some o ∧ OR K H m a o := by
  have l := (List.getElem?_eq_some_iff.mp h).1
  have l2 : n < S.length := by rw [← R.len]; exact l
  exact ⟨S[n], List.getElem?_eq_getElem l2, R.ob n _ a (List.getElem?_eq_getElem l2) h⟩
omit [TT] in
theorem OR.some {a : Addr} {o : Ob} (h : OR K H m a o) : ∃ u, H a = some u ∧ Mut a u := by
  cases o with
  | lst vs => obtain ⟨xs, h, _⟩ := h; exact ⟨_, h, .inl ⟨xs, rfl⟩⟩
  | dic kvs => obtain ⟨xs, h, _⟩ := h; exact ⟨_, h, .inr (.inl ⟨xs, rfl⟩)⟩
  | set w f n => exact ⟨_, h, .inr (.inr ⟨w, f, n, rfl⟩)⟩
theorem Rel.held (R : Rel K m S H) {a : Addr} (h : a ∈ m) : ∃ u, H a = some u ∧ Mut a u := by
  obtain ⟨n, hn⟩ := List.getElem?_of_mem h
  obtain ⟨o, _, q⟩ := R.find hn
  exact q.some
theorem Rel.off_ (R : Rel K m S H) {a : Addr} {u : HO} (h : H a = some u) (hu : ¬ Mut a u) : a ∉ m := fun z => by
  obtain ⟨u', e, hm⟩ := R.held z
  rw [h] at e
  cases e
  exact hu hm
theorem Rel.noTup (R : Rel K m S H) {a : Addr} {xs : List V} (h : H a = some (.tup xs)) : a ∉ m := R.off_ h fun z => z.ne.1 xs rfl
theorem Rel.noFrz (R : Rel K m S H) {a : Addr} {o : Obj} {u : HO} (h : H a = some (.frz o u)) : a ∉ m := R.off_ h fun z => z.ne.2.1 o u rfl
theorem Rel.noXd (R : Rel K m S H) {a : Addr} {fs : List (Str × V)} (h : H a = some (.xd fs)) : a ∉ m := R.off_ h fun z => z.ne.2.2.1 fs rfl
theorem Rel.noCod (R : Rel K m S H) {a : Addr} {q : Str} (h : H a = some (LamX.CodeO a q)) : a ∉ m := R.off_ h fun z => z.ne.2.2.2.1 q rfl
theorem Rel.noTbl (R : Rel K m S H) {a : Addr} {ps : Array Value} (h : H a = some (.tbl ps)) : a ∉ m := R.off_ h fun z => z.ne.2.2.2.2 ps rfl
theorem Rel.noNone (R : Rel K m S H) {a : Addr} (h : H a = none) : a ∉ m := fun z => by
  obtain ⟨u', e, _⟩ := R.held z
  rw [h] at e
  cases e
/-- an object of the store is written: values stay -/
theorem Rel.kput (R : Rel K m S H) {a : Addr} {o : HO} (h : a ∈ m) : Kp m H m (upd H a o) := .at_ fun u e => by
  obtain ⟨u', e', hm⟩ := R.held h
  rw [e] at e'
  cases e'
  exact hm
theorem Ext.kp (R : Rel K m S H) (e : Ext m H m' H') : Kp m H m' H' := ⟨e.pre, fun a xs h => e.fr a _ h (R.noTup h), fun a o u h => e.fr a _ h (R.noFrz h), fun a xs h => e.fr a _ h (R.noXd h), fun a q h => e.fr' a _ h (R.noCod h) LamX.codeO_ne⟩
omit [TT] in
theorem OR.kp {a : Addr} {o : Ob} (h : OR K H m a o) (k : Kp m H m' H') (e : H' a = H a) : OR K H' m' a o := by
  cases o with
  | lst vs => obtain ⟨xs, h, r⟩ := h; exact ⟨xs, e.trans h, r.kp k⟩
  | dic kvs => obtain ⟨xs, h, q, r⟩ := h; exact ⟨xs, e.trans h, q, r.kp k⟩
  | set w f n => exact e.trans h
/-- what is off the store changes -/
theorem tabs_kp {T : List (Addr × Str)} (h : LamX.Tabs T H) (k : Kp m H m' H') (t : ∀ P ps, H P = some (.tbl ps) → H' P = some (.tbl ps)) : LamX.Tabs T H' := fun p hp => by
  obtain ⟨ps, h1, h2, h3⟩ := h p hp
  refine ⟨ps, t _ _ h1, h2, fun pos cv hc => ?_⟩
  obtain ⟨c, e1, e2⟩ := h3 pos cv hc
  exact ⟨c, e1, k.cod _ _ e2⟩
theorem Rel.off (R : Rel K m S H) (k : Kp m H m H') (e : ∀ a ∈ m, H' a = H a) (t : ∀ P ps, H P = some (.tbl ps) → H' P = some (.tbl ps)) : Rel K m S H' :=
  ⟨R.len, R.nd, fun n o a h1 h2 => (R.ob n o a h1 h2).kp k (e a (List.mem_of_getElem? h2)), tabs_kp R.tb k t⟩
omit [TT] in
theorem tbl_at {a P : Addr} {o u : HO} {ps : Array Value} (h : H a = some u) (hu : ∀ ps, u ≠ .tbl ps) (e : H P = some (.tbl ps)) : upd H a o P = some (.tbl ps) := by
  rw [upd_ne fun z => ?_]
  · exact e
  · rw [z, h] at e
    cases e
    exact hu _ rfl
omit [TT] in
theorem Ext.off (e : ∀ a o, H a = some o → a ∉ m → H' a = some o) : Ext m H m H' := ⟨⟨[], (List.append_nil m).symm⟩, fun a o h n _ => e a o h n, fun _ _ h n => absurd h n⟩
/-- a new object that the store does not know -/
theorem Rel.tmp (R : Rel K m S H) {p : Addr} {o : HO} (h : H p = none) : Rel K m S (upd H p o) ∧ Ext m H m (upd H p o) := by
  refine ⟨R.off (.new h) (fun a ha => upd_ne fun z => R.noNone h (z ▸ ha)) fun P ps e => by rw [upd_ne (ne_of_none e h)]; exact e, .off fun a o' e n => ?_⟩
  rw [upd_ne (ne_of_none e h)]
  exact e
/-- a new object of the store -/
theorem Rel.alloc (R : Rel K m S H) {p : Addr} {o : HO} {b : Ob} (h : H p = none) (hb : OR K (upd H p o) (m ++ [p]) p b) : Rel K (m ++ [p]) (S ++ [b]) (upd H p o) ∧ Ext m H (m ++ [p]) (upd H p o) := by
  have k : Kp m H (m ++ [p]) (upd H p o) := .grow [p] (.new h)
  have np := R.noNone h
  refine ⟨⟨by simp [R.len], ?_, fun n o' a h1 h2 => ?_, tabs_kp R.tb k fun P ps e => by rw [upd_ne (ne_of_none e h)]; exact e⟩, ⟨⟨[p], rfl⟩, fun a o' e n _ => ?_, fun a o' ha n e => ?_⟩⟩
  · rw [List.nodup_append]
    refine ⟨R.nd, by simp, fun a ha b hb z => ?_⟩
    simp only [List.mem_singleton] at hb
    exact np (hb ▸ z ▸ ha)
  · by_cases hn : n < S.length
    · rw [List.getElem?_append_left hn] at h1
      rw [List.getElem?_append_left (by rw [R.len]; exact hn)] at h2
      refine (R.ob n o' a h1 h2).kp k (upd_ne fun z => np (z ▸ List.mem_of_getElem? h2))
    · have e : n = S.length := by
        have := (List.getElem?_eq_some_iff.mp h1).1
        simp only [List.length_append, List.length_singleton] at this
        omega
      subst e
      rw [List.getElem?_concat_length] at h1
      rw [← R.len, List.getElem?_concat_length] at h2
      cases h1
      cases h2
      exact hb
  · rw [upd_ne (ne_of_none e h)]
    exact e
  · rcases List.mem_append.mp ha with q | q
    · exact absurd q n
    · simp only [List.mem_singleton] at q
      rw [q, h] at e
      cases e
/-- an object of the store is written -/
theorem Rel.put (R : Rel K m S H) {n : Nat} {a : Addr} {o : HO} {b : Ob} (h : m[n]? = some a) (hb : OR K (upd H a o) m a b) : Rel K m (S.set n b) (upd H a o) ∧ Ext m H m (upd H a o) := by
  have ha := List.mem_of_getElem? h
  have k : Kp m H m (upd H a o) := R.kput ha
  refine ⟨⟨by simp [R.len], R.nd, fun n' o' a' h1 h2 => ?_, tabs_kp R.tb k fun P ps e => by rw [upd_ne (show P ≠ a from fun z => R.noTbl e (z ▸ ha))]; exact e⟩, .off fun x o' e nx => ?_⟩
  · by_cases z : n' = n
    · subst z
      rw [h] at h2
      cases h2
      have l := (List.getElem?_eq_some_iff.mp h1).1
      rw [List.length_set] at l
      rw [List.getElem?_set_self l] at h1
      cases h1
      exact hb
    · rw [List.getElem?_set_ne (Ne.symm z)] at h1
      refine (R.ob n' o' a' h1 h2).kp k (upd_ne fun q => z ?_)
      have l1 := (List.getElem?_eq_some_iff.mp h).1
      have l2 := (List.getElem?_eq_some_iff.mp h2).1
      rw [← q] at h
      exact (List.getElem?_inj l2 R.nd).mp (h2.trans h.symm)
  · rw [upd_ne (show x ≠ a from fun z => nx (z ▸ ha))]
    exact e
end
structure RhoR (K : PySem.W.Frag) (H : Hp) (m : List Addr) (ρ : Rho) (σ : L2.St) : Prop where
  len : ρ.length = σ.length
  at_ : ∀ (i : Nat) (v : Val), ρ[i]? = some (some v) → ∃ u, σ[i]? = some (some u) ∧ VR K H m u v
section
variable {K : PySem.W.Frag} {H H' : Hp} {m m' : List Addr} {ρ : Rho} {σ : L2.St}
theorem RhoR.kp (r : RhoR K H m ρ σ) (k : Kp m H m' H') : RhoR K H' m' ρ σ := ⟨r.len, fun i v h => let ⟨u, h1, h2⟩ := r.at_ i v h; ⟨u, h1, h2.kp k⟩⟩
theorem RhoR.set (r : RhoR K H m ρ σ) {u : V} {v : Val} (h : VR K H m u v) (i : Nat) : RhoR K H m (ρ.set i (some v)) (σ.set i (some u)) := by
  refine ⟨by simp [r.len], fun j w e => ?_⟩
  by_cases z : i = j
  · subst z
    have l := (List.getElem?_eq_some_iff.mp e).1
    rw [List.length_set] at l
    rw [List.getElem?_set_self l] at e
    cases e
    exact ⟨u, List.getElem?_set_self (by rw [← r.len]; exact l), h⟩
  · rw [List.getElem?_set_ne z] at e
    rw [List.getElem?_set_ne z]
    exact r.at_ j w e
theorem RhoR.unset (r : RhoR K H m ρ σ) (i : Nat) (o : Option V) : RhoR K H m (ρ.set i none) (σ.set i o) := by
  refine ⟨by simp [r.len], fun j w e => ?_⟩
  by_cases z : i = j
  · subst z
    have l := (List.getElem?_eq_some_iff.mp e).1
    rw [List.length_set] at l
    rw [List.getElem?_set_self l] at e
    cases e
  · rw [List.getElem?_set_ne z] at e
    rw [List.getElem?_set_ne z]
    exact r.at_ j w e
end
end AL
namespace AL
open PySem PySem.Spec PyProof.Rows L2 G
variable [TT]
abbrev EF := Rho → Sto → Option (Val × Sto)
abbrev BF := Rho → Sto → Option (Bool × Sto)
abbrev AF := Rho → Sto → Option (List Val × Sto)
def tF (K : PySem.W.Frag) (f : EF) : TE := fun σ H Q => ∃ m ρ S v S', Rel K m S H ∧ RhoR K H m ρ σ ∧ f ρ S = some (v, S') ∧ ∀ m' u H', Ext m H m' H' → Rel K m' S' H' → VR K H' m' u v → Q u H'
def tFb (K : PySem.W.Frag) (f : BF) : L2.TT := fun σ H Q => ∃ m ρ S b S', Rel K m S H ∧ RhoR K H m ρ σ ∧ f ρ S = some (b, S') ∧ ∀ m' H', Ext m H m' H' → Rel K m' S' H' → Q b H'
def tFa (K : PySem.W.Frag) (f : AF) : TA := fun σ H Q => ∃ m ρ S vs S', Rel K m S H ∧ RhoR K H m ρ σ ∧ f ρ S = some (vs, S') ∧ ∀ m' us H', Ext m H m' H' → Rel K m' S' H' → VRs K H' m' us vs → Q us H'
abbrev AE (X : Cx) (e : Expr) (f : EF) : Prop := PE X e (tF X.K f)
abbrev AT (X : Cx) (e : Expr) (f : BF) : Prop := PT X e (tFb X.K f)
abbrev AW (X : Cx) (e : Expr) (f : BF) : Prop := PW X e (tFb X.K f)
abbrev AA (X : Cx) (es : List Expr) (f : AF) : Prop := PA X es (tFa X.K f)
section
variable {X : Cx} {e a b c : Expr} {es : List Expr} {pos : Pos} {f fa fb fc : EF} {K : PySem.W.Frag}
theorem pe_w {t t' : TE} (h : PE X e t) (hi : ∀ σ H Q, t' σ H Q → t σ H Q) : PE X e t' := ⟨fun pins s σ H Q I hq => h.run pins s σ H Q I (hi σ H Q hq)⟩
theorem pt_w {t t' : L2.TT} (h : PT X e t) (hi : ∀ σ H Q, t' σ H Q → t σ H Q) : PT X e t' := ⟨fun pins s σ H Q I hq => h.run pins s σ H Q I (hi σ H Q hq)⟩
theorem pw_w {t t' : L2.TT} (h : PW X e t) (hi : ∀ σ H Q, t' σ H Q → t σ H Q) : PW X e t' := ⟨fun w pins s σ H Q I hq => h.run w pins s σ H Q I (hi σ H Q hq)⟩
theorem pa_w {t t' : TA} (h : PA X es t) (hi : ∀ σ H Q, t' σ H Q → t σ H Q) : PA X es t' := ⟨fun p pins s σ H Q I hq => h.run p pins s σ H Q I (hi σ H Q hq)⟩
def eV (i : Nat) : EF := fun ρ S => match ρ[i]? with
  | some (some v) => some (v, S)
  | _ => none
def eC (v : Val) : EF := fun _ S => some (v, S)
theorem av (i : Nat) {x : Str} (hN : X.N[i]? = some x := by rfl) (hv : Vis X.env.scope x := by first | exact Or.inl rfl | exact Or.inr (Or.inl rfl) | exact Or.inr (Or.inr rfl)) (hd : (x == ("__debug__" : Str)) = false := by decide)
    (hcd : (x == ("__classdict__" : Str)) = false := by decide) : AE X (.Name x pos) (eV i) := by
  refine pe_w (pe_var hN hv hd hcd) fun σ H Q h => ?_
  obtain ⟨m, ρ, S, v, S', R, r, e, q⟩ := h
  unfold eV at e
  split at e
  · next w hw =>
    cases e
    obtain ⟨u, h1, h2⟩ := r.at_ i _ hw
    exact ⟨u, h1, q m u H (.refl _ _) R h2⟩
  · cases e
theorem ac {u : V} {v : Val} (h : PE X e (tC u)) (hv : ∀ H m, VR X.K H m u v) : AE X e (eC v) := by
  refine pe_w h fun σ H Q h => ?_
  obtain ⟨m, ρ, S, w, S', R, r, e, q⟩ := h
  cases e
  exact q m u H (.refl _ _) R (hv H m)
theorem ai {i : Int} {j : Nat} : AE X (.Constant (.int i) j pos) (eC (.int i)) := ac pe_int fun _ _ => .int i
theorem abl {i : Bool} {j : Nat} : AE X (.Constant (.bool i) j pos) (eC (.bl i)) := ac pe_bl fun _ _ => .bl i
theorem an {j : Nat} : AE X (.Constant .none j pos) (eC .non) := ac pe_non fun _ _ => .non
theorem astr {x : Str} {j : Nat} : AE X (.Constant (.str x) j pos) (eC (.str x)) := ac pe_str fun _ _ => .str x
def eB (g : Val → Val → Sto → Option (Val × Sto)) (fa fb : EF) : EF := fun ρ S => (fa ρ S).bind fun p => (fb ρ p.2).bind fun q => g p.1 q.1 q.2
def OpA (K : PySem.W.Frag) (r : R2) (g : Val → Val → Sto → Option (Val × Sto)) : Prop := ∀ m S H x y v S' u w Q, Rel K m S H → VR K H m u x → VR K H m w y → g x y S = some (v, S') →
  (∀ m' z H', Ext m H m' H' → Rel K m' S' H' → VR K H' m' z v → Q z H') → r u w H Q
theorem eB_ok {r : R2} {g : Val → Val → Sto → Option (Val × Sto)} (hg : OpA K r g) {σ : L2.St} {H : Hp} {Q : VK} (h : tF K (eB g fa fb) σ H Q) : tOp r (tF K fa) (tF K fb) σ H Q := by
  obtain ⟨m, ρ, S, v, S', R, r, e, q⟩ := h
  obtain ⟨⟨x, S1⟩, e1, e⟩ := Option.bind_eq_some_iff.mp e
  obtain ⟨⟨y, S2⟩, e2, e⟩ := Option.bind_eq_some_iff.mp e
  refine ⟨m, ρ, S, x, S1, R, r, e1, fun m1 u H1 E1 R1 r1 => ⟨m1, ρ, S1, y, S2, R1, r.kp (E1.kp R), e2, fun m2 w H2 E2 R2 r2 => ?_⟩⟩
  exact hg m2 S2 H2 x y v S' u w Q R2 (r1.kp (E2.kp R1)) r2 e fun m3 z H3 E3 R3 r3 => q m3 z H3 ((E1.trans E2).trans E3) R3 r3
theorem OpA.or {r r' : R2} {g g' : Val → Val → Sto → Option (Val × Sto)} (h : OpA K r g) (h' : OpA K r' g') : OpA K (fun x y H Q => r x y H Q ∨ r' x y H Q) (fun x y S => (g x y S).or (g' x y S)) := by
  intro m S H x y v S' u w Q R ru rw_ e q
  cases eg : g x y S with
  | some p =>
    simp only [eg, Option.some_or] at e
    cases e
    exact .inl (h m S H x y v S' u w Q R ru rw_ eg q)
  | none =>
    simp only [eg, Option.none_or] at e
    exact .inr (h' m S H x y v S' u w Q R ru rw_ e q)
theorem aop {op : Operator} {r : R2} {g : Val → Val → Sto → Option (Val × Sto)} (ho : OpR X (binaryOp op) r) (hg : OpA X.K r g) (ha : AE X a fa) (hb : AE X b fb) : AE X (.BinOp a op b pos) (eB g fa fb) := pe_w (pe_op ho ha hb) fun _ _ _ h => eB_ok hg h
theorem acm {op : CmpOp} {r : R2} {g : Val → Val → Sto → Option (Val × Sto)} (ho : OpR X (compareOp op) r) (hg : OpA X.K r g) (ha : AE X a fa) (hb : AE X b fb) (hm : behindInMarks op b = false) : AE X (.Compare a [op] [b] pos) (eB g fa fb) := pe_w (pe_cmpR ho ha hb hm) fun _ _ _ h => eB_ok hg h
def eT (f : EF) : BF := fun ρ S => (f ρ S).bind fun p => match p.1 with
  | .bl b => some (b, p.2)
  | _ => none
theorem eT_ok {σ : L2.St} {H : Hp} {Q : Bool → Hp → Prop} (h : tFb K (eT f) σ H Q) : tF K f σ H fun x H' => ∃ k, x = .bl k ∧ Q k H' := by
  obtain ⟨m, ρ, S, v, S', R, r, e, q⟩ := h
  obtain ⟨⟨x, S1⟩, e1, e⟩ := Option.bind_eq_some_iff.mp e
  refine ⟨m, ρ, S, x, S1, R, r, e1, fun m1 u H1 E1 R1 r1 => ?_⟩
  cases x <;> try cases e
  cases r1
  exact ⟨_, rfl, q m1 H1 E1 R1⟩
theorem atc {op : CmpOp} {r : R2} {g : Val → Val → Sto → Option (Val × Sto)} (ho : OpR X (compareOp op) r) (hg : OpA X.K r g) (ha : AE X a fa) (hb : AE X b fb) (hm : behindInMarks op b = false) : AT X (.Compare a [op] [b] pos) (eT (eB g fa fb)) := pt_w (pt_cmpR ho ha hb hm) fun _ _ _ h => eB_ok hg (eT_ok h)
theorem atv (ha : AE X e f) (he : ∀ whole, isTrue e X.env whole = (do let v ← whole; standAt e.pos; holding [v] (truthy v)) := by intro _; rfl) : AT X e (eT f) := pt_w (pt_val ha he) fun _ _ _ h => eT_ok h
def bAnd (f g : BF) : BF := fun ρ S => (f ρ S).bind fun p => if p.1 then g ρ p.2 else some (false, p.2)
def bOr (f g : BF) : BF := fun ρ S => (f ρ S).bind fun p => if p.1 then some (true, p.2) else g ρ p.2
def bNot (f : BF) : BF := fun ρ S => (f ρ S).bind fun p => some (!p.1, p.2)
variable {g1 g2 : BF} {rest : List Expr}
theorem aw1 (h : AT X a g1) : AW X (.BoolOp .And [a] pos) g1 := pw_and1 h
theorem awo1 (h : AT X a g1) : AW X (.BoolOp .Or [a] pos) g1 := pw_or1 h
theorem aw (h : AT X a g1) (h2 : AW X (.BoolOp .And (b :: rest) pos) g2) : AW X (.BoolOp .And (a :: b :: rest) pos) (bAnd g1 g2) := by
  refine pw_w (pw_and h h2) fun σ H Q h => ?_
  obtain ⟨m, ρ, S, v, S', R, r, e, q⟩ := h
  obtain ⟨⟨x, S1⟩, e1, e⟩ := Option.bind_eq_some_iff.mp e
  refine ⟨m, ρ, S, x, S1, R, r, e1, fun m1 H1 E1 R1 => ?_⟩
  cases x with
  | true => exact ⟨m1, ρ, S1, v, S', R1, r.kp (E1.kp R), e, fun m2 H2 E2 R2 => q m2 H2 (E1.trans E2) R2⟩
  | false =>
    cases e
    exact q m1 H1 E1 R1
theorem awo (h : AT X a g1) (h2 : AW X (.BoolOp .Or (b :: rest) pos) g2) : AW X (.BoolOp .Or (a :: b :: rest) pos) (bOr g1 g2) := by
  refine pw_w (pw_or h h2) fun σ H Q h => ?_
  obtain ⟨m, ρ, S, v, S', R, r, e, q⟩ := h
  obtain ⟨⟨x, S1⟩, e1, e⟩ := Option.bind_eq_some_iff.mp e
  refine ⟨m, ρ, S, x, S1, R, r, e1, fun m1 H1 E1 R1 => ?_⟩
  cases x with
  | true =>
    cases e
    exact q m1 H1 E1 R1
  | false => exact ⟨m1, ρ, S1, v, S', R1, r.kp (E1.kp R), e, fun m2 H2 E2 R2 => q m2 H2 (E1.trans E2) R2⟩
theorem atw (h : AW X e g1) : AT X e g1 := PW.pt h
theorem atn (h : AT X a g1) : AT X (.UnaryOp .Not a pos) (bNot g1) := by
  refine pt_w (pt_not h) fun σ H Q h => ?_
  obtain ⟨m, ρ, S, v, S', R, r, e, q⟩ := h
  obtain ⟨⟨x, S1⟩, e1, e⟩ := Option.bind_eq_some_iff.mp e
  cases e
  exact ⟨m, ρ, S, x, _, R, r, e1, q⟩
/-- and, or, not as values -/
def eAnd (f g : EF) : EF := fun ρ S => (f ρ S).bind fun p => match p.1 with
  | .bl true => g ρ p.2
  | .bl false => some (.bl false, p.2)
  | _ => none
def eOr (f g : EF) : EF := fun ρ S => (f ρ S).bind fun p => match p.1 with
  | .bl true => some (.bl true, p.2)
  | .bl false => g ρ p.2
  | _ => none
def eNot (f : EF) : EF := fun ρ S => (f ρ S).bind fun p => match p.1 with
  | .bl b => some (.bl (!b), p.2)
  | _ => none
theorem ae1 {op : BoolOp} (h : AE X a f) : AE X (.BoolOp op [a] pos) f := pe_one h
theorem aand (h : AE X a fa) (h2 : AE X (.BoolOp .And (b :: rest) pos) fb) : AE X (.BoolOp .And (a :: b :: rest) pos) (eAnd fa fb) := by
  refine pe_w (pe_and h h2) fun σ H Q h => ?_
  obtain ⟨m, ρ, S, v, S', R, r, e, q⟩ := h
  obtain ⟨⟨x, S1⟩, e1, e⟩ := Option.bind_eq_some_iff.mp e
  refine ⟨m, ρ, S, x, S1, R, r, e1, fun m1 u H1 E1 R1 r1 => ?_⟩
  cases x <;> try cases e
  rename_i k
  cases r1
  refine ⟨k, rfl, ?_⟩
  cases k with
  | true => exact ⟨m1, ρ, S1, v, S', R1, r.kp (E1.kp R), e, fun m2 u H2 E2 R2 r2 => q m2 u H2 (E1.trans E2) R2 r2⟩
  | false =>
    cases e
    exact q m1 _ H1 E1 R1 (.bl _)
theorem aor (h : AE X a fa) (h2 : AE X (.BoolOp .Or (b :: rest) pos) fb) : AE X (.BoolOp .Or (a :: b :: rest) pos) (eOr fa fb) := by
  refine pe_w (pe_or h h2) fun σ H Q h => ?_
  obtain ⟨m, ρ, S, v, S', R, r, e, q⟩ := h
  obtain ⟨⟨x, S1⟩, e1, e⟩ := Option.bind_eq_some_iff.mp e
  refine ⟨m, ρ, S, x, S1, R, r, e1, fun m1 u H1 E1 R1 r1 => ?_⟩
  cases x <;> try cases e
  rename_i k
  cases r1
  refine ⟨k, rfl, ?_⟩
  cases k with
  | true =>
    cases e
    exact q m1 _ H1 E1 R1 (.bl _)
  | false => exact ⟨m1, ρ, S1, v, S', R1, r.kp (E1.kp R), e, fun m2 u H2 E2 R2 r2 => q m2 u H2 (E1.trans E2) R2 r2⟩
theorem anot (h : AE X a fa) : AE X (.UnaryOp .Not a pos) (eNot fa) := by
  refine pe_w (pe_not h) fun σ H Q h => ?_
  obtain ⟨m, ρ, S, v, S', R, r, e, q⟩ := h
  obtain ⟨⟨x, S1⟩, e1, e⟩ := Option.bind_eq_some_iff.mp e
  refine ⟨m, ρ, S, x, S1, R, r, e1, fun m1 u H1 E1 R1 r1 => ?_⟩
  cases x <;> cases e
  rename_i k
  cases r1
  exact ⟨k, rfl, q m1 _ H1 E1 R1 (.bl _)⟩
def eIf (t : BF) (fa fb : EF) : EF := fun ρ S => (t ρ S).bind fun p => if p.1 then fa ρ p.2 else fb ρ p.2
theorem aif (hc : AT X c g1) (ha : AE X a fa) (hb : AE X b fb) : AE X (.IfExp c a b pos) (eIf g1 fa fb) := by
  refine pe_w (pe_ifExp hc ha hb) fun σ H Q h => ?_
  obtain ⟨m, ρ, S, v, S', R, r, e, q⟩ := h
  obtain ⟨⟨x, S1⟩, e1, e⟩ := Option.bind_eq_some_iff.mp e
  refine ⟨m, ρ, S, x, S1, R, r, e1, fun m1 H1 E1 R1 => ?_⟩
  cases x with
  | true => exact ⟨m1, ρ, S1, v, S', R1, r.kp (E1.kp R), e, fun m2 u H2 E2 R2 r2 => q m2 u H2 (E1.trans E2) R2 r2⟩
  | false => exact ⟨m1, ρ, S1, v, S', R1, r.kp (E1.kp R), e, fun m2 u H2 E2 R2 r2 => q m2 u H2 (E1.trans E2) R2 r2⟩
/-- a op b op c -/
def eCh (g g' : Val → Val → Sto → Option (Val × Sto)) (fa fb fc : EF) : EF := fun ρ S => (fa ρ S).bind fun p => (fb ρ p.2).bind fun q => (g p.1 q.1 q.2).bind fun z => match z.1 with
  | .bl true => (fc ρ z.2).bind fun w => g' q.1 w.1 w.2
  | .bl false => some (.bl false, z.2)
  | _ => none
theorem eCh_ok {r r' : R2} {g g' : Val → Val → Sto → Option (Val × Sto)} (hg : OpA K r g) (hg' : OpA K r' g') {σ : L2.St} {H : Hp} {Q : VK} (h : tF K (eCh g g' fa fb fc) σ H Q) : tChain r r' (tF K fa) (tF K fb) (tF K fc) σ H Q := by
  obtain ⟨m, ρ, S, v, S', R, r, e, q⟩ := h
  obtain ⟨⟨x, S1⟩, e1, e⟩ := Option.bind_eq_some_iff.mp e
  obtain ⟨⟨y, S2⟩, e2, e⟩ := Option.bind_eq_some_iff.mp e
  obtain ⟨⟨z, S3⟩, e3, e⟩ := Option.bind_eq_some_iff.mp e
  refine ⟨m, ρ, S, x, S1, R, r, e1, fun m1 u H1 E1 R1 r1 => ⟨m1, ρ, S1, y, S2, R1, r.kp (E1.kp R), e2, fun m2 w H2 E2 R2 r2 => ?_⟩⟩
  refine hg m2 S2 H2 x y z S3 u w _ R2 (r1.kp (E2.kp R1)) r2 e3 fun m3 z' H3 E3 R3 r3 => ?_
  cases z <;> try cases e
  rename_i k
  cases r3
  refine ⟨k, rfl, ?_⟩
  cases k with
  | false =>
    cases e
    exact q m3 _ H3 ((E1.trans E2).trans E3) R3 (.bl _)
  | true =>
    obtain ⟨⟨w', S4⟩, e4, e⟩ := Option.bind_eq_some_iff.mp e
    refine ⟨m3, ρ, S3, w', S4, R3, r.kp (((E1.trans E2).trans E3).kp R), e4, fun m4 w4 H4 E4 R4 r4 => ?_⟩
    exact hg' m4 S4 H4 y w' v S' w w4 Q R4 (r2.kp ((E3.trans E4).kp R2)) r4 e fun m5 z5 H5 E5 R5 r5 => q m5 z5 H5 ((((E1.trans E2).trans E3).trans E4).trans E5) R5 r5
theorem atch {op op' : CmpOp} {r r' : R2} {g g' : Val → Val → Sto → Option (Val × Sto)} (ho : OpR X (compareOp op) r) (hg : OpA X.K r g) (ho' : OpR X (compareOp op') r') (hg' : OpA X.K r' g') (ha : AE X a fa) (hb : AE X b fb) (hc : AE X c fc)
    (hm : lastMarks [op, op'] [b, c] = false := by with_unfolding_all rfl) : AT X (.Compare a [op, op'] [b, c] pos) (eT (eCh g g' fa fb fc)) := pt_w (pt_chain ho ho' ha hb hc hm) fun _ _ _ h => eCh_ok hg hg' (eT_ok h)
def aNil : AF := fun _ S => some ([], S)
def aCons (f : EF) (g : AF) : AF := fun ρ S => (f ρ S).bind fun p => (g ρ p.2).bind fun q => some (p.1 :: q.1, q.2)
variable {ga : AF}
theorem aan : AA X [] aNil := by
  refine pa_w pa_nil fun σ H Q h => ?_
  obtain ⟨m, ρ, S, v, S', R, r, e, q⟩ := h
  cases e
  exact q m [] H (.refl _ _) R .nil
theorem aac (ha : AE X e f) (hr : AA X es ga) (hs : starEach (e :: es) X.env = (false, eval e X.env) :: starEach es X.env := by rfl) : AA X (e :: es) (aCons f ga) := by
  refine pa_w (pa_cons ha hr hs) fun σ H Q h => ?_
  obtain ⟨m, ρ, S, v, S', R, r, e, q⟩ := h
  obtain ⟨⟨x, S1⟩, e1, e⟩ := Option.bind_eq_some_iff.mp e
  obtain ⟨⟨y, S2⟩, e2, e⟩ := Option.bind_eq_some_iff.mp e
  cases e
  exact ⟨m, ρ, S, x, S1, R, r, e1, fun m1 u H1 E1 R1 r1 => ⟨m1, ρ, S1, y, S2, R1, r.kp (E1.kp R), e2, fun m2 w H2 E2 R2 r2 => q m2 _ H2 (E1.trans E2) R2 (.cons (r1.kp (E2.kp R1)) r2)⟩⟩
def eTup (g : AF) : EF := fun ρ S => (g ρ S).bind fun p => if p.1.length ≤ 1000000 then some (.tup p.1, p.2) else none
def eLst (g : AF) : EF := fun ρ S => (g ρ S).bind fun p => if p.1.length ≤ 1000000 then some (.ref p.2.length, p.2 ++ [.lst p.1]) else none
theorem mill {n : Nat} (h : n ≤ 1000000) : n ≤ sizeLine := Nat.le_trans h (by decide)
theorem atup {k : Nat} (h : AA X es ga) : AE X (.Tuple es k pos) (eTup ga) := by
  refine pe_w (pe_tup h) fun σ H Q h => ?_
  obtain ⟨m, ρ, S, v, S', R, r, e, q⟩ := h
  obtain ⟨⟨x, S1⟩, e1, e⟩ := Option.bind_eq_some_iff.mp e
  refine ⟨m, ρ, S, x, S1, R, r, e1, fun m1 us H1 E1 R1 r1 => ?_⟩
  dsimp only at e
  split at e
  · next hl =>
    cases e
    refine ⟨by rw [r1.len]; exact mill hl, fun p hp => ?_⟩
    obtain ⟨R2, E2⟩ := R1.tmp (o := .tup us) hp
    exact q m1 _ _ (E1.trans E2) R2 (.tup (.inl upd_same) (r1.kp (E2.kp R1)))
  · cases e
theorem alst (h : AA X es ga) : AE X (.List es pos) (eLst ga) := by
  refine pe_w (pe_lst h) fun σ H Q h => ?_
  obtain ⟨m, ρ, S, v, S', R, r, e, q⟩ := h
  obtain ⟨⟨x, S1⟩, e1, e⟩ := Option.bind_eq_some_iff.mp e
  refine ⟨m, ρ, S, x, S1, R, r, e1, fun m1 us H1 E1 R1 r1 => ?_⟩
  dsimp only at e
  split at e
  · next hl =>
    cases e
    refine ⟨by rw [r1.len]; exact mill hl, fun p hp => ?_⟩
    have k1 : Kp m1 H1 (m1 ++ [p]) (upd H1 p (.lst us)) := .grow [p] (.new hp)
    obtain ⟨R2, E2⟩ := R1.alloc (o := .lst us) (b := .lst x) hp ⟨us, upd_same, r1.kp k1⟩
    refine q _ _ _ (E1.trans E2) R2 (.ref ?_)
    rw [← R1.len, List.getElem?_concat_length]
  · cases e
def eCall (g : List Val → Sto → Option (Val × Sto)) (ga : AF) : EF := fun ρ S => (ga ρ S).bind fun p => g p.1 p.2
def CaA (K : PySem.W.Frag) (r : List V → Hp → VK → Prop) (g : List Val → Sto → Option (Val × Sto)) : Prop := ∀ m S H xs v S' us Q, Rel K m S H → VRs K H m us xs → g xs S = some (v, S') →
  (∀ m' z H', Ext m H m' H' → Rel K m' S' H' → VR K H' m' z v → Q z H') → r us H Q
theorem eCall_ok {r : List V → Hp → VK → Prop} {g : List Val → Sto → Option (Val × Sto)} (hg : CaA K r g) {σ : L2.St} {H : Hp} {Q : VK} (h : tF K (eCall g ga) σ H Q) : tFa K ga σ H fun us H1 => r us H1 Q := by
  obtain ⟨m, ρ, S, v, S', R, r, e, q⟩ := h
  obtain ⟨⟨x, S1⟩, e1, e⟩ := Option.bind_eq_some_iff.mp e
  exact ⟨m, ρ, S, x, S1, R, r, e1, fun m1 us H1 E1 R1 r1 => hg m1 S1 H1 x v S' us Q R1 r1 e fun m2 z H2 E2 R2 r2 => q m2 z H2 (E1.trans E2) R2 r2⟩
theorem CaA.or {r r' : List V → Hp → VK → Prop} {g g' : List Val → Sto → Option (Val × Sto)} (h : CaA K r g) (h' : CaA K r' g') : CaA K (fun x H Q => r x H Q ∨ r' x H Q) (fun x S => (g x S).or (g' x S)) := by
  intro m S H x v S' u Q R ru e q
  cases eg : g x S with
  | some p =>
    simp only [eg, Option.some_or] at e
    cases e
    exact .inl (h m S H x v S' u Q R ru eg q)
  | none =>
    simp only [eg, Option.none_or] at e
    exact .inr (h' m S H x v S' u Q R ru e q)
theorem CallR.or {f : Value} {r r' : List V → Hp → VK → Prop} (h : CallR X f r) (h' : CallR X f r') : CallR X f (fun xs H Q => r xs H Q ∨ r' xs H Q) := by
  intro pins s σ H xs us Q I rs q
  rcases q with q | q
  · exact h pins s σ H xs us Q I rs q
  · exact h' pins s σ H xs us Q I rs q
theorem acb {id : String} {x : Str} {p : Pos} {r : List V → Hp → VK → Prop} {g : List Val → Sto → Option (Val × Sto)} (hc : CallR X (.builtin id) r) (hgg : CaA X.K r g) (hg : Gl X x) (hm : X.mg x = none) (hv : bootBuiltins x = some (.builtin id)) (ha : AA X (e :: es) ga) (hn : x ≠ "__name__" := by decide) (hdb : (x == ("__debug__" : Str)) = false := by decide)
    (he : starEach (e :: es) X.env = (false, eval e X.env) :: starEach es X.env := by rfl) (hpl : (backTo pos (starEach es X.env)).any (·.1) = false := by rfl) : AE X (.Call (.Name x p) (e :: es) [] pos) (eCall g ga) :=
  pe_w (pe_callB hc hg hm hv ha hn hdb he hpl) fun _ _ _ h => eCall_ok hgg h
theorem act {T : String} {x : Str} {p : Pos} {r : List V → Hp → VK → Prop} {g : List Val → Sto → Option (Val × Sto)} (hc : CallR X (.type T) r) (hgg : CaA X.K r g) (hg : Gl X x) (hm : X.mg x = none) (hv : bootBuiltins x = some (.type T)) (ha : AA X (e :: es) ga) (hn : x ≠ "__name__" := by decide) (hdb : (x == ("__debug__" : Str)) = false := by decide)
    (he : starEach (e :: es) X.env = (false, eval e X.env) :: starEach es X.env := by rfl) (hpl : (backTo pos (starEach es X.env)).any (·.1) = false := by rfl) : AE X (.Call (.Name x p) (e :: es) [] pos) (eCall g ga) :=
  pe_w (pe_callTy hc hg hm hv ha hn hdb he hpl) fun _ _ _ h => eCall_ok hgg h
abbrev FA := List Val → Sto → Option (Val × Sto)
def spA (K : PySem.W.Frag) (n : Nat) (F : FA) : Sp := fun us H Q _ => us.length = n ∧ ∃ m S vs v S', Rel K m S H ∧ VRs K H m us vs ∧ F vs S = some (v, S') ∧ ∀ m' z H', Ext m H m' H' → Rel K m' S' H' → VR K H' m' z v → Q z H'
/-- where a def stands, and what it does -/
structure Def (P : Program) (w : World) (K : PySem.W.Frag) (mg : Str → Option Value) (base : Heap) (k : Nat) (x : Str) (ps : List Str) (F : FA) : Prop where
  ex : ∃ f fd, FnG P w K mg base k f fd ps (spA K ps.length F) ∧ Binds K fd ps [] ∧ mg x = some (.ref f) ∧ PySem.W.keepIn K (.ref f) = true
def eDef (F : FA) (n : Nat) (ga : AF) : EF := fun ρ S => (ga ρ S).bind fun p => if p.1.length = n then F p.1 p.2 else none
theorem acd {k : Nat} {x : Str} {ps : List Str} {F : FA} {p : Pos} (D : Def X.prog X.w X.K X.mg X.base k x ps F) (g : X.A.guards = some []) (hr : Room k X.A) (hgl : Gl X x) (ha : AA X (e :: es) ga) (hdb : (x == ("__debug__" : Str)) = false := by decide)
    (he : starEach (e :: es) X.env = (false, eval e X.env) :: starEach es X.env := by rfl) (hpl : (backTo pos (starEach es X.env)).any (·.1) = false := by rfl) {n : Nat} (hn : ps.length = n := by rfl) : AE X (.Call (.Name x p) (e :: es) [] pos) (eDef F n ga) := by
  subst hn
  obtain ⟨f, fd, hF, hb, hm, hk⟩ := D.ex
  refine pe_w (pe_callG hF g hr hgl hm hk hb ha hdb he hpl) fun σ H Q h => ?_
  obtain ⟨m, ρ, S, v, S', R, r, e, q⟩ := h
  obtain ⟨⟨x, S1⟩, e1, e⟩ := Option.bind_eq_some_iff.mp e
  dsimp only at e
  split at e
  · next hl => exact ⟨m, ρ, S, x, S1, R, r, e1, fun m1 us H1 E1 R1 r1 => ⟨by rw [r1.len]; exact hl, m1, S1, x, v, S', R1, r1, e, fun m2 z H2 E2 R2 r2 => q m2 z H2 (E1.trans E2) R2 r2⟩⟩
  · cases e
def eMt (ok : Val → Sto → Bool) (g : Val → List Val → Sto → Option (Val × Sto)) (fo : EF) (ga : AF) : EF := fun ρ S => (fo ρ S).bind fun p => if ok p.1 p.2 then (ga ρ p.2).bind fun q => g p.1 q.1 q.2 else none
def MtA (K : PySem.W.Frag) (r : V → List V → Hp → VK → Prop) (g : Val → List Val → Sto → Option (Val × Sto)) : Prop := ∀ m S H x xs v S' u us Q, Rel K m S H → VR K H m u x → VRs K H m us xs → g x xs S = some (v, S') →
  (∀ m' z H', Ext m H m' H' → Rel K m' S' H' → VR K H' m' z v → Q z H') → r u us H Q
def TyA (K : PySem.W.Frag) (T : String) (ok : Val → Sto → Bool) : Prop := ∀ m S H u v, Rel K m S H → VR K H m u v → ok v S = true → tyV K T u H
theorem am {o : Expr} {fo : EF} {name : Str} {apos cpos : Pos} {T id : String} {r : V → List V → Hp → VK → Prop} {g : Val → List Val → Sto → Option (Val × Sto)} {ok : Val → Sto → Bool} (pa : PlainAttrs T) (slot : Slot T name id) (hty : typeOf (.builtin id) = pure (.type "method_descriptor")) (hm : MtR X id r) (hg : MtA X.K r g) (ht : TyA X.K T ok) (ho : AE X o fo) (ha : AA X (e :: es) ga)
    (hbase : attributeBase o name X.env (eval o X.env) = eval o X.env := by rfl)
    (hfew : ((backTo cpos (starEach (e :: es) X.env)).all (fun x => !x.1) && (backToKw cpos (keywordEach [] X.env)).all (fun x => x.1.isSome)
      && decide ((e :: es).length + ([] : List Keyword).length + (if ([] : List Keyword).isEmpty then 0 else 1) < 30)) = true := by rfl)
    (hline : (apos.endLine == cpos.line) = true := by rfl) (hs : starEach (e :: es) X.env = (false, eval e X.env) :: starEach es X.env := by rfl) (hplain : (backTo cpos (starEach es X.env)).any (·.1) = false := by rfl) :
    AE X (.Call (.Attribute o name apos) (e :: es) [] cpos) (eMt ok g fo ga) := by
  refine pe_w (pe_bm pa slot hty hm ho ha hbase hfew hline hs hplain) fun σ H Q h => ?_
  obtain ⟨m, ρ, S, v, S', R, r, e, q⟩ := h
  obtain ⟨⟨x, S1⟩, e1, e⟩ := Option.bind_eq_some_iff.mp e
  dsimp only at e
  split at e
  · next hl =>
    obtain ⟨⟨y, S2⟩, e2, e⟩ := Option.bind_eq_some_iff.mp e
    refine ⟨m, ρ, S, x, S1, R, r, e1, fun m1 u H1 E1 R1 r1 => ⟨ht m1 S1 H1 u x R1 r1 hl, m1, ρ, S1, y, S2, R1, r.kp (E1.kp R), e2, fun m2 us H2 E2 R2 r2 => ?_⟩⟩
    exact hg m2 S2 H2 x y v S' u us Q R2 (r1.kp (E2.kp R1)) r2 e fun m3 z H3 E3 R3 r3 => q m3 z H3 ((E1.trans E2).trans E3) R3 r3
  · cases e
def eMt0 (ok : Val → Sto → Bool) (g : Val → List Val → Sto → Option (Val × Sto)) (fo : EF) : EF := fun ρ S => (fo ρ S).bind fun p => if ok p.1 p.2 then g p.1 [] p.2 else none
/-- one-place operations -/
def eU (g : Val → Sto → Option (Val × Sto)) (fa : EF) : EF := fun ρ S => (fa ρ S).bind fun p => g p.1 p.2
def UnA (K : PySem.W.Frag) (r : V → Hp → VK → Prop) (g : Val → Sto → Option (Val × Sto)) : Prop := ∀ m S H x v S' u Q, Rel K m S H → VR K H m u x → g x S = some (v, S') → (∀ m' z H', Ext m H m' H' → Rel K m' S' H' → VR K H' m' z v → Q z H') → r u H Q
theorem aun {op : UnaryOp} {r : V → Hp → VK → Prop} {g : Val → Sto → Option (Val × Sto)} (ho : UnR X (unaryOp op) r) (hg : UnA X.K r g) (ha : AE X a fa) : AE X (.UnaryOp op a pos) (eU g fa) := by
  refine pe_w (pe_un ho ha) fun σ H Q h => ?_
  obtain ⟨m, ρ, S, v, S', R, r, e, q⟩ := h
  obtain ⟨⟨x, S1⟩, e1, e⟩ := Option.bind_eq_some_iff.mp e
  exact ⟨m, ρ, S, x, S1, R, r, e1, fun m1 u H1 E1 R1 r1 => hg m1 S1 H1 x v S' u Q R1 r1 e fun m2 z H2 E2 R2 r2 => q m2 z H2 (E1.trans E2) R2 r2⟩
/-- slices: the whole -/
abbrev OF := Rho → Sto → Option (Option Int × Sto)
def oN : OF := fun _ S => some (none, S)
def oS (f : EF) : OF := fun ρ S => (f ρ S).bind fun p => match p.1 with
  | .int i => some (some i, p.2)
  | _ => none
def tFo (K : PySem.W.Frag) (f : OF) : TO := fun σ H Q => ∃ m ρ S o S', Rel K m S H ∧ RhoR K H m ρ σ ∧ f ρ S = some (o, S') ∧ ∀ m' H', Ext m H m' H' → Rel K m' S' H' → Q o H'
theorem po_w {o : Option Expr} {t t' : TO} (h : PO X o t) (hi : ∀ σ H Q, t' σ H Q → t σ H Q) : PO X o t' := ⟨fun pins s σ H Q I hq => h.run pins s σ H Q I (hi σ H Q hq)⟩
theorem aon : PO X none (tFo X.K oN) := po_w po_none fun σ H Q h => by
  obtain ⟨m, ρ, S, v, S', R, r, e, q⟩ := h
  cases e
  exact q m H (.refl _ _) R
theorem aos (ha : AE X e f) : PO X (some e) (tFo X.K (oS f)) := po_w (po_some ha) fun σ H Q h => by
  obtain ⟨m, ρ, S, v, S', R, r, e, q⟩ := h
  obtain ⟨⟨x, S1⟩, e1, e⟩ := Option.bind_eq_some_iff.mp e
  refine ⟨m, ρ, S, x, S1, R, r, e1, fun m1 u H1 E1 R1 r1 => ?_⟩
  cases x <;> cases e
  cases r1
  exact ⟨_, rfl, q m1 H1 E1 R1⟩
def eSl (g : Val → Option Int → Option Int → Sto → Option (Val × Sto)) (fa : EF) (lo hi : OF) : EF := fun ρ S => (fa ρ S).bind fun p => (lo ρ p.2).bind fun q => (hi ρ q.2).bind fun z => g p.1 q.1 z.1 z.2
def SlA (K : PySem.W.Frag) (r : V → Option Int → Option Int → Hp → VK → Prop) (g : Val → Option Int → Option Int → Sto → Option (Val × Sto)) : Prop := ∀ m S H x lo hi v S' u Q, Rel K m S H → VR K H m u x → g x lo hi S = some (v, S') →
  (∀ m' z H', Ext m H m' H' → Rel K m' S' H' → VR K H' m' z v → Q z H') → r u lo hi H Q
theorem asl {r : V → Option Int → Option Int → Hp → VK → Prop} {g : Val → Option Int → Option Int → Sto → Option (Val × Sto)} {lo hi : Option Expr} {fl fh : OF} {p2 : Pos} (hs : SlR X r) (hg : SlA X.K r g) (ha : AE X a fa) (hl : PO X lo (tFo X.K fl)) (hh : PO X hi (tFo X.K fh)) : AE X (.Subscript a (.Slice lo hi none p2) pos) (eSl g fa fl fh) := by
  refine pe_w (pe_slice hs ha hl hh) fun σ H Q h => ?_
  obtain ⟨m, ρ, S, v, S', R, r, e, q⟩ := h
  obtain ⟨⟨x, S1⟩, e1, e⟩ := Option.bind_eq_some_iff.mp e
  obtain ⟨⟨y, S2⟩, e2, e⟩ := Option.bind_eq_some_iff.mp e
  obtain ⟨⟨z, S3⟩, e3, e⟩ := Option.bind_eq_some_iff.mp e
  refine ⟨m, ρ, S, x, S1, R, r, e1, fun m1 u H1 E1 R1 r1 => ⟨m1, ρ, S1, y, S2, R1, r.kp (E1.kp R), e2, fun m2 H2 E2 R2 => ⟨m2, ρ, S2, z, S3, R2, r.kp ((E1.trans E2).kp R), e3, fun m3 H3 E3 R3 => ?_⟩⟩⟩
  exact hg m3 S3 H3 x y z v S' u Q R3 (r1.kp ((E2.trans E3).kp R1)) e fun m4 z H4 E4 R4 r4 => q m4 z H4 (((E1.trans E2).trans E3).trans E4) R4 r4
end
end AL
namespace AL
open PySem PySem.Spec PyProof.Rows L2 G
variable [TT]
inductive Res where
  | stuck | nx (ρ : Rho) (S : Sto) | rt (v : Val) (S : Sto) | bk (ρ : Rho) (S : Sto) | ct (ρ : Rho) (S : Sto)
abbrev SF := Rho → Sto → Res
def Post (K : PySem.W.Frag) (m : List Addr) (H : Hp) (D : Ends) : Res → Prop
  | .stuck => False
  | .nx ρ S => ∀ m' σ' H', Ext m H m' H' → Rel K m' S H' → RhoR K H' m' ρ σ' → D.nx σ' H'
  | .rt v S => ∀ m' u H', Ext m H m' H' → Rel K m' S H' → VR K H' m' u v → D.rt u H'
  | .bk ρ S => ∀ m' σ' H', Ext m H m' H' → Rel K m' S H' → RhoR K H' m' ρ σ' → D.bk σ' H'
  | .ct ρ S => ∀ m' σ' H', Ext m H m' H' → Rel K m' S H' → RhoR K H' m' ρ σ' → D.ct σ' H'
theorem Post.ext {K : PySem.W.Frag} {m m1 : List Addr} {H H1 : Hp} {D : Ends} {r : Res} (h : Post K m H D r) (E : Ext m H m1 H1) : Post K m1 H1 D r := by
  cases r with
  | stuck => exact h
  | nx ρ S => exact fun m' σ' H' E' => h m' σ' H' (E.trans E')
  | rt ρ S => exact fun m' σ' H' E' => h m' σ' H' (E.trans E')
  | bk ρ S => exact fun m' σ' H' E' => h m' σ' H' (E.trans E')
  | ct ρ S => exact fun m' σ' H' E' => h m' σ' H' (E.trans E')
def tS (K : PySem.W.Frag) (g : SF) : TS := fun D σ H => ∃ m ρ S, Rel K m S H ∧ RhoR K H m ρ σ ∧ Post K m H D (g ρ S)
abbrev AS (X : Cx) (st : Stmt) (g : SF) : Prop := PS X st (tS X.K g)
abbrev ASs (X : Cx) (sts : List Stmt) (g : SF) : Prop := PSs X sts (tS X.K g)
section
variable {X : Cx} {st : Stmt} {sts rest : List Stmt} {e a b c o i : Expr} {es : List Expr} {pos : Pos} {f fa fb fc : EF} {g g1 g2 : SF} {tb : BF} {K : PySem.W.Frag} {ga : AF}
theorem ps_w {t t' : TS} (h : PS X st t) (hi : ∀ D σ H, t' D σ H → t D σ H) : PS X st t' := ⟨fun pins s σ H D I hq => h.run pins s σ H D I (hi D σ H hq)⟩
theorem pss_w {t t' : TS} (h : PSs X sts t) (hi : ∀ D σ H, t' D σ H → t D σ H) : PSs X sts t' := ⟨fun pins s σ H D I hq => h.run pins s σ H D I (hi D σ H hq)⟩
def sNil : SF := fun ρ S => .nx ρ S
def sSeq (g1 g2 : SF) : SF := fun ρ S => match g1 ρ S with
  | .nx ρ S => g2 ρ S
  | r => r
theorem asn : ASs X [] sNil := pss_w pss_nil fun D σ H h => by
  obtain ⟨m, ρ, S, R, r, p⟩ := h
  exact p m σ H (.refl _ _) R r
theorem asq (h1 : AS X st g1) (h2 : ASs X rest g2) : ASs X (st :: rest) (sSeq g1 g2) := pss_w (pss_cons h1 h2) fun D σ H h => by
  obtain ⟨m, ρ, S, R, r, p⟩ := h
  refine ⟨m, ρ, S, R, r, ?_⟩
  unfold sSeq at p
  cases e : g1 ρ S with
  | nx ρ1 S1 =>
    rw [e] at p
    intro m1 σ1 H1 E1 R1 r1
    exact ⟨m1, ρ1, S1, R1, r1, p.ext E1⟩
  | stuck => rw [e] at p; exact p
  | rt v S1 => rw [e] at p; exact p
  | bk v S1 => rw [e] at p; exact p
  | ct v S1 => rw [e] at p; exact p
theorem as1 (h : AS X st g) : ASs X [st] g := pss_one h
def sExpr (f : EF) : SF := fun ρ S => match f ρ S with
  | some (_, S) => .nx ρ S
  | none => .stuck
theorem asx (he : AE X e f) (hs : swapsWith e none pos.line X.env = pure false := by rfl) : AS X (.Expr e pos) (sExpr f) := ps_w (ps_expr he hs) fun D σ H h => by
  obtain ⟨m, ρ, S, R, r, p⟩ := h
  unfold sExpr at p
  split at p
  · next v S1 e1 => exact ⟨m, ρ, S, v, S1, R, r, e1, fun m1 u H1 E1 R1 r1 => p m1 σ H1 E1 R1 (r.kp (E1.kp R))⟩
  · exact p.elim
def sRet (f : EF) : SF := fun ρ S => match f ρ S with
  | some (v, S) => .rt v S
  | none => .stuck
theorem asr (he : AE X e f) : AS X (.Return (some e) pos) (sRet f) := ps_w (ps_ret he) fun D σ H h => by
  obtain ⟨m, ρ, S, R, r, p⟩ := h
  unfold sRet at p
  split at p
  · next v S1 e1 => exact ⟨m, ρ, S, v, S1, R, r, e1, p⟩
  · exact p.elim
def sIf (t : BF) (g1 g2 : SF) : SF := fun ρ S => match t ρ S with
  | some (true, S) => g1 ρ S
  | some (false, S) => g2 ρ S
  | none => .stuck
theorem asi (hc : AT X c tb) (h1 : ASs X sts g1) (h2 : ASs X rest g2) : AS X (.If c sts rest pos) (sIf tb g1 g2) := ps_w (ps_if hc h1 h2) fun D σ H h => by
  obtain ⟨m, ρ, S, R, r, p⟩ := h
  unfold sIf at p
  split at p
  · next S1 e1 => exact ⟨m, ρ, S, true, S1, R, r, e1, fun m1 H1 E1 R1 => ⟨m1, ρ, S1, R1, r.kp (E1.kp R), p.ext E1⟩⟩
  · next S1 e1 => exact ⟨m, ρ, S, false, S1, R, r, e1, fun m1 H1 E1 R1 => ⟨m1, ρ, S1, R1, r.kp (E1.kp R), p.ext E1⟩⟩
  · exact p.elim
inductive Pat where
  | nm (i : Nat)
  | tp (ps : List Pat)
mutual
def Pat.bind : Pat → Val → Rho → Option Rho
  | .nm i, v, ρ => some (ρ.set i (some v))
  | .tp ps, .tup vs, ρ => Pat.binds ps vs ρ
  | .tp _, _, _ => none
def Pat.binds : List Pat → List Val → Rho → Option Rho
  | [], [], ρ => some ρ
  | p :: ps, v :: vs, ρ => (Pat.bind p v ρ).bind fun ρ1 => Pat.binds ps vs ρ1
  | _, _, _ => none
end
mutual
def Pat.slots : Pat → List Nat
  | .nm i => [i]
  | .tp ps => Pat.slotss ps
def Pat.slotss : List Pat → List Nat
  | [] => []
  | p :: ps => Pat.slots p ++ Pat.slotss ps
end
theorem wipe_get (σ : L2.St) : ∀ (vs : List Nat) (j : Nat), (wipe σ vs)[j]? = if j ∈ vs then (σ[j]?).map (fun _ => none) else σ[j]?
  | [], j => by simp [wipe]
  | v :: vs, j => by
    unfold wipe
    by_cases z : v = j
    · subst z
      rw [List.getElem?_set]
      simp only [if_true, wipe_length, List.mem_cons, true_or, if_true]
      by_cases l : v < σ.length
      · simp [l]
      · simp [l, List.getElem?_eq_none (Nat.le_of_not_lt l)]
    · rw [List.getElem?_set_ne z, wipe_get σ vs j]
      simp [List.mem_cons, Ne.symm z]
theorem wipe_set (σ : L2.St) {i : Nat} {vs : List Nat} (x : Option V) (h : i ∈ vs) : wipe (σ.set i x) vs = wipe σ vs := by
  apply List.ext_getElem?
  intro j
  rw [wipe_get, wipe_get]
  by_cases z : i = j
  · subst z
    simp only [h, if_true]
    by_cases l : i < σ.length
    · simp [l]
    · rw [List.getElem?_eq_none (by rw [List.length_set]; omega), List.getElem?_eq_none (by omega)]
  · rw [List.getElem?_set_ne z]
def tG (K : PySem.W.Frag) (p : Pat) : TG := fun u σ H Q => ∃ m S ρ v ρ', Rel K m S H ∧ RhoR K H m ρ σ ∧ VR K H m u v ∧ p.bind v ρ = some ρ' ∧ ∀ σ', RhoR K H m ρ' σ' → (∀ ws, (∀ i ∈ p.slots, i ∈ ws) → wipe σ' ws = wipe σ ws) → Q σ' H
def tGs (K : PySem.W.Frag) (ps : List Pat) : TGs := fun us σ H Q => ∃ m S ρ vs ρ', Rel K m S H ∧ RhoR K H m ρ σ ∧ VRs K H m us vs ∧ Pat.binds ps vs ρ = some ρ' ∧ ∀ σ', RhoR K H m ρ' σ' → (∀ ws, (∀ i ∈ Pat.slotss ps, i ∈ ws) → wipe σ' ws = wipe σ ws) → Q σ' H
theorem pg_w {tg : Expr} {t t' : TG} (h : PG X tg t) (hi : ∀ v σ H Q, t' v σ H Q → t v σ H Q) : PG X tg t' := ⟨fun pins s σ H v u Q I rv hq => h.run pins s σ H v u Q I rv (hi v σ H Q hq)⟩
theorem pgs_w {tgs : List Expr} {t t' : TGs} (h : PGs X tgs t) (hi : ∀ v σ H Q, t' v σ H Q → t v σ H Q) : PGs X tgs t' := ⟨fun pins s σ H v u Q I rv hq => h.run pins s σ H v u Q I rv (hi v σ H Q hq)⟩
theorem agn {i : Nat} {x : Str} (hN : X.N.Nodup) (hi : X.N[i]? = some x) (hx : Loc X.env.scope x) (hf : X.fn x = true ∨ X.env.scope.names.lookup x = some .local := by first | exact .inl rfl | exact .inr rfl | assumption) : PG X (.Name x pos) (tG X.K (.nm i)) := pg_w (pg_name hN hi hx hf) fun u σ H Q h => by
  obtain ⟨m, S, ρ, v, ρ', R, r, rv, e, q⟩ := h
  simp only [Pat.bind] at e
  cases e
  exact q _ (r.set rv i) fun ws hw => wipe_set σ _ (hw i (by simp [Pat.slots]))
theorem agl0 : PGs X [] (tGs X.K []) := pgs_w pgs_nil fun us σ H Q h => by
  obtain ⟨m, S, ρ, vs, ρ', R, r, rv, e, q⟩ := h
  cases vs with
  | nil =>
    cases rv
    simp only [Pat.binds] at e
    cases e
    exact ⟨rfl, q σ r fun _ _ => rfl⟩
  | cons v vs => simp only [Pat.binds] at e; cases e
theorem agl {p : Pat} {ps : List Pat} (h1 : PG X e (tG X.K p)) (h2 : PGs X es (tGs X.K ps))
    (hs : (assignEach (e :: es) X.env).map (·.2) = assign e X.env :: (assignEach es X.env).map (·.2) := by rfl) : PGs X (e :: es) (tGs X.K (p :: ps)) := pgs_w (pgs_cons h1 h2 hs) fun us σ H Q h => by
  obtain ⟨m, S, ρ, vs, ρ', R, r, rv, e, q⟩ := h
  cases vs with
  | nil => simp only [Pat.binds] at e; cases e
  | cons v vs =>
    cases rv with
    | cons rv rvs =>
      simp only [Pat.binds] at e
      obtain ⟨ρ1, e1, e2⟩ := Option.bind_eq_some_iff.mp e
      refine ⟨_, _, rfl, m, S, ρ, v, ρ1, R, r, rv, e1, fun σ1 r1 w1 => ⟨m, S, ρ1, vs, ρ', R, r1, rvs, e2, fun σ2 r2 w2 => q σ2 r2 fun ws hw => ?_⟩⟩
      rw [w2 ws fun i hi => hw i (by simp [Pat.slotss, hi]), w1 ws fun i hi => hw i (by simp [Pat.slotss, hi])]
theorem bindLen : ∀ {ps : List Pat} {vs : List Val} {ρ ρ' : Rho}, Pat.binds ps vs ρ = some ρ' → vs.length = ps.length
  | [], [], _, _, _ => rfl
  | [], _ :: _, _, _, h => by simp only [Pat.binds] at h; cases h
  | _ :: _, [], _, _, h => by simp only [Pat.binds] at h; cases h
  | p :: ps, v :: vs, ρ, ρ', h => by
    simp only [Pat.binds] at h
    obtain ⟨ρ1, e1, e2⟩ := Option.bind_eq_some_iff.mp h
    rw [List.length_cons, List.length_cons, bindLen e2]
theorem agt {ps : List Pat} {k n : Nat} (hc : X.calm = true) (h : PGs X es (tGs X.K ps)) (hn : (assignEach es X.env).length = n := by rfl) (hst : (assignEach es X.env).findIdx? (·.1) = none := by rfl) (hl : ps.length = n := by rfl) : PG X (.Tuple es k pos) (tG X.K (.tp ps)) := pg_w (pg_tup hc h hn hst) fun u σ H Q h => by
  obtain ⟨m, S, ρ, v, ρ', R, r, rv, e, q⟩ := h
  cases v <;> simp only [Pat.bind] at e <;> try cases e
  cases rv with
  | tup ha rs =>
    exact ⟨_, _, rfl, ha.sq, by rw [rs.len, bindLen e, hl], m, S, ρ, _, ρ', R, r, rs, e, fun σ' r' w' => q σ' r' fun ws hw => w' ws fun i hi => hw i (by simpa [Pat.slots] using hi)⟩
def sAsg (p : Pat) (f : EF) : SF := fun ρ S => match f ρ S with
  | some (v, S) => match p.bind v ρ with
    | some ρ => .nx ρ S
    | none => .stuck
  | none => .stuck
theorem sAsg_ok {p : Pat} {D : Ends} {σ : L2.St} {H : Hp} (h : tS K (sAsg p f) D σ H) : tAsg (tF K f) (tG K p) D σ H := by
  obtain ⟨m, ρ, S, R, r, q⟩ := h
  unfold sAsg at q
  split at q
  · next v S1 e1 =>
    split at q
    · next ρ1 e2 =>
      refine ⟨m, ρ, S, v, S1, R, r, e1, fun m1 u H1 E1 R1 r1 => ⟨m1, S1, ρ, v, ρ1, R1, r.kp (E1.kp R), r1, e2, fun σ' r' _ => q m1 σ' H1 E1 R1 r'⟩⟩
    · exact q.elim
  · exact q.elim
theorem asa {p : Pat} {tg : Expr} (he : AE X e f) (hg : PG X tg (tG X.K p)) (hs : swapsWithSole [tg] e pos.line X.env = pure false := by rfl) (hw : swappedStores [tg] e X.env = pure none := by rfl)
    (h1 : (assignEach [tg] X.env).map (·.2) = [assign tg X.env] := by rfl) : AS X (.Assign [tg] e pos) (sAsg p f) := ps_w (ps_asg he hg hs hw h1) fun D σ H h => sAsg_ok h
theorem ass {i : Nat} {x : Str} {pos' : Pos} (hN : X.N.Nodup) (hi : X.N[i]? = some x) (hx : Loc X.env.scope x) (he : AE X e f) (hs : swapsWith e (some (.Name x pos')) pos.line X.env = pure false := by rfl) (hf : X.fn x = true ∨ X.env.scope.names.lookup x = some .local := by first | exact .inl rfl | exact .inr rfl | assumption) :
    AS X (.Assign [.Name x pos'] e pos) (sAsg (.nm i) f) := ps_w (ps_set hN hi hx he hs hf) fun D σ H h => by
  obtain ⟨m, ρ, S, R, r, q⟩ := h
  unfold sAsg at q
  split at q
  · next v S1 e1 =>
    simp only [Pat.bind] at q
    exact ⟨m, ρ, S, v, S1, R, r, e1, fun m1 u H1 E1 R1 r1 => q m1 _ H1 E1 R1 ((r.kp (E1.kp R)).set r1 i)⟩
  · exact q.elim
/-- a, b = x, y with plain names -/
def sPar (is : List Nat) (ga : AF) : SF := fun ρ S => match ga ρ S with
  | some (vs, S) => match Pat.binds (is.map Pat.nm) vs ρ with
    | some ρ => .nx ρ S
    | none => .stuck
  | none => .stuck
/-- o[i] = e -/
def sSub (g : Val → Val → Val → Sto → Option Sto) (fo fi f : EF) : SF := fun ρ S => match f ρ S with
  | some (v, S) => match fo ρ S with
    | some (o, S) => match fi ρ S with
      | some (i, S) => match g o i v S with
        | some S => .nx ρ S
        | none => .stuck
      | none => .stuck
    | none => .stuck
  | none => .stuck
def SetA (K : PySem.W.Frag) (r : TSet) (g : Val → Val → Val → Sto → Option Sto) : Prop := ∀ m S H o i v S' uo ui u Q, Rel K m S H → VR K H m uo o → VR K H m ui i → VR K H m u v → g o i v S = some S' → (∀ H', Ext m H m H' → Rel K m S' H' → Q H') → r uo ui u H Q
def whR (t : BF) (g : SF) : Nat → SF
  | 0 => fun _ _ => .stuck
  | n + 1 => fun ρ S => match t ρ S with
    | none => .stuck
    | some (false, S) => .nx ρ S
    | some (true, S) => match g ρ S with
      | .nx ρ S => whR t g n ρ S
      | .ct ρ S => whR t g n ρ S
      | .bk ρ S => .nx ρ S
      | .rt v S => .rt v S
      | .stuck => .stuck
open Classical in
noncomputable def sWhile (t : BF) (g : SF) : SF := fun ρ S => if h : ∃ n, whR t g n ρ S ≠ .stuck then whR t g h.choose ρ S else .stuck
abbrev IF := Rho → Sto → Option (List Val × (Sto → Prop) × Sto)
structure ItA (K : PySem.W.Frag) (J : It) (m0 : List Addr) (H0 : Hp) (vs : List Val) (ok : Sto → Prop) : Prop where
  step : ∀ (i : Nat) (m : List Addr) (S : Sto) (H : Hp), Ext m0 H0 m H → Rel K m S H → ok S → ∀ v, vs[i]? = some v → J.go i H ∧ ∀ x H', J.yld i H x H' → Rel K m S H' ∧ Ext m H m H' ∧ VR K H' m x v
  stop : ∀ (m : List Addr) (S : Sto) (H : Hp), Ext m0 H0 m H → Rel K m S H → ok S → J.stop vs.length H
def tI (K : PySem.W.Frag) (fi : IF) : TI := fun σ H R => ∃ m ρ S vs ok S', Rel K m S H ∧ RhoR K H m ρ σ ∧ fi ρ S = some (vs, ok, S') ∧ ∀ m' H' J, Ext m H m' H' → Rel K m' S' H' → ItA K J m' H' vs ok → R J H'
abbrev AI (X : Cx) (tg it : Expr) (fi : IF) : Prop := PI X tg it (tI X.K fi)
theorem pi_w {tg it : Expr} {w w' : TI} (h : PI X tg it w) (hi : ∀ σ H R, w' σ H R → w σ H R) : PI X tg it w' := ⟨fun pins s σ H R I hq => h.run pins s σ H R I (hi σ H R hq)⟩
theorem PI.or {tg it : Expr} {w w' : TI} (h : PI X tg it w) (h' : PI X tg it w') : PI X tg it (fun σ H R => w σ H R ∨ w' σ H R) := ⟨fun pins s σ H R I hq => hq.elim (h.run pins s σ H R I) (h'.run pins s σ H R I)⟩
open Classical in
noncomputable def forR (p : Pat) (g : SF) (ok : Sto → Prop) : List Val → SF
  | [] => fun ρ S => if ok S then .nx ρ S else .stuck
  | v :: vs => fun ρ S => if ok S then match p.bind v ρ with
    | none => .stuck
    | some ρ => match g ρ S with
      | .nx ρ S => forR p g ok vs ρ S
      | .ct ρ S => forR p g ok vs ρ S
      | .bk ρ S => .nx ρ S
      | .rt v S => .rt v S
      | .stuck => .stuck
    else .stuck
noncomputable def sFor (p : Pat) (fi : IF) (g : SF) : SF := fun ρ S => match fi ρ S with
  | some (vs, ok, S) => forR p g ok vs ρ S
  | none => .stuck
theorem asf {p : Pat} {tg it : Expr} {fi : IF} (hp : PassesOwn (model X.prog X.w) X.A X.env X.xe) (hc : X.calm = true) (hi : AI X tg it fi) (hg : PG X tg (tG X.K p)) (hb : ASs X sts g)
    (hs : ∀ x, foldedSetIterable it X.env x = pure x := by intro _; rfl) : AS X (.For tg it sts [] pos) (sFor p fi g) := ps_w (ps_for hp hc hi hg hb hs) fun D σ H h => by
  obtain ⟨m, ρ, S, R, r, q⟩ := h
  unfold sFor at q
  split at q
  · next vs ok S1 e1 =>
    refine ⟨m, ρ, S, vs, ok, S1, R, r, e1, fun m0 H0 J E0 R0 it0 => ?_⟩
    refine ⟨fun i k σ H => k + i = vs.length ∧ ∃ m ρ S, Ext m0 H0 m H ∧ Rel X.K m S H ∧ RhoR X.K H m ρ σ ∧ Post X.K m H D (forR p g ok (vs.drop i) ρ S), ⟨vs.length, by omega, m0, ρ, S1, .refl _ _, R0, r.kp (E0.kp R), q.ext E0⟩, ?_⟩
    rintro i k σ H ⟨hk, m, ρ, S, E, R, r, q⟩
    by_cases hlt : i < vs.length
    · rw [List.drop_eq_getElem_cons hlt] at q
      unfold forR at q
      split at q
      · next hok =>
        split at q
        · exact q.elim
        · next ρ1 e2 =>
          obtain ⟨go, yl⟩ := it0.step i m S H E R hok vs[i] (List.getElem?_eq_getElem hlt)
          refine .inr ⟨go, fun σ H => ∃ m ρ S, Ext m0 H0 m H ∧ Rel X.K m S H ∧ RhoR X.K H m ρ σ ∧ Post X.K m H D (forR p g ok (vs.drop (i + 1)) ρ S), fun σ' H' h => ⟨k - 1, by omega, by omega, h⟩, fun x H' hy => ?_⟩
          obtain ⟨R', E', rx⟩ := yl x H' hy
          refine ⟨m, S, ρ, _, ρ1, R', r.kp (E'.kp R), rx, e2, fun σ1 r1 _ => ⟨m, ρ1, S, R', r1, ?_⟩⟩
          have EE := E.trans E'
          split at q
          · next ρ2 S2 e3 =>
            rw [e3]
            exact fun m2 σ2 H2 E2 R2 r2 => ⟨m2, ρ2, S2, EE.trans E2, R2, r2, q.ext (E'.trans E2)⟩
          · next ρ2 S2 e3 =>
            rw [e3]
            exact fun m2 σ2 H2 E2 R2 r2 => ⟨m2, ρ2, S2, EE.trans E2, R2, r2, q.ext (E'.trans E2)⟩
          · next ρ2 S2 e3 =>
            rw [e3]
            exact fun m2 σ2 H2 E2 R2 r2 => q m2 σ2 H2 (E'.trans E2) R2 r2
          · next v2 S2 e3 =>
            rw [e3]
            exact fun m2 σ2 H2 E2 R2 r2 => q m2 σ2 H2 (E'.trans E2) R2 r2
          · exact q.elim
      · exact q.elim
    · have e : i = vs.length := by omega
      subst e
      rw [List.drop_length] at q
      unfold forR at q
      split at q
      · next hok => exact .inl ⟨it0.stop m S H E R hok, q m σ H (.refl _ _) R r⟩
      · exact q.elim
  · exact q.elim
def wipeR (ρ : Rho) : List Nat → Rho
  | [] => ρ
  | v :: vs => (wipeR ρ vs).set v none
theorem RhoR.wipe {H : Hp} {m : List Addr} {ρ : Rho} {σ : L2.St} (r : RhoR K H m ρ σ) : ∀ vs : List Nat, RhoR K H m (wipeR ρ vs) (L2.wipe σ vs)
  | [] => r
  | v :: vs => (r.wipe vs).unset v none
def bYes : BF := fun _ S => some (true, S)
theorem ats0 : PTs X [] (tFb X.K bYes) := ⟨fun pins s σ H Q I h => pts_nil.run pins s σ H Q I (by
  obtain ⟨m, ρ, S, v, S', R, r, e, q⟩ := h
  cases e
  exact q m H (.refl _ _) R)⟩
open Classical in
noncomputable def lcR (p : Pat) (t : BF) (f : EF) (ok : Sto → Prop) (ρ : Rho) : List Val → List Val → Sto → Option (List Val × Sto)
  | [], acc, S => if ok S then some (acc, S) else none
  | v :: vs, acc, S => if ok S then (p.bind v ρ).bind fun ρ1 => (t ρ1 S).bind fun b => if b.1 then (f ρ1 b.2).bind fun y => if acc.length < 1000000 then lcR p t f ok ρ vs (acc ++ [y.1]) y.2 else none else lcR p t f ok ρ vs acc b.2 else none
noncomputable def eLc (p : Pat) (fi : IF) (t : BF) (f : EF) (own : List Nat) : EF := fun ρ S => (fi ρ S).bind fun z => (lcR p t f z.2.1 (wipeR ρ own) z.1 [] z.2.2).bind fun y => some (.ref y.2.length, y.2 ++ [.lst y.1])
theorem eLc_ok {p : Pat} {fi : IF} {t : BF} {own : List Nat} (hp : ∀ i ∈ p.slots, i ∈ own) {σ : L2.St} {H : Hp} {Q : VK} (h : tF K (eLc p fi t f own) σ H Q) : tLc (tI K fi) (tG K p) (tFb K t) (tF K f) own σ H Q := by
  obtain ⟨m, ρ, S, v, S', R, r, e, q⟩ := h
  obtain ⟨⟨vs, ok, S1⟩, e1, e⟩ := Option.bind_eq_some_iff.mp e
  obtain ⟨⟨ys, S2⟩, e2, e⟩ := Option.bind_eq_some_iff.mp e
  cases e
  refine ⟨m, ρ, S, vs, ok, S1, R, r, e1, fun m0 H0 J E0 R0 it0 D hD => ?_⟩
  dsimp only at e2 q
  refine ⟨fun i k H => k + i = vs.length ∧ ∃ m S acc xs, Ext m0 H0 m H ∧ Rel K m S H ∧ D ∉ m ∧ H D = some (.lst xs) ∧ VRs K H m xs acc ∧ lcR p t f ok (wipeR ρ own) (vs.drop i) acc S = some (ys, S2), ?_, ?_⟩
  · obtain ⟨R1, E1⟩ := R0.tmp (o := .lst []) hD
    exact ⟨vs.length, by omega, m0, S1, [], [], E1, R1, R0.noNone hD, upd_same, .nil, e2⟩
  · rintro i k H ⟨hk, m, S, acc, xs, E, R, nD, hDx, rx, el⟩
    by_cases hlt : i < vs.length
    · rw [List.drop_eq_getElem_cons hlt] at el
      unfold lcR at el
      split at el
      · next hok =>
        obtain ⟨ρ1, b1, el⟩ := Option.bind_eq_some_iff.mp el
        obtain ⟨⟨bb, S3⟩, b2, el⟩ := Option.bind_eq_some_iff.mp el
        dsimp only at el
        obtain ⟨go, yl⟩ := it0.step i m S H E R hok vs[i] (List.getElem?_eq_getElem hlt)
        refine .inr ⟨go, fun H => ∃ m S acc xs, Ext m0 H0 m H ∧ Rel K m S H ∧ D ∉ m ∧ H D = some (.lst xs) ∧ VRs K H m xs acc ∧ lcR p t f ok (wipeR ρ own) (vs.drop (i + 1)) acc S = some (ys, S2), fun H' h => ⟨k - 1, by omega, by omega, h⟩, fun x H' hy => ?_⟩
        obtain ⟨R', E', rx'⟩ := yl x H' hy
        have rr : RhoR K H' m (wipeR ρ own) (L2.wipe σ own) := (r.wipe own).kp ((((E0.kp (by assumption)).trans (E.kp R0))).trans (E'.kp R))
        refine ⟨m, S, wipeR ρ own, vs[i], ρ1, R', rr, rx', b1, fun σ1 r1 w1 => ⟨?_, m, ρ1, S, bb, S3, R', r1, b2, fun m3 H3 E3 R3 => ?_⟩⟩
        · have := w1 own hp
          rw [this]
          have idem : ∀ (σ : L2.St) (vs ws : List Nat), (∀ i ∈ vs, i ∈ ws) → L2.wipe (L2.wipe σ vs) ws = L2.wipe σ ws := by
            intro σ vs ws
            induction vs with
            | nil => intro _; rfl
            | cons v vs ih =>
              intro h
              have e : L2.wipe σ (v :: vs) = (L2.wipe σ vs).set v none := rfl
              rw [e, wipe_set _ _ (h v (by simp)), ih fun i hi => h i (by simp [hi])]
          exact idem σ own own fun i hi => hi
        · have nD3 : D ∉ m3 := E3.no (E'.fr D _ hDx nD) nD
          have hD3 : H3 D = some (.lst xs) := E3.fr D _ (E'.fr D _ hDx nD) nD
          have k3 := (E'.kp R).trans (E3.kp R')
          cases bb with
          | true =>
            rw [if_pos rfl] at el
            refine iteT ?_
            obtain ⟨⟨y, S4⟩, b3, el⟩ := Option.bind_eq_some_iff.mp el
            dsimp only at el
            split at el
            · next hlen =>
              refine ⟨m3, ρ1, S3, y, S4, R3, r1.kp (E3.kp R'), b3, fun m4 u H4 E4 R4 r4 => ?_⟩
              have nD4 : D ∉ m4 := E4.no hD3 nD3
              have hD4 : H4 D = some (.lst xs) := E4.fr D _ hD3 nD3
              have rx4 := rx.kp (k3.trans (E4.kp R3))
              refine ⟨xs, hD4, by rw [rx.len]; exact Nat.lt_of_lt_of_le hlen (by decide), ?_⟩
              have kD : Kp m4 H4 m4 (upd H4 D (.lst (xs ++ [u]))) := .at_ fun u' e => by rw [hD4] at e; cases e; exact .inl ⟨_, rfl⟩
              have EE := ((E.trans E').trans E3).trans E4
              refine ⟨m4, S4, acc ++ [y], xs ++ [u], ⟨EE.pre, fun a o h n t => ?_, EE.nw'⟩, R4.off kD (fun a ha => upd_ne fun z => nD4 (z ▸ ha)) (fun P ps h => tbl_at hD4 (fun _ z => by cases z) h), nD4, upd_same, (rx4.kp kD).app (r4.kp kD).one, el⟩
              rw [upd_ne (ne_of_none h hD)]
              exact EE.fr' a o h n t
            · cases el
          | false =>
            rw [if_neg Bool.false_ne_true] at el
            refine iteF ?_
            exact ⟨m3, S3, acc, xs, (E.trans E').trans E3, R3, nD3, hD3, rx.kp k3, el⟩
      · cases el
    · have e : i = vs.length := by omega
      subst e
      rw [List.drop_length] at el
      unfold lcR at el
      split at el
      · next hok =>
        cases el
        refine .inl ⟨it0.stop m _ H E R hok, ?_⟩
        have E1 : Ext m0 H0 (m ++ [D]) H := by
          obtain ⟨r', hr'⟩ := E.pre
          refine ⟨⟨r' ++ [D], by rw [hr', List.append_assoc]⟩, E.fr', fun a o ha n ho => ?_⟩
          rcases List.mem_append.mp ha with z | z
          · exact E.nw' a o z n ho
          · simp only [List.mem_singleton] at z
            rw [z, hD] at ho
            cases ho
        have kk : Kp m H (m ++ [D]) H := .grow [D] (.refl _ _)
        have R1 : Rel K (m ++ [D]) (S2 ++ [.lst ys]) H := by
          refine ⟨by simp [R.len], ?_, fun n o' a h1 h2 => ?_, R.tb⟩
          · rw [List.nodup_append]
            refine ⟨R.nd, by simp, fun a ha b hb z => ?_⟩
            simp only [List.mem_singleton] at hb
            exact nD (hb ▸ z ▸ ha)
          · by_cases hn : n < S2.length
            · rw [List.getElem?_append_left hn] at h1
              rw [List.getElem?_append_left (by rw [R.len]; exact hn)] at h2
              exact (R.ob n o' a h1 h2).kp kk rfl
            · have e : n = S2.length := by
                have := (List.getElem?_eq_some_iff.mp h1).1
                simp only [List.length_append, List.length_singleton] at this
                omega
              subst e
              rw [List.getElem?_concat_length] at h1
              rw [← R.len, List.getElem?_concat_length] at h2
              cases h1
              cases h2
              exact ⟨xs, hDx, rx.kp kk⟩
        refine q (m ++ [D]) (.ref D) H (E0.trans E1) R1 (.ref ?_)
        rw [← R.len, List.getElem?_concat_length]
      · cases el
theorem alc {elt tg it : Expr} {ifs : List Expr} {scope : Scope} {own : List (Str × Nat)} {p : Pat} {fi : IF} {t : BF} (hc : X.calm = true) (hN : X.N.Nodup) (hi : AI X tg it fi) (ok : BlkOk X.N X.env.scope scope own) (hp : ∀ i ∈ p.slots, i ∈ own.map (·.2))
    (hg : ∀ (s : Shared) (H : Hp) (C : Addr) (cl : List (Str × Addr)) (fp : List Addr), PG (X.blk s H scope (compEnvC scope cl C X.env) fp) tg (tG X.K p)) (ht : ∀ (s : Shared) (H : Hp) (C : Addr) (cl : List (Str × Addr)) (fp : List Addr), PTs (X.blk s H scope (compEnvC scope cl C X.env) fp) ifs (tFb X.K t))
    (he : ∀ (s : Shared) (H : Hp) (C : Addr) (cl : List (Str × Addr)) (fp : List Addr), AE (X.blk s H scope (compEnvC scope cl C X.env) fp) elt f) (hs : ∀ x, foldedSetIterable it X.env x = pure x := by intro _; rfl) :
    AE X (.ListComp elt [⟨tg, it, ifs, 0⟩] scope pos) (eLc p fi t f (own.map (·.2))) := pe_w (pe_lc hc hN hi ok hg ht he hs) fun _ _ _ h => eLc_ok hp h
/-- y = [..] on one line -/
theorem aslc {i : Nat} {y : Str} {py spos : Pos} {elt tg it : Expr} {ifs : List Expr} {scope : Scope} {own : List (Str × Nat)} {p : Pat} {fi : IF} {t : BF} (hc : X.calm = true) (hN : X.N.Nodup) (hy : X.N[i]? = some y) (hyl : X.env.scope.names.lookup y = some .local)
    (hsw : swapsWith (.ListComp elt [⟨tg, it, ifs, 0⟩] scope pos) (some (.Name y py)) spos.line X.env = pure true) (hi : AI X tg it fi) (ok : BlkOk X.N X.env.scope scope own) (hp : ∀ i ∈ p.slots, i ∈ own.map (·.2))
    (hg : ∀ (s : Shared) (H : Hp) (C : Addr) (cl : List (Str × Addr)) (fp : List Addr), PG (X.blk s H scope (compEnvC scope cl C X.env) fp) tg (tG X.K p)) (ht : ∀ (s : Shared) (H : Hp) (C : Addr) (cl : List (Str × Addr)) (fp : List Addr), PTs (X.blk s H scope (compEnvC scope cl C X.env) fp) ifs (tFb X.K t))
    (he : ∀ (s : Shared) (H : Hp) (C : Addr) (cl : List (Str × Addr)) (fp : List Addr), AE (X.blk s H scope (compEnvC scope cl C X.env) fp) elt f) (hs : ∀ x, foldedSetIterable it X.env x = pure x := by intro _; rfl) :
    AS X (.Assign [.Name y py] (.ListComp elt [⟨tg, it, ifs, 0⟩] scope pos) spos) (sAsg (.nm i) (eLc p fi t f (own.map (·.2)))) := ps_w (ps_setLc (i := i) hc hN hy hyl hsw hi ok hg ht he hs) fun D σ H h => by
  obtain ⟨m, ρ, S, R, r, q⟩ := h
  unfold sAsg at q
  split at q
  · next v S1 e1 =>
    simp only [Pat.bind] at q
    exact eLc_ok hp ⟨m, ρ, S, v, S1, R, r, e1, fun m1 u H1 E1 R1 r1 => q m1 _ H1 E1 R1 ((r.kp (E1.kp R)).set r1 i)⟩
  · exact q.elim
end
def runF (n : Nat) (g : SF) : FA := fun vs S => match g (vs.map some ++ List.replicate (n - vs.length) none) S with
  | .rt v S => some (v, S)
  | .nx _ S => some (.non, S)
  | _ => none
end AL
namespace AL
open PySem PySem.Spec PyProof.Rows L2 G
variable [TT]
theorem rho_start {K : PySem.W.Frag} {H : Hp} {m : List Addr} (N : List Str) {us : List V} {vs : List Val} (r : VRs K H m us vs) : RhoR K H m (vs.map some ++ List.replicate (N.length - vs.length) none) (L2.start N us) := by
  have l := r.len
  refine ⟨by simp [L2.start, l], fun i v h => ?_⟩
  by_cases hi : i < vs.length
  · rw [List.getElem?_append_left (by simpa using hi), List.getElem?_map] at h
    obtain ⟨w, h1, h2⟩ := Option.map_eq_some_iff.mp h
    cases h2
    obtain ⟨u, h3, h4⟩ := r.get h1
    refine ⟨u, ?_, h4⟩
    unfold L2.start
    rw [List.getElem?_append_left (by simpa [l] using hi), List.getElem?_map, h3]
    rfl
  · rw [List.getElem?_append_right (by simpa using Nat.le_of_not_lt hi), List.getElem?_replicate] at h
    split at h <;> cases h
/-- a def from its body -/
theorem fn_a {P : Program} {w : World} {K : PySem.W.Frag} {mg : Str → Option Value} {base : Heap} {x qual : Str} {st : Stmt} {f : Addr} {fd : FuncData} {N ps : List Str} {k : Nat} {g : SF}
    (F : Fun K x qual st f fd) (S : FnScope N ps (defScope st)) (hb : Binds K fd ps []) (hm : mg x = some (.ref f))
    (body : ∀ (cdv : Value) (A : Around) (outer : List Env) (s : Shared) (H : Hp) (E : XK), A.guards = some [] →
      Room k (A.deeper (envOfC qual (defScope st) s.heap.objs.size f cdv)) → ASs (cxOf CX0 P w K mg base N qual (defScope st) f cdv A outer s H E).nox (defBody st) g) {n : Nat} (hn : N.length = n := by rfl) :
    Def P w K mg base (k + 1) x ps (runF n g) := by
  subst hn
  refine ⟨f, fd, fn_g F S (fun vs H Q E h => h.1) (fun cdv A outer s H us Q E hg hr h => ⟨_, body cdv A outer s H E hg hr, ?_⟩), hb, hm, F.kp⟩
  obtain ⟨hl, m, S0, vs, v, S', R, r, e, q⟩ := h
  refine ⟨m, _, S0, R, rho_start N r, ?_⟩
  unfold runF at e
  split at e
  · next v' S1 e1 =>
    cases e
    rw [e1]
    exact q
  · next v' S1 e1 =>
    cases e
    rw [e1]
    exact fun m' σ' H' E' R' r' => q m' .non H' E' R' .non
  · cases e
section
variable {X : Cx} {K : PySem.W.Frag}
def gI (g : Int → Int → Val) : Val → Val → Sto → Option (Val × Sto) := fun x y S => match x, y with
  | .int a, .int b => some (g a b, S)
  | _, _ => none
theorem oI {gv : Int → Int → V} {g : Int → Int → Val} (h : ∀ H m a b, VR K H m (gv a b) (g a b)) : OpA K (rI0 gv) (gI g) := by
  intro m S H x y v S' u w Q R ru rw_ e q
  cases x <;> cases y <;> simp only [gI] at e <;> try cases e
  cases ru
  cases rw_
  exact ⟨_, _, rfl, rfl, q m _ H (.refl _ _) R (h H m _ _)⟩
open Classical in
noncomputable def gIc (C : Int → Int → Prop) (g : Int → Int → Val) : Val → Val → Sto → Option (Val × Sto) := fun x y S => match x, y with
  | .int a, .int b => if C a b then some (g a b, S) else none
  | _, _ => none
theorem oIc {C : Int → Int → Prop} {gv : Int → Int → V} {g : Int → Int → Val} (h : ∀ H m a b, VR K H m (gv a b) (g a b)) : OpA K (rI C gv) (gIc C g) := by
  intro m S H x y v S' u w Q R ru rw_ e q
  cases x <;> cases y <;> simp only [gIc] at e <;> try cases e
  cases ru
  cases rw_
  split at e
  · next hc =>
    cases e
    exact ⟨_, _, rfl, rfl, hc, q m _ H (.refl _ _) R (h H m _ _)⟩
  · cases e
abbrev gSub := gI fun a b => .int (a - b)
noncomputable abbrev gMul := gIc CMulW fun a b => .int (a * b)
noncomputable abbrev gDiv := gIc CDivW fun a b => .int (a / b)
noncomputable abbrev gMod := gIc (fun _ b => b ≠ 0) fun a b => .int (a.fmod b)
noncomputable abbrev gPow := gIc CPow fun a b => .int (a ^ b.toNat)
abbrev gLt := gI fun a b => .bl (decide (a < b))
abbrev gLe := gI fun a b => .bl (decide (a ≤ b))
abbrev gGt := gI fun a b => .bl (decide (b < a))
abbrev gGe := gI fun a b => .bl (decide (b ≤ a))
theorem oSub : OpA K (rI0 fun i j => .int (i - j)) gSub := oI fun _ _ _ _ => .int _
theorem oMul : OpA K (rI CMulW fun i j => .int (i * j)) gMul := oIc fun _ _ _ _ => .int _
theorem oDiv : OpA K (rI CDivW fun i j => .int (i / j)) gDiv := oIc fun _ _ _ _ => .int _
theorem oMod : OpA K (rI (fun _ j => j ≠ 0) fun i j => .int (i.fmod j)) gMod := oIc fun _ _ _ _ => .int _
theorem oPow : OpA K (rI CPow fun i j => .int (i ^ j.toNat)) gPow := oIc fun _ _ _ _ => .int _
theorem oLt : OpA K (rI0 fun i j => .bl (decide (i < j))) gLt := oI fun _ _ _ _ => .bl _
theorem oLe : OpA K (rI0 fun i j => .bl (decide (i ≤ j))) gLe := oI fun _ _ _ _ => .bl _
theorem oGt : OpA K (rI0 fun i j => .bl (decide (j < i))) gGt := oI fun _ _ _ _ => .bl _
theorem oGe : OpA K (rI0 fun i j => .bl (decide (j ≤ i))) gGe := oI fun _ _ _ _ => .bl _
def gNeg : Val → Sto → Option (Val × Sto) := fun x S => match x with
  | .int a => some (.int (-a), S)
  | _ => none
theorem oNeg : UnA K (rU fun i => .int (-i)) gNeg := by
  intro m S H x v S' u Q R ru e q
  cases x <;> simp only [gNeg] at e <;> try cases e
  cases ru
  exact ⟨_, rfl, q m _ H (.refl _ _) R (.int _)⟩
def gAdd : Val → Val → Sto → Option (Val × Sto) := fun x y S => match x, y with
  | .int a, .int b => some (.int (a + b), S)
  | .str a, .str b => if a.length + b.length ≤ sizeLine then some (.str (a ++ b), S) else none
  | .tup (a :: as), .tup b => if as.length + 1 + b.length ≤ sizeLine then some (.tup (a :: as ++ b), S) else none
  | .ref i, .ref j => match S[i]?, S[j]? with
    | some (.lst a), some (.lst b) => if a.length + b.length ≤ sizeLine then some (.ref S.length, S ++ [.lst (a ++ b)]) else none
    | _, _ => none
  | _, _ => none
def rAddA (K : PySem.W.Frag) : R2 := fun x y H Q => (rI0 (fun i j => .int (i + j))) x y H Q ∨ ((∃ i j, x = .str i ∧ y = .str j ∧ i.length + j.length ≤ sizeLine ∧ Q (.str (i ++ j)) H) ∨ (rCatT K x y H Q ∨ rCat x y H Q))
theorem op_addA : OpR X (binaryOp .Add) (rAddA X.K) := op_add.or (op_add_str.or (op_catT.or op_cat))
theorem oAdd : OpA K (rAddA K) gAdd := by
  intro m S H x y v S' u w Q R ru rw_ e q
  unfold gAdd at e
  split at e
  · cases e
    cases ru
    cases rw_
    exact .inl ⟨_, _, rfl, rfl, q m _ H (.refl _ _) R (.int _)⟩
  · split at e
    · next h =>
      cases e
      cases ru
      cases rw_
      exact .inr (.inl ⟨_, _, rfl, rfl, h, q m _ H (.refl _ _) R (.str _)⟩)
    · cases e
  · next a as b =>
    split at e
    · next h =>
      cases e
      cases ru with
      | tup ha ra =>
        rename_i ad xs
        cases rw_ with
        | tup hb rb =>
          rename_i bd ys
          have l1 := ra.len
          have l2 := rb.len
          rw [List.length_cons] at l1
          refine .inr (.inr (.inl ⟨ad, bd, xs, ys, rfl, rfl, ha.sq, hb.sq, ?_, by omega, fun z => ?_, fun z p hp => ?_⟩))
          · intro z
            rw [z] at l1
            simp at l1
          · subst z
            have : b = [] := by
              cases b with
              | nil => rfl
              | cons _ _ => simp at l2
            subst this
            rw [List.append_nil] at q
            exact q m _ H (.refl _ _) R (.tup ha ra)
          · obtain ⟨R2, E2⟩ := R.tmp (o := .tup (xs ++ ys)) hp
            exact q m _ _ E2 R2 (.tup (.inl upd_same) ((ra.app rb).kp (E2.kp R)))
    · cases e
  · next i j =>
    split at e
    · next a b ea eb =>
      split at e
      · next h =>
        cases e
        cases ru with
        | ref ha =>
          cases rw_ with
          | ref hb =>
            obtain ⟨xs, hx, rx⟩ := R.ob _ _ _ ea ha
            obtain ⟨ys, hy, ry⟩ := R.ob _ _ _ eb hb
            refine .inr (.inr (.inr ⟨_, _, xs, ys, rfl, rfl, hx, hy, by rw [rx.len, ry.len]; exact h, fun p hp => ?_⟩))
            have k1 : Kp m H (m ++ [p]) (upd H p (.lst (xs ++ ys))) := .grow [p] (.new hp)
            obtain ⟨R2, E2⟩ := R.alloc (o := .lst (xs ++ ys)) (b := .lst (a ++ b)) hp ⟨_, upd_same, (rx.app ry).kp k1⟩
            refine q _ _ _ E2 R2 (.ref ?_)
            rw [← R.len, List.getElem?_concat_length]
      · cases e
    · cases e
  · cases e
theorem newList {m : List Addr} {S : Sto} {H : Hp} {xs : List V} {vs : List Val} (R : Rel K m S H) (r : VRs K H m xs vs) {Q : VK} (q : ∀ m' z H', Ext m H m' H' → Rel K m' (S ++ [.lst vs]) H' → VR K H' m' z (.ref S.length) → Q z H') : ∀ p, H p = none → Q (.ref p) (upd H p (.lst xs)) := fun p hp => by
  have k1 : Kp m H (m ++ [p]) (upd H p (.lst xs)) := .grow [p] (.new hp)
  obtain ⟨R2, E2⟩ := R.alloc (o := .lst xs) (b := .lst vs) hp ⟨_, upd_same, r.kp k1⟩
  refine q _ _ _ E2 R2 (.ref ?_)
  rw [← R.len, List.getElem?_concat_length]
theorem newTup {m : List Addr} {S : Sto} {H : Hp} {xs : List V} {vs : List Val} (R : Rel K m S H) (r : VRs K H m xs vs) {Q : VK} (q : ∀ m' z H', Ext m H m' H' → Rel K m' S H' → VR K H' m' z (.tup vs) → Q z H') : ∀ p, H p = none → Q (.ref p) (upd H p (.tup xs)) := fun p hp => by
  obtain ⟨R2, E2⟩ := R.tmp (o := .tup xs) hp
  exact q m _ _ E2 R2 (.tup (.inl upd_same) (r.kp (E2.kp R)))
theorem VRs.atI {H : Hp} {m : List Addr} {us : List V} {vs : List Val} (r : VRs K H m us vs) {i : Int} {v : Val} (h : L2.atI vs i = some v) : ∃ u, L2.atI us i = some u ∧ VR K H m u v := by
  unfold L2.atI at h ⊢
  rw [r.len]
  cases e : ixN vs.length i with
  | none => rw [e] at h; cases h
  | some j =>
    rw [e] at h
    exact r.get h
def gIx : Val → Val → Sto → Option (Val × Sto) := fun x y S => match x, y with
  | .tup vs, .int i => (atI vs i).map fun v => (v, S)
  | .ref n, .int i => match S[n]? with
    | some (.lst vs) => (atI vs i).map fun v => (v, S)
    | _ => none
  | .str z, .int i => if z.length ≤ sizeLine then (atI z.cps.toList i).map fun c => (.str ⟨#[c]⟩, S) else none
  | _, _ => none
theorem oIx : OpA K (rIx K) gIx := by
  intro m S H x y v S' u w Q R ru rw_ e q
  unfold gIx at e
  split at e
  · obtain ⟨v', e1, e2⟩ := Option.map_eq_some_iff.mp e
    cases e2
    cases rw_
    cases ru with
    | tup ha ra =>
      obtain ⟨z, h1, h2⟩ := ra.atI e1
      exact .inr (.inl ⟨_, _, _, z, rfl, rfl, ha.sq, h1, q m z H (.refl _ _) R h2⟩)
  · split at e
    · next vs en =>
      obtain ⟨v', e1, e2⟩ := Option.map_eq_some_iff.mp e
      cases e2
      cases rw_
      cases ru with
      | ref ha =>
        obtain ⟨xs, hx, rx⟩ := R.ob _ _ _ en ha
        obtain ⟨z, h1, h2⟩ := rx.atI e1
        exact .inl ⟨_, _, _, z, rfl, rfl, SqL.of hx, h1, q m z H (.refl _ _) R h2⟩
    · cases e
  · split at e
    · next hl =>
      obtain ⟨v', e1, e2⟩ := Option.map_eq_some_iff.mp e
      cases e2
      cases rw_
      cases ru
      exact .inr (.inr ⟨_, _, _, rfl, rfl, hl, e1, q m _ H (.refl _ _) R (.str _)⟩)
    · cases e
  · cases e
def cutL {α : Type} (xs : List α) (lo hi : Option Int) : List α := (xs.drop (HT.sIx xs.length 0 lo)).take (HT.sIx xs.length xs.length hi - HT.sIx xs.length 0 lo)
theorem VRs.cut {H : Hp} {m : List Addr} {us : List V} {vs : List Val} (r : VRs K H m us vs) (lo hi : Option Int) : VRs K H m (cutV us lo hi) (cutL vs lo hi) := by
  unfold cutV cutL
  rw [r.len]
  exact (r.drop _).take _
open Classical in
noncomputable def gSl : Val → Option Int → Option Int → Sto → Option (Val × Sto) := fun x lo hi S => match x with
  | .tup vs => if ¬ (HT.sIx vs.length 0 lo = 0 ∧ HT.sIx vs.length vs.length hi = vs.length) then some (.tup (cutL vs lo hi), S) else none
  | .ref n => match S[n]? with
    | some (.lst vs) => some (.ref S.length, S ++ [.lst (cutL vs lo hi)])
    | _ => none
  | .scr ns => some (.ref S.length, S ++ [.lst (cutL (ns.map Val.int) lo hi)])
  | _ => none
theorem vrs_ints {H : Hp} {m : List Addr} : ∀ ns : List Int, VRs K H m (ns.map V.int) (ns.map Val.int)
  | [] => .nil
  | n :: ns => .cons (.int n) (vrs_ints ns)
theorem vrs_strs {H : Hp} {m : List Addr} : ∀ ns : List Str, VRs K H m (ns.map V.str) (ns.map Val.str)
  | [] => .nil
  | n :: ns => .cons (.str n) (vrs_strs ns)
def rSlA (K : PySem.W.Frag) : V → Option Int → Option Int → Hp → VK → Prop := fun x lo hi H Q => rSlT K x lo hi H Q ∨ rSlL K x lo hi H Q
theorem sl_A : SlR X (rSlA X.K) := sl_tup.or sl_list
theorem oSl : SlA K (rSlA K) gSl := by
  intro m S H x lo hi v S' u Q R ru e q
  unfold gSl at e
  split at e
  · split at e
    · next hn =>
      cases e
      cases ru with
      | tup ha ra =>
        refine .inl ⟨_, _, rfl, ha.sq, by rw [ra.len]; exact hn, newTup R (ra.cut lo hi) q⟩
    · cases e
  · split at e
    · next vs en =>
      cases e
      cases ru with
      | ref ha =>
        obtain ⟨xs, hx, rx⟩ := R.ob _ _ _ en ha
        exact .inr ⟨_, _, rfl, SqL.of hx, newList R (rx.cut lo hi) q⟩
    · cases e
  · cases e
    cases ru with
    | scr ha => exact .inr ⟨_, _, rfl, ha.sq, newList R ((vrs_ints _).cut lo hi) q⟩
  · cases e
def gLen : List Val → Sto → Option (Val × Sto) := fun xs S => match xs with
  | [.tup vs] => some (.int vs.length, S)
  | [.ref n] => match S[n]? with
    | some (.lst vs) => some (.int vs.length, S)
    | some (.dic kvs) => some (.int kvs.length, S)
    | _ => none
  | [.str z] => if z.length ≤ sizeLine then some (.int z.length, S) else none
  | _ => none
def rLenA (K : PySem.W.Frag) : List V → Hp → VK → Prop := fun xs H Q => (∃ p ys, xs = [.ref p] ∧ (SqL K H p ys ∨ SqT K H p ys) ∧ Q (.int ys.length) H) ∨ ((∃ z, xs = [.str z] ∧ z.length ≤ sizeLine ∧ Q (.int z.length) H) ∨ (∃ d kvs, xs = [.ref d] ∧ H d = some (.dK kvs) ∧ Q (.int (kvs.length : Nat)) H))
theorem VRs.one_of {H : Hp} {m : List Addr} {us : List V} {v : Val} (r : VRs K H m us [v]) : ∃ u, us = [u] ∧ VR K H m u v := by
  cases r with
  | cons a b =>
    cases b
    exact ⟨_, rfl, a⟩
theorem cLen : CaA K (rLenA K) gLen := by
  intro m S H xs v S' us Q R ru e q
  unfold gLen at e
  split at e
  · cases e
    obtain ⟨u, rfl, r1⟩ := ru.one_of
    cases r1 with
    | tup ha ra => exact .inl ⟨_, _, rfl, .inr ha.sq, by rw [ra.len]; exact q m _ H (.refl _ _) R (.int _)⟩
  · split at e
    · next vs en =>
      cases e
      obtain ⟨u, rfl, r1⟩ := ru.one_of
      cases r1 with
      | ref ha =>
        obtain ⟨xs, hx, rx⟩ := R.ob _ _ _ en ha
        exact .inl ⟨_, _, rfl, .inl (SqL.of hx), by rw [rx.len]; exact q m _ H (.refl _ _) R (.int _)⟩
    · next kvs en =>
      cases e
      obtain ⟨u, rfl, r1⟩ := ru.one_of
      cases r1 with
      | ref ha =>
        obtain ⟨xs, hx, he, rx⟩ := R.ob _ _ _ en ha
        have l : xs.length = kvs.length := by simpa using congrArg List.length he
        exact .inr (.inr ⟨_, _, rfl, hx, by rw [l]; exact q m _ H (.refl _ _) R (.int _)⟩)
    · cases e
  · split at e
    · next hl =>
      cases e
      obtain ⟨u, rfl, r1⟩ := ru.one_of
      cases r1
      exact .inr (.inl ⟨_, rfl, hl, q m _ H (.refl _ _) R (.int _)⟩)
    · cases e
  · cases e
theorem call_lenA : CallR X (.builtin "len") (rLenA X.K) := CallR.or call_len_seq (CallR.or call_len_str call_lenD)
def gAbs : List Val → Sto → Option (Val × Sto) := fun xs S => match xs with
  | [.int i] => some (.int (if i < 0 then -i else i), S)
  | _ => none
def gTuple : List Val → Sto → Option (Val × Sto) := fun xs S => match xs with
  | [.tup vs] => some (.tup vs, S)
  | [.ref n] => match S[n]? with
    | some (.lst vs) => some (.tup vs, S)
    | _ => none
  | _ => none
theorem cTuple : CaA K (fun xs H Q => ∃ p ys, xs = [.ref p] ∧ ((SqL K H p ys ∧ ∀ l, H l = none → Q (.ref l) (upd H l (.tup ys))) ∨ (SqT K H p ys ∧ Q (.ref p) H))) gTuple := by
  intro m S H xs v S' us Q R ru e q
  unfold gTuple at e
  split at e
  · cases e
    obtain ⟨u, rfl, r1⟩ := ru.one_of
    cases r1 with
    | tup ha ra => exact ⟨_, _, rfl, .inr ⟨ha.sq, q m _ H (.refl _ _) R (.tup ha ra)⟩⟩
  · split at e
    · next vs en =>
      cases e
      obtain ⟨u, rfl, r1⟩ := ru.one_of
      cases r1 with
      | ref ha =>
        obtain ⟨xs, hx, rx⟩ := R.ob _ _ _ en ha
        exact ⟨_, _, rfl, .inl ⟨SqL.of hx, newTup R rx q⟩⟩
    · cases e
  · cases e
def gList : List Val → Sto → Option (Val × Sto) := fun xs S => match xs with
  | [.tup vs] => some (.ref S.length, S ++ [.lst vs])
  | [.ref n] => match S[n]? with
    | some (.lst vs) => some (.ref S.length, S ++ [.lst vs])
    | _ => none
  | _ => none
theorem cList : CaA K (fun xs H Q => ∃ p ys, xs = [.ref p] ∧ (SqL K H p ys ∨ SqT K H p ys) ∧ ∀ l, H l = none → Q (.ref l) (upd H l (.lst ys))) gList := by
  intro m S H xs v S' us Q R ru e q
  unfold gList at e
  split at e
  · cases e
    obtain ⟨u, rfl, r1⟩ := ru.one_of
    cases r1 with
    | tup ha ra => exact ⟨_, _, rfl, .inr ha.sq, newList R ra q⟩
  · split at e
    · next vs en =>
      cases e
      obtain ⟨u, rfl, r1⟩ := ru.one_of
      cases r1 with
      | ref ha =>
        obtain ⟨xs, hx, rx⟩ := R.ob _ _ _ en ha
        exact ⟨_, _, rfl, .inl (SqL.of hx), newList R rx q⟩
    · cases e
  · cases e
def isL : Val → Sto → Bool := fun v S => match v with
  | .ref n => match S[n]? with
    | some (.lst _) => true
    | _ => false
  | _ => false
theorem tyL : TyA K "list" isL := by
  intro m S H u v R r h
  unfold isL at h
  split at h
  · split at h
    · next n _ vs en =>
      cases r with
      | ref ha =>
        obtain ⟨xs, hx, rx⟩ := R.ob _ _ _ en ha
        exact .inl ⟨rfl, xs, SqL.of hx⟩
    · cases h
  · cases h
def gApp : Val → List Val → Sto → Option (Val × Sto) := fun x xs S => match x, xs with
  | .ref n, [v] => match S[n]? with
    | some (.lst vs) => if vs.length < sizeLine then some (.non, S.set n (.lst (vs ++ [v]))) else none
    | _ => none
  | _, _ => none
theorem mApp : MtA K rAppend gApp := by
  intro m S H x xs v S' u us Q R ru rus e q
  unfold gApp at e
  split at e
  · split at e
    · next n v0 _ vs en =>
      split at e
      · next hl =>
        cases e
        cases ru with
        | ref ha =>
          obtain ⟨y, rfl, r1⟩ := rus.one_of
          obtain ⟨xs, hx, rx⟩ := R.ob _ _ _ en ha
          refine ⟨_, xs, y, rfl, rfl, hx, by rw [rx.len]; exact hl, ?_⟩
          have hm := List.mem_of_getElem? ha
          have k : Kp m H m (upd H _ (.lst (xs ++ [y]))) := R.kput hm
          obtain ⟨R2, E2⟩ := R.put (o := .lst (xs ++ [y])) (b := .lst (vs ++ [v0])) ha ⟨_, upd_same, (rx.kp k).app (r1.kp k).one⟩
          exact q m _ _ E2 R2 .non
      · cases e
    · cases e
  · cases e
def gPop : Val → List Val → Sto → Option (Val × Sto) := fun x xs S => match x, xs with
  | .ref n, [.int i] => match S[n]? with
    | some (.lst vs) => if -(2 ^ 63) ≤ i ∧ i < 2 ^ 63 then match seqIndex? i vs.length with
      | some k => match vs[k]? with
        | some y => some (y, S.set n (.lst (vs.eraseIdx k)))
        | none => none
      | none => none
      else none
    | _ => none
  | _, _ => none
theorem VRs.erase {H : Hp} {m : List Addr} : ∀ {us : List V} {vs : List Val} (n : Nat), VRs K H m us vs → VRs K H m (us.eraseIdx n) (vs.eraseIdx n)
  | _, _, _, .nil => .nil
  | _, _, 0, .cons a q => q
  | _, _, n + 1, .cons a q => .cons a (q.erase n)
theorem mPop : MtA K rPopAt gPop := by
  intro m S H x xs v S' u us Q R ru rus e q
  unfold gPop at e
  split at e
  · split at e
    · next n i _ vs en =>
      split at e
      · next hb =>
        split at e
        · next k ek =>
          split at e
          · next y ey =>
            cases e
            cases ru with
            | ref ha =>
              obtain ⟨z, rfl, r1⟩ := rus.one_of
              cases r1
              obtain ⟨xs, hx, rx⟩ := R.ob _ _ _ en ha
              obtain ⟨w, hw, rw_⟩ := rx.get ey
              refine ⟨_, xs, i, k, w, rfl, rfl, hx, hb.1, hb.2, by rw [rx.len]; exact ek, hw, ?_⟩
              have hm := List.mem_of_getElem? ha
              have kk : Kp m H m (upd H _ (.lst (xs.eraseIdx k))) := R.kput hm
              obtain ⟨R2, E2⟩ := R.put (o := .lst (xs.eraseIdx k)) (b := .lst (vs.eraseIdx k)) ha ⟨_, upd_same, (rx.kp kk).erase k⟩
              exact q m _ _ E2 R2 (rw_.kp kk)
          · cases e
        · cases e
      · cases e
    · cases e
  · cases e
def gSet : Val → Val → Val → Sto → Option Sto := fun o i v S => match o, i with
  | .ref n, .int k => match S[n]? with
    | some (.lst vs) => match ixN vs.length k with
      | some j => some (S.set n (.lst (vs.set j v)))
      | none => none
    | _ => none
  | _, _ => none
theorem stL : SetA K rSetL gSet := by
  intro m S H o i v S' uo ui u Q R ro ri rv e q
  unfold gSet at e
  split at e
  · split at e
    · next n k _ vs en =>
      split at e
      · next j ej =>
        cases e
        cases ri
        cases ro with
        | ref ha =>
          obtain ⟨xs, hx, rx⟩ := R.ob _ _ _ en ha
          have hm := List.mem_of_getElem? ha
          have kk : Kp m H m (upd H _ (.lst (xs.set j u))) := R.kput hm
          obtain ⟨R2, E2⟩ := R.put (o := .lst (xs.set j u)) (b := .lst (vs.set j v)) ha ⟨_, upd_same, (rx.kp kk).set (rv.kp kk) j⟩
          exact ⟨_, xs, k, j, rfl, rfl, hx, by rw [rx.len]; exact ej, q _ E2 R2⟩
      · cases e
    · cases e
  · cases e
def isNon : Val → Bool
  | .non => true
  | _ => false
def gIs : Val → Val → Sto → Option (Val × Sto) := fun x y S => match y with
  | .non => some (.bl (isNon x), S)
  | _ => none
def gIsN : Val → Val → Sto → Option (Val × Sto) := fun x y S => match y with
  | .non => some (.bl (!isNon x), S)
  | _ => none
theorem VR.isNon {H : Hp} {m : List Addr} {u : V} {v : Val} (r : VR K H m u v) : decide (u = .non) = AL.isNon v := by
  cases r <;> rfl
theorem oIs : OpA K (fun x y H Q => y = .non ∧ Q (.bl (decide (x = .non))) H) gIs := by
  intro m S H x y v S' u w Q R ru rw_ e q
  cases y <;> simp only [gIs] at e <;> try cases e
  cases rw_
  exact ⟨rfl, by rw [ru.isNon]; exact q m _ H (.refl _ _) R (.bl _)⟩
end
end AL
namespace Th
open PySem PySem.Spec PyProof.Rows L2 G
def But (f : Addr) (H H' : Hp) : Prop := ∀ b o, b ≠ f → H b = some o → H' b = some o
theorem But.trans {f : Addr} {H H' H2 : Hp} (a : But f H H') (b : But f H' H2) : But f H H2 := fun x o n e => b x o n (a x o n e)
theorem But.of {f : Addr} {H H' : Hp} (a : Same H H') : But f H H' := fun x o _ e => a x o e
mutual
inductive Tr (f : Addr) (H : Hp) : V → PyData → Prop
  | non : Tr f H .non .none
  | bl (b : Bool) : Tr f H (.bl b) (.bool b)
  | int (i : Int) : Tr f H (.int i) (.int i)
  | str (x : Str) : Tr f H (.str x) (.str x)
  | lst {a : Addr} {xs : List V} {ds : List PyData} : a ≠ f → H a = some (.lst xs) → TrAll f H xs ds → Tr f H (.ref a) (.list ds)
  | tup {a : Addr} {xs : List V} {ds : List PyData} : a ≠ f → H a = some (.tup xs) → TrAll f H xs ds → Tr f H (.ref a) (.tuple ds)
inductive TrAll (f : Addr) (H : Hp) : List V → List PyData → Prop
  | nil : TrAll f H [] []
  | cons {v : V} {vs : List V} {d : PyData} {ds : List PyData} : Tr f H v d → TrAll f H vs ds → TrAll f H (v :: vs) (d :: ds)
end
section
variable {f : Addr} {H H' : Hp}
mutual
theorem Tr.keep (k : But f H H') : ∀ (d : PyData) (v : V), Tr f H v d → Tr f H' v d
  | .none, _, h => by cases h; exact .non
  | .bool b, _, h => by cases h; exact .bl _
  | .int i, _, h => by cases h; exact .int _
  | .str x, _, h => by cases h; exact .str _
  | .list ds, _, h => by
    cases h with
    | lst n e r => exact .lst n (k _ _ n e) (TrAll.keep k ds _ r)
  | .tuple ds, _, h => by
    cases h with
    | tup n e r => exact .tup n (k _ _ n e) (TrAll.keep k ds _ r)
  | .dict _, _, h => by cases h
theorem TrAll.keep (k : But f H H') : ∀ (ds : List PyData) (vs : List V), TrAll f H vs ds → TrAll f H' vs ds
  | [], _, h => by cases h; exact .nil
  | d :: ds, _, h => by
    cases h with
    | cons a r => exact .cons (Tr.keep k d _ a) (TrAll.keep k ds _ r)
end
theorem Tr.k {v : V} {d : PyData} (h : Tr f H v d) (k : But f H H') : Tr f H' v d := Tr.keep k d v h
theorem TrAll.k {vs : List V} {ds : List PyData} (h : TrAll f H vs ds) (k : But f H H') : TrAll f H' vs ds := TrAll.keep k ds vs h
mutual
theorem Tr.dpA (K : PySem.W.Frag) : ∀ (d : PyData) (v : V), Tr f H v d → Dp K H v d
  | .none, _, h => by cases h; exact .non
  | .bool b, _, h => by cases h; exact .bl _
  | .int i, _, h => by cases h; exact .int _
  | .str x, _, h => by cases h; exact .str _
  | .list ds, _, h => by
    cases h with
    | lst n e r => exact .lst (SqL.of e) (TrAll.dpA K ds _ r)
  | .tuple ds, _, h => by
    cases h with
    | tup n e r => exact .tup (SqT.of e) (TrAll.dpA K ds _ r)
  | .dict _, _, h => by cases h
theorem TrAll.dpA (K : PySem.W.Frag) : ∀ (ds : List PyData) (vs : List V), TrAll f H vs ds → DpAll K H vs ds
  | [], _, h => by cases h; exact .nil
  | d :: ds, _, h => by
    cases h with
    | cons a r => exact .cons (Tr.dpA K d _ a) (TrAll.dpA K ds _ r)
end
theorem Tr.dp {K : PySem.W.Frag} {v : V} {d : PyData} (h : Tr f H v d) : Dp K H v d := Tr.dpA K d v h
theorem TrAll.dp {K : PySem.W.Frag} {vs : List V} {ds : List PyData} (h : TrAll f H vs ds) : DpAll K H vs ds := TrAll.dpA K ds vs h
theorem TrAll.len : ∀ {vs : List V} {ds : List PyData}, TrAll f H vs ds → vs.length = ds.length
  | _, _, .nil => rfl
  | _, _, .cons _ r => by rw [List.length_cons, List.length_cons, r.len]
theorem TrAll.app : ∀ {vs us : List V} {ds es : List PyData}, TrAll f H vs ds → TrAll f H us es → TrAll f H (vs ++ us) (ds ++ es)
  | _, _, _, _, .nil, r => r
  | _, _, _, _, .cons a q, r => .cons a (q.app r)
theorem TrAll.get : ∀ {vs : List V} {ds : List PyData} {i : Nat} {v : V}, TrAll f H vs ds → vs[i]? = some v → ∃ d, ds[i]? = some d ∧ Tr f H v d
  | _, _, _, _, .nil, e => by simp at e
  | _, _, 0, _, .cons a q, e => by
    cases e
    exact ⟨_, rfl, a⟩
  | _, _, i + 1, _, .cons a q, e => q.get (i := i) e
theorem TrAll.drop : ∀ {vs : List V} {ds : List PyData} (n : Nat), TrAll f H vs ds → TrAll f H (vs.drop n) (ds.drop n)
  | _, _, 0, h => h
  | _, _, _ + 1, .nil => .nil
  | _, _, n + 1, .cons _ r => TrAll.drop n r
theorem TrAll.take : ∀ {vs : List V} {ds : List PyData} (n : Nat), TrAll f H vs ds → TrAll f H (vs.take n) (ds.take n)
  | _, _, 0, _ => .nil
  | _, _, _ + 1, .nil => .nil
  | _, _, n + 1, .cons a r => .cons a (TrAll.take n r)
theorem TrAll.set : ∀ {vs : List V} {ds : List PyData} {v : V} {d : PyData} (n : Nat), TrAll f H vs ds → Tr f H v d → TrAll f H (vs.set n v) (ds.set n d)
  | _, _, _, _, _, .nil, _ => .nil
  | _, _, _, _, 0, .cons _ r, h => .cons h r
  | _, _, _, _, n + 1, .cons a r, h => .cons a (TrAll.set n r h)
theorem Tr.one {v : V} {d : PyData} (h : Tr f H v d) : TrAll f H [v] [d] := .cons h .nil
/-- its type's name -/
def ty : PyData → String
  | .none => "NoneType"
  | .bool _ => "bool"
  | .int _ => "int"
  | .str _ => "str"
  | .list _ => "list"
  | .tuple _ => "tuple"
  | .dict _ => "dict"
end
mutual
def okD : PyData → Bool
  | .none => true
  | .bool _ => true
  | .int i => decide (i.natAbs < 2 ^ 900)
  | .str x => PyData.strOk x
  | .list xs => okAll xs
  | .tuple xs => okAll xs
  | .dict _ => false
def okAll : List PyData → Bool
  | [] => true
  | x :: xs => okD x && okAll xs
end
theorem okAll_iff : ∀ {ds : List PyData}, okAll ds = true ↔ ∀ d ∈ ds, okD d = true
  | [] => by simp [okAll]
  | d :: ds => by
    rw [show okAll (d :: ds) = (okD d && okAll ds) from rfl, Bool.and_eq_true, okAll_iff, List.forall_mem_cons]
mutual
theorem ok_show : ∀ d : PyData, okD d = true → d.showable = true ∧ d.hasDict = false ∧ d.canLay0 = true ∧ d.leavesShort 320 = true
  | .none, _ => ⟨rfl, rfl, rfl, rfl⟩
  | .bool _, _ => ⟨rfl, rfl, rfl, rfl⟩
  | .int i, h => by
    have h : i.natAbs < 2 ^ 900 := of_decide_eq_true h
    have l : i.natAbs.log2 < 900 := PySem.Flt.log2_lt_of (by decide) h
    refine ⟨decide_eq_true (by omega), rfl, rfl, ?_⟩
    have t := int_text_length_le10 (a := i) (k := 300) (by decide) (Nat.lt_trans h (by decide))
    show decide ((PyData.shown (.int i)).length ≤ 320) = true
    have e : (PyData.shown (.int i)).length = (toString i).length := by
      show (Str.ofString (toString i)).length = _
      exact PySem.ofString_length _
    rw [e]
    exact decide_eq_true (by omega)
  | .str x, h => by
    refine ⟨rfl, rfl, h, ?_⟩
    show (x.cps.toList.all fun c => decide (c < 16 ^ 8)) = true
    have h2 : x.cps.all (· < 0x110000) = true := h
    rw [List.all_eq_true]
    intro c hc
    have h3 := (Array.all_eq_true_iff_forall_mem.mp h2) c (by simpa using hc)
    have h4 : c < 0x110000 := of_decide_eq_true h3
    exact decide_eq_true (by omega)
  | .list xs, h => ok_showAll xs h
  | .tuple xs, h => ok_showAll xs h
  | .dict _, h => by cases (h : false = true)
theorem ok_showAll : ∀ ds : List PyData, okAll ds = true → PyData.showableAll ds = true ∧ PyData.hasDictAll ds = false ∧ PyData.canLayAll0 ds = true ∧ PyData.leavesShortAll 320 ds = true
  | [], _ => ⟨rfl, rfl, rfl, rfl⟩
  | d :: ds, h => by
    have h : (okD d && okAll ds) = true := h
    rw [Bool.and_eq_true] at h
    obtain ⟨a1, a2, a3, a4⟩ := ok_show d h.1
    obtain ⟨b1, b2, b3, b4⟩ := ok_showAll ds h.2
    refine ⟨?_, ?_, ?_, ?_⟩
    · show (PyData.showable d && PyData.showableAll ds) = true
      rw [a1, b1]; rfl
    · show (PyData.hasDict d || PyData.hasDictAll ds) = false
      rw [a2, b2]; rfl
    · show (PyData.canLay0 d && PyData.canLayAll0 ds) = true
      rw [a3, b3]; rfl
    · show (PyData.leavesShort 320 d && PyData.leavesShortAll 320 ds) = true
      rw [a4, b4]; rfl
end
/-- fine to be shown: of w weight and n depth at most -/
structure Fine (w n : Nat) (d : PyData) : Prop where
  ok : okD d = true
  wt : d.weight ≤ w
  dp : d.depth ≤ n
theorem Fine.mono {w n w' n' : Nat} {d : PyData} (h : Fine w n d) (h1 : w ≤ w') (h2 : n ≤ n') : Fine w' n' d := ⟨h.ok, Nat.le_trans h.wt h1, Nat.le_trans h.dp h2⟩
theorem Fine.shown {w n : Nat} {d : PyData} (h : Fine w n d) (hw : w ≤ 40000) : d.shown.length ≤ sizeLine := by
  have z := PyData.shown_le 320 (by decide) d (ok_show d h.ok).2.2.2
  have e : sizeLine = 16777216 := rfl
  have := h.wt
  omega
theorem Fine.shaped {w n : Nat} {d : PyData} (h : Fine w n d) (hn : n ≤ 64) : SeqAt.shaped d = true := by
  show (d.canLay0 && decide (d.depth ≤ 64)) = true
  rw [Bool.and_eq_true]
  exact ⟨(ok_show d h.ok).2.2.1, decide_eq_true (Nat.le_trans h.dp hn)⟩
end Th
namespace ZT
open PySem PySem.Spec PyProof.Rows L2
abbrev J1 (h : Heap) (t : Addr) : Heap := h.push { cls := .type "tuple_iterator", data := .fields #[.ref t, .int 0 0] }
abbrev J2 (h : Heap) (t l : Addr) : Heap := (J1 h t).push { cls := .type "list_iterator", data := .fields #[.ref l, .int 0 0] }
abbrev J3 (h : Heap) (t l : Addr) : Heap := (J2 h t l).push { cls := .type "tuple", data := .seq #[.ref h.objs.size, .ref (J1 h t).objs.size] }
abbrev J4 (h : Heap) (t l : Addr) : Heap := (J3 h t l).push { cls := .type "tuple", data := .seq #[.none, .none] }
abbrev J5 (h : Heap) (t l : Addr) : Heap := (J4 h t l).push { cls := .type "zip", data := .fields #[.none, .bool false, .bool false, .ref (J2 h t l).objs.size, .ref (J3 h t l).objs.size] }
theorem new_zipTL (t l : Addr) (xs ys : Array Value) :
    Meets (Builtin.«zip.__new__» ⟨[.type "zip", .ref t, .ref l], []⟩) (fun _ R s => s.heap.IsTuple t xs ∧ s.heap.IsList l ys ∧
      R (.ok (.ret (.ref (J4 s.heap t l).objs.size))) { s with heap := J5 s.heap t l }) :=
  .of_wp fun prog w A R s h => by
    obtain ⟨hp, g, d, tk, os⟩ := s
    obtain ⟨h1, h2, h⟩ := h
    have hsub := sub_zip
    have a1 : Heap.IsTuple (Shared.heap ⟨hp, g, d, tk, os⟩) t xs := h1
    have a2 : Heap.IsList (Shared.heap ⟨J1 hp t, g, d, tk, os⟩) l ys := Heap.IsList.push h2 _
    wp_walk using wpAny_pyIter_tuple a1, wpAny_pyIter_list a2
    exact ⟨_, rfl, h⟩
section
variable {prog : Program} {w : World} {A : Around} {E : Value → Shared → Prop} {s : Shared}
theorem call_zipTL {t l : Addr} {xs ys : Array Value} {Q : Value → Shared → Prop} (h1 : s.heap.IsTuple t xs) (h2 : s.heap.IsList l ys)
    (h : ∀ h', IsZip h' (s.heap.objs.size + 4) (s.heap.objs.size + 2) (s.heap.objs.size + 3) .none → IsTupOf2 h' (s.heap.objs.size + 2) (.ref s.heap.objs.size) (.ref (s.heap.objs.size + 1)) →
      IsTupOf2 h' (s.heap.objs.size + 3) .none .none → h'.IsTupleIter s.heap.objs.size t 0 → h'.IsListIter (s.heap.objs.size + 1) l 0 →
      (∀ c o, s.heap.get? c = some o → h'.get? c = some o) → Q (.ref (s.heap.objs.size + 4)) { s with heap := h' }) :
    wpAny (model prog w) A (call (.type "zip") [.ref t, .ref l]) Q E s := by
  refine callType_new F.called_zip (by decide) (F.typeCall_zip_2 _ _) (F.newCall_zip_2 _ _) (fun obj => F.args_object_init_3 obj _ _) F.entry_zip_new (new_zipTL t l xs ys) ⟨h1, h2, ?_⟩
  have z1 : (J1 s.heap t).objs.size = s.heap.objs.size + 1 := Heap.size_push ..
  have z2 : (J2 s.heap t l).objs.size = s.heap.objs.size + 2 := by rw [Heap.size_push, z1]
  have z3 : (J3 s.heap t l).objs.size = s.heap.objs.size + 3 := by rw [Heap.size_push, z2]
  have z4 : (J4 s.heap t l).objs.size = s.heap.objs.size + 4 := by rw [Heap.size_push, z3]
  have up : ∀ {k : Heap} {c : Addr} {o p : Obj}, k.get? c = some o → (k.push p).get? c = some o := fun e => Heap.get?_push_of_some _ e
  have g5 : (J5 s.heap t l).get? (J4 s.heap t l).objs.size = some _ := Heap.get?_push_size _ rfl
  have g4 : (J5 s.heap t l).get? (J3 s.heap t l).objs.size = some _ := up (Heap.get?_push_size _ rfl)
  have g3 : (J5 s.heap t l).get? (J2 s.heap t l).objs.size = some _ := up (up (Heap.get?_push_size _ rfl))
  have g2 : (J5 s.heap t l).get? (J1 s.heap t).objs.size = some _ := up (up (up (Heap.get?_push_size _ rfl)))
  have g1 : (J5 s.heap t l).get? s.heap.objs.size = some _ := up (up (up (up (Heap.get?_push_size _ rfl))))
  show _ ∧ _
  rw [z2, z3, z4] at g5
  rw [z1, z2] at g3
  rw [z3] at g4
  rw [z1] at g2
  rw [z4]
  exact ⟨⟨_, g5, rfl⟩, h _ g5 g3 g4 ⟨_, g1, rfl, rfl⟩ ⟨_, g2, rfl, rfl⟩ fun c o x => up (up (up (up (up x))))⟩
end
/-- the tuple at a, the list at b as they stand at each turn, the items in new pairs -/
def ItzTL (K : PySem.W.Frag) (a b : Addr) : It where
  go := fun i H => ∃ (xs ys : List V) (x y : V), SqT K H a xs ∧ SqL K H b ys ∧ xs[i]? = some x ∧ ys[i]? = some y
  yld := fun i H v H' => ∃ T x y, v = .ref T ∧ H T = none ∧ H' = upd H T (.tup [x, y]) ∧ (∀ xs, SqT K H a xs → xs[i]? = some x) ∧ ∀ ys, SqL K H b ys → ys[i]? = some y
  stop := fun i H => ∃ xs ys : List V, SqT K H a xs ∧ SqL K H b ys ∧ xs.length = i ∧ ys.length = i
structure Ap (z TI TO i1 i2 a b : Addr) : Prop where
  sep : ZipSep2 z TI TO i1 i2 [i1, a] [i2, b]
  a1 : a ≠ i1
  b2 : b ≠ i2
theorem turn_zipTL {P : Program} {w : World} {K : PySem.W.Frag} {elts : List Expr} {kk : Nat} {tpos : Pos} {a b z TI TO i1 i2 : Addr} (D : Ap z TI TO i1 i2 a b) :
    Turn P w K (.Tuple elts kk tpos) (ItzTL K a b) [z, TI, TO, i1, i2] z (fun i h => IsZip h z TI TO .none ∧ IsTupOf2 h TI (.ref i1) (.ref i2) ∧ (∃ x y, IsTupOf2 h TO x y) ∧ h.IsTupleIter i1 a i ∧ h.IsListIter i2 b i) where
  mem := by simp
  obj := by
    rintro i h ⟨hz, hTI, ⟨x, y, hTO⟩, ⟨o1, e1, _, d1⟩, ⟨o2, e2, _, d2⟩⟩ c hc
    simp only [List.mem_cons, List.not_mem_nil, or_false] at hc
    rcases hc with rfl | rfl | rfl | rfl | rfl
    · exact ⟨_, hz, fun v q => nomatch q⟩
    · exact ⟨_, hTI, fun v q => nomatch q⟩
    · exact ⟨_, hTO, fun v q => nomatch q⟩
    · exact ⟨o1, e1, fun v q => by rw [d1] at q; cases q⟩
    · exact ⟨o2, e2, fun v q => by rw [d2] at q; cases q⟩
  keep := by
    rintro i h h' ⟨hz, hTI, ⟨x, y, hTO⟩, h1, h2⟩ k
    exact ⟨k z (by simp) _ hz, k TI (by simp) _ hTI, ⟨x, y, k TO (by simp) _ hTO⟩, h1.at fun o q => k i1 (by simp) o q, h2.at fun o q => k i2 (by simp) o q⟩
  item := by
    intro X hP hw hK hc i pins s σ H E I hf st hg
    subst hP hw hK
    obtain ⟨hz, hTI, ⟨x0, y0, hTO⟩, h1, h2⟩ := st
    obtain ⟨xs, ys, x, y, hqx, hqy, hx, hy⟩ := hg
    obtain ⟨its, rv, p, _⟩ := I.tuple hqx
    obtain ⟨its2, rv2, p2, _⟩ := I.list hqy
    obtain ⟨u, hu, ru⟩ := rv.get hx
    obtain ⟨u2, hu2, ru2⟩ := rv2.get hy
    have lz : z < s.heap.objs.size := Heap.lt_size hz
    have n1 : i < its.toArray.size := by simpa using (List.getElem?_eq_some_iff.mp hu).1
    have n2 : i < its2.toArray.size := by simpa using (List.getElem?_eq_some_iff.mp hu2).1
    refine wpAny_pyNext_zipD2_item D.sep (Draws.tuple (A := X.A.in1) (I.ok.hd hc) i1 a D.a1 its.toArray) (Draws.list (A := X.A.in1) (I.ok.hd hc) i2 b D.b2 its2.toArray) hz hTI hTO ⟨h1, p⟩ ⟨h2, p2.isList⟩ n1 n2 fun v1 v2 h' tk q1 q2 z' TO' s1 s2 hT hsz hk => ?_
    have e1 : v1 = u := by
      have a1 : its.toArray[i]? = some v1 := q1
      have a2 : its.toArray[i]? = some u := by simpa using hu
      rw [a2] at a1
      exact (Option.some.inj a1).symm
    have e2 : v2 = u2 := by
      have a1 : its2.toArray[i]? = some v2 := q2
      have a2 : its2.toArray[i]? = some u2 := by simpa using hu2
      rw [a2] at a1
      exact (Option.some.inj a1).symm
    subst e1 e2
    refine ⟨_, rfl, wpAny_letOwnedTupleGo_zip (s := { s with heap := h', toks := tk }) z' fun h'' z'' sb => ?_⟩
    have nw : h''.get? s.heap.objs.size = some { cls := .type "tuple", data := .seq #[v1, v2] } := (sb.2 _ (Nat.ne_of_gt lz)).trans hT
    have I1 : Inv X pins σ (upd H s.heap.objs.size (.tup [x, y])) { s with heap := h'', toks := tk } := by
      refine I.turnedNew (t' := tk) (ch := [z, TI, TO, i1, i2]) (fun c o hb q => ?_) hf (Nat.le_refl _) ⟨by show 2 ≤ sizeLine; decide, [v1, v2], .cons ru (.cons ru2 .nil), ⟨_, nw, rfl, _, rfl⟩⟩
      have c1 : c ≠ z := fun z => hb (by simp [z])
      have c2 : c ≠ TO := fun z => hb (by simp [z])
      have c3 : c ≠ i1 := fun z => hb (by simp [z])
      have c4 : c ≠ i2 := fun z => hb (by simp [z])
      exact (sb.2 c c1).trans (hk c o c1 c2 c3 c4 q)
    refine ⟨.ref s.heap.objs.size, _, I1, rfl, ⟨_, x, y, rfl, I.hok.fresh (Nat.le_refl _), rfl, fun l hl => by rw [I.tuple_inj hl hqx]; exact hx, fun l hl => by rw [I.list_inj hl hqy]; exact hy⟩, ⟨z'', ?_, ⟨v1, v2, ?_⟩, ?_, ?_⟩, fun c hcm => ?_⟩
    · exact (sb.2 _ D.sep.TIz).trans (hk _ _ D.sep.TIz D.sep.TITO D.sep.TIi1 D.sep.TIi2 hTI)
    · exact (sb.2 _ D.sep.TOz).trans TO'
    · exact s1.1.at fun o q => (sb.2 _ D.sep.zi1.symm).trans q
    · exact s2.1.at fun o q => (sb.2 _ D.sep.zi2.symm).trans q
    · have lc : c < s.heap.objs.size := by
        simp only [List.mem_cons, List.not_mem_nil, or_false] at hcm
        rcases hcm with rfl | rfl | rfl | rfl | rfl
        · exact lz
        · exact Heap.lt_size hTI
        · exact Heap.lt_size hTO
        · obtain ⟨_, e1, _⟩ := h1
          exact Heap.lt_size e1
        · obtain ⟨_, e2, _⟩ := h2
          exact Heap.lt_size e2
      rw [upd_ne (Nat.ne_of_lt lc)]
      exact (hf c hcm).1
  done := by
    intro X hP hw hK hc i pins s σ H E I hf st hg
    subst hP hw hK
    obtain ⟨hz, hTI, ⟨x0, y0, hTO⟩, h1, h2⟩ := st
    obtain ⟨xs, ys, hqx, hqy, l1, l2⟩ := hg
    obtain ⟨its, rv, p, _⟩ := I.tuple hqx
    obtain ⟨its2, rv2, p2, _⟩ := I.list hqy
    have n1 : i = its.toArray.size := by rw [← l1, rv.length]; simp
    have n2 : i = its2.toArray.size := by rw [← l2, rv2.length]; simp
    refine wpAny_pyNext_zipD2_end D.sep (Draws.tuple (A := X.A.in1) (I.ok.hd hc) i1 a D.a1 its.toArray) (Draws.list (A := X.A.in1) (I.ok.hd hc) i2 b D.b2 its2.toArray) hz hTI hTO ⟨h1, p⟩ ⟨h2, p2.isList⟩ (Nat.le_of_eq n1) (Nat.le_of_eq n2) (.inl n1) fun h' tk hk => ⟨rfl, ?_⟩
    refine I.turnedL (t' := tk) (ch := [z, TI, TO, i1, i2]) (fun c o hb q => ?_) hf
    exact hk c o (fun q' => hb (by simp [q'])) (fun q' => hb (by simp [q'])) (fun q' => hb (by simp [q'])) (fun q' => hb (by simp [q'])) q
  self := fun A i s Q E st h => wpAny_pyIter_zip st.1 h
theorem notin {x a b : Addr} (h1 : x ≠ a) (h2 : x ≠ b) : x ∉ [a, b] := fun z => by
  simp only [List.mem_cons, List.not_mem_nil, or_false] at z
  exact z.elim h1 h2
def iZipTL (K : PySem.W.Frag) (ta : TA) : TI := fun σ H R => ta σ H fun vs H1 => ∃ a b xs ys, vs = [.ref a, .ref b] ∧ SqT K H1 a xs ∧ SqL K H1 b ys ∧ R (ItzTL K a b) H1
theorem pi_zipTL {X : Cx} {e e2 : Expr} {ta : TA} {p pos tpos : Pos} {elts : List Expr} {kk : Nat} (hg : Gl X "zip") (hm : X.mg "zip" = none) (ha : PA X [e, e2] ta)
    (hs : starEach [e, e2] X.env = (false, eval e X.env) :: starEach [e2] X.env := by rfl) (hpl : (backTo pos (starEach [e2] X.env)).any (·.1) = false := by rfl) :
    PI X (.Tuple elts kk tpos) (.Call (.Name "zip" p) [e, e2] [] pos) (iZipTL X.K ta) := by
  constructor
  intro pins s σ H R I h
  refine Call_ (ld_blt I hg hm PyProof.Rows.boot_zip (PyProof.Rows.callWith_type1 (thn (ha.run pos pins s σ H _ I h) ?_) hs hpl))
  rintro us s1 ⟨vs, H1, I1, r1, a, b, xs, ys, rfl, hqx, hqy, q⟩
  obtain ⟨u, v, rfl, ru, rv'⟩ := vals2 r1
  cases ru
  cases rv'
  obtain ⟨its, rv, p1, _⟩ := I1.tuple hqx
  obtain ⟨its2, rv2, p2, _⟩ := I1.list hqy
  have la : a < s1.heap.objs.size := by
    obtain ⟨o, ho, _⟩ := p1
    exact Heap.lt_size ho
  have lb : b < s1.heap.objs.size := by
    obtain ⟨o, n, ho, _⟩ := p2
    exact Heap.lt_size ho
  generalize hN : s1.heap.objs.size = N at la lb
  refine call_zipTL p1 p2.isList fun h' hz hTI hTO h1 h2 hk => wpAny_pyIter_zip hz ?_
  rw [hN] at hz hTI hTO h1 h2 ⊢
  have D : Ap (N + 4) (N + 2) (N + 3) N (N + 1) a b := by
    have big : ∀ {c : Addr} (k : Nat), c < N → N + k ≠ c := fun k h => Nat.ne_of_gt (Nat.lt_of_lt_of_le h (Nat.le_add_right _ _))
    have dif : ∀ {k m : Nat}, k ≠ m → N + k ≠ N + m := fun h z => h (Nat.add_left_cancel z)
    have dif0 : ∀ {k : Nat}, 0 < k → N + k ≠ N := fun h => Nat.ne_of_gt (Nat.lt_add_of_pos_right h)
    exact ⟨⟨dif (by decide), dif (by decide), dif (by decide), dif0 (by decide), by simp, notin (dif0 (by decide)) (big 4 la), notin (dif0 (by decide)) (big 3 la), dif (by decide), by simp, notin (dif (by decide)) (big 4 lb), notin (dif (by decide)) (big 3 lb),
      notin (dif0 (by decide)).symm (big 0 lb), notin (dif0 (by decide)) (big 1 la)⟩, Nat.ne_of_lt la, Nat.ne_of_lt (Nat.lt_succ_of_lt lb)⟩
  refine ⟨N + 4, [N + 4, N + 2, N + 3, N, N + 1], _, _, H1, rfl, I1.kept (t' := s1.toks) hk, turn_zipTL D, ⟨hz, hTI, ⟨_, _, hTO⟩, h1, h2⟩, fun c hc => ?_, q⟩
  have le : s1.heap.objs.size ≤ c := by
    rw [hN]
    simp only [List.mem_cons, List.not_mem_nil, or_false] at hc
    rcases hc with rfl | rfl | rfl | rfl | rfl
    · exact Nat.le_add_right _ _
    · exact Nat.le_add_right _ _
    · exact Nat.le_add_right _ _
    · exact Nat.le_refl _
    · exact Nat.le_add_right _ _
  exact I1.fpOk le (I1.hok.fresh le)
end ZT
namespace AL
open PySem PySem.Spec PyProof.Rows L2 G Th
variable [TT]
def mapO {α β : Type} (f : α → Option β) : List α → Option (List β)
  | [] => some []
  | a :: as => (f a).bind fun b => (mapO f as).bind fun bs => some (b :: bs)
def toD (S : Sto) : Nat → Val → Option PyData
  | 0, _ => none
  | n + 1, v => match v with
    | .non => some .none
    | .bl b => some (.bool b)
    | .int i => some (.int i)
    | .str x => some (.str x)
    | .tup vs => (mapO (toD S n) vs).map .tuple
    | .ref k => match S[k]? with
      | some (.lst vs) => (mapO (toD S n) vs).map .list
      | _ => none
    | .scr _ => none
    | .lam _ _ _ _ _ => none
    | .exc _ _ _ _ => none
section
variable {X : Cx} {K : PySem.W.Frag}
theorem toD_dp {m : List Addr} {S : Sto} {H : Hp} (R : Rel K m S H) : ∀ (n : Nat) (v : Val) (u : V) (d : PyData), VR K H m u v → toD S n v = some d → Dp K H u d
  | 0, _, _, _, _, h => by cases h
  | n + 1, v, u, d, r, h => by
    have go : ∀ (vs : List Val) (us : List V) (ds : List PyData), VRs K H m us vs → mapO (toD S n) vs = some ds → DpAll K H us ds := by
      intro vs
      induction vs with
      | nil =>
        intro us ds r h
        cases r
        cases h
        exact .nil
      | cons v vs ih =>
        intro us ds r h
        cases r with
        | cons a b =>
          obtain ⟨d1, h1, h⟩ := Option.bind_eq_some_iff.mp h
          obtain ⟨ds1, h2, h⟩ := Option.bind_eq_some_iff.mp h
          cases h
          exact .cons (toD_dp R n v _ d1 a h1) (ih _ _ b h2)
    unfold toD at h
    split at h
    · cases h; cases r; exact .non
    · cases h; cases r; exact .bl _
    · cases h; cases r; exact .int _
    · cases h; cases r; exact .str _
    · obtain ⟨ds, h1, h2⟩ := Option.map_eq_some_iff.mp h
      cases h2
      cases r with
      | tup ha ra => exact .tup ha.sq (go _ _ _ ra h1)
    · split at h
      · next k _ vs en =>
        obtain ⟨ds, h1, h2⟩ := Option.map_eq_some_iff.mp h
        cases h2
        cases r with
        | ref ha =>
          obtain ⟨xs, hx, rx⟩ := R.ob _ _ _ en ha
          exact .lst (SqL.of hx) (go _ _ _ rx h1)
      · cases h
    · cases h
    · cases h
    · cases h
open Classical in
noncomputable def gRepr : List Val → Sto → Option (Val × Sto) := fun xs S => match xs with
  | [v] => match toD S 40 v with
    | some d => if okD d = true ∧ d.weight ≤ 40000 ∧ d.depth ≤ 40 then some (.str d.shown, S) else none
    | none => none
  | _ => none
def rReprA (K : PySem.W.Frag) : List V → Hp → VK → Prop := fun xs H Q => ∃ (v : V) (d : PyData) (w n : Nat), xs = [v] ∧ Dp K H v d ∧ Fine w n d ∧ w ≤ 40000 ∧ n ≤ 40 ∧ Q (.str d.shown) H
theorem call_reprA (hg : X.A.guards = some []) (hu : X.A.units + 64 < cLine) : CallR X (.builtin "repr") (rReprA X.K) := by
  intro pins s σ H xs us Q I r h
  obtain ⟨v, d, w, n, rfl, hT, hF, hw, hn, q⟩ := h
  obtain ⟨u, rfl, ru⟩ := r.one
  obtain ⟨o1, o2, o3, o4⟩ := ok_show d hF.ok
  have sz := hF.shown hw
  obtain ⟨as, rd⟩ := Dp.reads I d _ _ hT ru
  have e1 : ∀ a, u = .ref a → wpAny (model X.prog X.w) X.A (call (.builtin "repr") [u]) (EP X pins σ Q) X.xe s := by
    rintro a rfl
    refine repr_of_reads' rd o1 (fun z => ?_) hg (by have := hF.dp; omega) (fun b o e => e) (fun h' t tk hk => ?_) sz
    · rw [o2] at z
      cases z
    · exact ⟨.str d.shown, H, I.kept hk, ⟨t, rfl⟩, q⟩
  cases hT with
  | non => cases ru; exact PySem.P.repr_of_none ⟨.str _, H, I.tok _, ⟨_, rfl⟩, q⟩
  | bl b => cases ru; exact PySem.P.repr_of_bool ⟨.str _, H, I.tok _, ⟨_, rfl⟩, q⟩
  | int i =>
    obtain ⟨t, rfl⟩ := ru
    exact PySem.P.repr_of_int (of_decide_eq_true o1) ⟨.str _, H, I.tok _, ⟨_, rfl⟩, q⟩
  | str x =>
    obtain ⟨t, rfl⟩ := ru
    exact PySem.P.repr_of_str ⟨.str _, H, I.tok _, ⟨_, rfl⟩, q⟩ sz
  | lst _ _ => cases ru; exact e1 _ rfl
  | tup _ _ => cases ru; exact e1 _ rfl
theorem cRepr : CaA K (rReprA K) gRepr := by
  intro m S H xs v S' us Q R ru e q
  unfold gRepr at e
  split at e
  · split at e
    · next v0 d ed =>
      split at e
      · next hok =>
        cases e
        obtain ⟨u, rfl, r1⟩ := ru.one_of
        exact ⟨u, d, d.weight, d.depth, rfl, toD_dp R 40 _ u d r1 ed, ⟨hok.1, Nat.le_refl _, Nat.le_refl _⟩, hok.2.1, hok.2.2, q m _ H (.refl _ _) R (.str _)⟩
      · cases e
    · cases e
  · cases e
def eqS : Val → Val → Option Bool
  | .int a, .int b => some (decide (a = b))
  | .str a, .str b => some (decide (a = b))
  | .bl a, .bl b => some (decide (a = b))
  | .non, .non => some true
  | .non, .int _ => some false
  | .int _, .non => some false
  | .non, .str _ => some false
  | .str _, .non => some false
  | .non, .bl _ => some false
  | .bl _, .non => some false
  | .int _, .str _ => some false
  | .str _, .int _ => some false
  | .str _, .bl _ => some false
  | .bl _, .str _ => some false
  | _, _ => none
def eqA (S : Sto) (x y : Val) : Option Bool := match eqS x y with
  | some b => some b
  | none => match toD S 40 x, toD S 40 y with
    | some d, some e => if SeqAt.shaped d = true ∧ SeqAt.shaped e = true then some (PyData.eqv d e) else none
    | _, _ => none
def gEq : Val → Val → Sto → Option (Val × Sto) := fun x y S => (eqA S x y).map fun b => (.bl b, S)
def gNe : Val → Val → Sto → Option (Val × Sto) := fun x y S => (eqA S x y).map fun b => (.bl (!b), S)
theorem eqS_ok {H : Hp} {m : List Addr} {x y : Val} {u w : V} {b : Bool} (ru : VR K H m u x) (rw_ : VR K H m w y) (h : eqS x y = some b) : scal u w = true ∧ decide (u = w) = b := by
  unfold eqS at h
  split at h <;> first | cases h | skip
  all_goals first
    | (cases ru; cases rw_; refine ⟨rfl, ?_⟩; simp)
    | skip
def rEqA (K : PySem.W.Frag) : R2 := fun x y H Q => rEq x y H Q ∨ rEqD K x y H Q
def rNeA (K : PySem.W.Frag) : R2 := fun x y H Q => rNe x y H Q ∨ rNeD K x y H Q
theorem op_eqA (hu : X.A.units + 64 < cLine) : OpR X (compareOp .Eq) (rEqA X.K) := op_eq.or (op_eqD hu)
theorem op_neA (hu : X.A.units + 64 < cLine) : OpR X (compareOp .NotEq) (rNeA X.K) := op_ne.or (op_neD hu)
theorem oEq : OpA K (rEqA K) gEq := by
  intro m S H x y v S' u w Q R ru rw_ e q
  obtain ⟨b, e1, e2⟩ := Option.map_eq_some_iff.mp e
  cases e2
  unfold eqA at e1
  split at e1
  · next b' es =>
    cases e1
    obtain ⟨h1, h2⟩ := eqS_ok ru rw_ es
    exact .inl ⟨h1, by rw [h2]; exact q m _ H (.refl _ _) R (.bl _)⟩
  · split at e1
    · next d1 d2 g1 g2 =>
      split at e1
      · next hs =>
        cases e1
        exact .inr ⟨d1, d2, toD_dp R 40 _ _ _ ru g1, toD_dp R 40 _ _ _ rw_ g2, hs.1, hs.2, q m _ H (.refl _ _) R (.bl _)⟩
      · cases e1
    · cases e1
theorem oNe : OpA K (rNeA K) gNe := by
  intro m S H x y v S' u w Q R ru rw_ e q
  obtain ⟨b, e1, e2⟩ := Option.map_eq_some_iff.mp e
  cases e2
  unfold eqA at e1
  split at e1
  · next b' es =>
    cases e1
    obtain ⟨h1, h2⟩ := eqS_ok ru rw_ es
    exact .inl ⟨h1, by rw [h2]; exact q m _ H (.refl _ _) R (.bl _)⟩
  · split at e1
    · next d1 d2 g1 g2 =>
      split at e1
      · next hs =>
        cases e1
        exact .inr ⟨d1, d2, toD_dp R 40 _ _ _ ru g1, toD_dp R 40 _ _ _ rw_ g2, hs.1, hs.2, q m _ H (.refl _ _) R (.bl _)⟩
      · cases e1
    · cases e1
def iSeq (f : EF) : IF := fun ρ S => (f ρ S).bind fun p => match p.1 with
  | .tup vs => some (vs, fun _ => True, p.2)
  | .ref n => match p.2[n]? with
    | some (.lst vs) => some (vs, fun S => S[n]? = some (.lst vs), p.2)
    | _ => none
  | _ => none
theorem it_tup {a : Addr} {m0 : List Addr} {H0 : Hp} {xs : List V} {vs : List Val} {S0 : Sto} (R0 : Rel K m0 S0 H0) (ha : TupAt K H0 a xs) (r : VRs K H0 m0 xs vs) : ItA K (Itt K a) m0 H0 vs (fun _ => True) := by
  refine ⟨fun i m S H E R _ v hv => ?_, fun m S H E R _ => ?_⟩
  · have k := E.kp R0
    obtain ⟨u, hu, ru⟩ := (r.kp k).get hv
    refine ⟨⟨xs, u, (ha.kp k).sq, hu⟩, fun x H' hy => ?_⟩
    obtain ⟨rfl, hx⟩ := hy
    have e := hx xs (ha.kp k).sq
    rw [hu] at e
    cases e
    exact ⟨R, .refl _ _, ru⟩
  · exact ⟨xs, (ha.kp (E.kp R0)).sq, by rw [r.len]; exact Nat.le_refl _⟩
theorem it_lst {n : Nat} {a : Addr} {m0 : List Addr} {H0 : Hp} {vs : List Val} (hn : m0[n]? = some a) : ItA K (Itl K a) m0 H0 vs (fun S => S[n]? = some (.lst vs)) := by
  have get : ∀ {m : List Addr} {S : Sto} {H : Hp}, Ext m0 H0 m H → Rel K m S H → S[n]? = some (.lst vs) → ∃ xs, H a = some (.lst xs) ∧ VRs K H m xs vs := fun {m S H} E R h => by
    have hm : m[n]? = some a := by
      obtain ⟨r, rfl⟩ := E.pre
      rw [List.getElem?_append_left (List.getElem?_eq_some_iff.mp hn).1]
      exact hn
    exact R.ob _ _ _ h hm
  refine ⟨fun i m S H E R ok v hv => ?_, fun m S H E R ok => ?_⟩
  · obtain ⟨xs, hx, rx⟩ := get E R ok
    obtain ⟨u, hu, ru⟩ := rx.get hv
    refine ⟨⟨xs, u, SqL.of hx, hu⟩, fun x H' hy => ?_⟩
    obtain ⟨rfl, hq⟩ := hy
    have e := hq xs (SqL.of hx)
    rw [hu] at e
    cases e
    exact ⟨R, .refl _ _, ru⟩
  · obtain ⟨xs, hx, rx⟩ := get E R ok
    exact ⟨xs, SqL.of hx, by rw [rx.len]; exact Nat.le_refl _⟩
theorem ais {tg e : Expr} {f : EF} (he : AE X e f) : AI X tg e (iSeq f) := pi_w (PI.or (pi_tup he) (pi_list he)) fun σ H W h => by
  obtain ⟨m, ρ, S, vs, ok, S', R, r, e, q⟩ := h
  obtain ⟨⟨x, S1⟩, e1, e⟩ := Option.bind_eq_some_iff.mp e
  dsimp only at e
  split at e
  · cases e
    refine .inl ⟨m, ρ, S, _, _, R, r, e1, fun m1 u H1 E1 R1 r1 => ?_⟩
    cases r1 with
    | tup ha ra => exact ⟨_, rfl, ⟨_, ha.sq⟩, q m1 H1 _ E1 R1 (it_tup R1 ha ra)⟩
  · split at e
    · next n _ vs' en =>
      cases e
      refine .inr ⟨m, ρ, S, _, _, R, r, e1, fun m1 u H1 E1 R1 r1 => ?_⟩
      cases r1 with
      | ref ha =>
        obtain ⟨xs, hx, rx⟩ := R1.ob _ _ _ en ha
        exact ⟨_, rfl, ⟨_, SqL.of hx⟩, q m1 H1 _ E1 R1 (it_lst ha)⟩
    · cases e
  · cases e
/-- range(n), range(a, b) -/
def rangeV (lo : Int) (n : Nat) : List Val := (List.range n).map fun (k : Nat) => .int (lo + (k : Int))
def iRg1 (ga : AF) : IF := fun ρ S => (ga ρ S).bind fun p => match p.1 with
  | [.int j] => if -(2 ^ 62) ≤ j ∧ j < 2 ^ 62 then some (rangeV 0 j.toNat, fun _ => True, p.2) else none
  | _ => none
def iRg2 (ga : AF) : IF := fun ρ S => (ga ρ S).bind fun p => match p.1 with
  | [.int i, .int j] => if -(2 ^ 62) ≤ i ∧ i < 2 ^ 62 ∧ -(2 ^ 62) ≤ j ∧ j < 2 ^ 62 then some (rangeV i (j - i).toNat, fun _ => True, p.2) else none
  | _ => none
theorem it_rg {lo : Int} {n : Nat} {m0 : List Addr} {H0 : Hp} : ItA K (Itr lo n) m0 H0 (rangeV lo n) (fun _ => True) := by
  refine ⟨fun i m S H E R _ v hv => ?_, fun m S H E R _ => ?_⟩
  · unfold rangeV at hv
    rw [List.getElem?_map] at hv
    obtain ⟨k, hk, rfl⟩ := Option.map_eq_some_iff.mp hv
    obtain ⟨l, rfl⟩ := List.getElem?_eq_some_iff.mp hk
    rw [List.length_range] at l
    refine ⟨l, fun x H' hy => ?_⟩
    obtain ⟨rfl, rfl⟩ := hy
    rw [List.getElem_range]
    exact ⟨R, .refl _ _, .int _⟩
  · show n ≤ (rangeV lo n).length
    simp [rangeV]
theorem air1 {tg a : Expr} {ga : AF} {p pos : Pos} (hg : Gl X "range") (hm : X.mg "range" = none) (ha : AA X [a] ga) (hs : starEach [a] X.env = [(false, eval a X.env)] := by rfl) : AI X tg (.Call (.Name "range" p) [a] [] pos) (iRg1 ga) := pi_w (pi_range1 hg hm ha hs) fun σ H W h => by
  obtain ⟨m, ρ, S, vs, ok, S', R, r, e, q⟩ := h
  obtain ⟨⟨x, S1⟩, e1, e⟩ := Option.bind_eq_some_iff.mp e
  dsimp only at e
  split at e
  · split at e
    · next hb =>
      cases e
      refine ⟨m, ρ, S, _, _, R, r, e1, fun m1 us H1 E1 R1 r1 => ?_⟩
      obtain ⟨u, rfl, r2⟩ := r1.one_of
      cases r2
      exact ⟨_, rfl, hb.1, hb.2, q m1 H1 _ E1 R1 it_rg⟩
    · cases e
  · cases e
theorem air2 {tg a b : Expr} {ga : AF} {p pos : Pos} (hg : Gl X "range") (hm : X.mg "range" = none) (ha : AA X [a, b] ga) (hs : starEach [a, b] X.env = [(false, eval a X.env), (false, eval b X.env)] := by rfl) (hs2 : starEach [b] X.env = [(false, eval b X.env)] := by rfl) : AI X tg (.Call (.Name "range" p) [a, b] [] pos) (iRg2 ga) := pi_w (pi_range2 hg hm ha hs hs2) fun σ H W h => by
  obtain ⟨m, ρ, S, vs, ok, S', R, r, e, q⟩ := h
  obtain ⟨⟨x, S1⟩, e1, e⟩ := Option.bind_eq_some_iff.mp e
  dsimp only at e
  split at e
  · split at e
    · next hb =>
      cases e
      refine ⟨m, ρ, S, _, _, R, r, e1, fun m1 us H1 E1 R1 r1 => ?_⟩
      match us, r1 with
      | [_, _], .cons (.int i) (.cons (.int j) .nil) => exact ⟨_, _, rfl, hb, q m1 H1 _ E1 R1 it_rg⟩
    · cases e
  · cases e
/-- enumerate(xs) -/
def enumV (vs : List Val) : List Val := vs.zipIdx.map fun p => .tup [.int (p.2 : Nat), p.1]
def iEn (ga : AF) : IF := fun ρ S => (ga ρ S).bind fun p => match p.1 with
  | [.tup vs] => some (enumV vs, fun _ => True, p.2)
  | [.ref n] => match p.2[n]? with
    | some (.lst vs) => some (enumV vs, fun S => S[n]? = some (.lst vs), p.2)
    | _ => none
  | _ => none
theorem enumV_get {vs : List Val} {i : Nat} {v : Val} (h : (enumV vs)[i]? = some v) : ∃ x, vs[i]? = some x ∧ v = .tup [.int (i : Nat), x] := by
  unfold enumV at h
  rw [List.getElem?_map] at h
  obtain ⟨p, hp, rfl⟩ := Option.map_eq_some_iff.mp h
  rw [List.getElem?_zipIdx] at hp
  obtain ⟨x, hx, rfl⟩ := Option.map_eq_some_iff.mp hp
  exact ⟨x, hx, by simp⟩
theorem yl_new {m : List Addr} {S : Sto} {H : Hp} (R : Rel K m S H) {T : Addr} {xs : List V} {vs : List Val} (h : H T = none) (r : VRs K H m xs vs) : Rel K m S (upd H T (.tup xs)) ∧ Ext m H m (upd H T (.tup xs)) ∧ VR K (upd H T (.tup xs)) m (.ref T) (.tup vs) := by
  obtain ⟨R2, E2⟩ := R.tmp (o := .tup xs) h
  exact ⟨R2, E2, .tup (.inl upd_same) (r.kp (E2.kp R))⟩
/-- zip(a, b): two lists, two tuples, a tuple and a list of one length -/
def zipV (vs ws : List Val) : List Val := (vs.zip ws).map fun p => .tup [p.1, p.2]
theorem zipV_get {vs ws : List Val} {i : Nat} {v : Val} (h : (zipV vs ws)[i]? = some v) : ∃ x y, vs[i]? = some x ∧ ws[i]? = some y ∧ v = .tup [x, y] := by
  unfold zipV at h
  rw [List.getElem?_map] at h
  obtain ⟨p, hp, rfl⟩ := Option.map_eq_some_iff.mp h
  obtain ⟨h1, h2⟩ := List.getElem?_zip_eq_some.mp hp
  exact ⟨_, _, h1, h2, rfl⟩
def iZp (ga : AF) : IF := fun ρ S => (ga ρ S).bind fun p => match p.1 with
  | [.tup vs, .tup ws] => some (zipV vs ws, fun _ => True, p.2)
  | [.tup vs, .ref n] => match p.2[n]? with
    | some (.lst ws) => if vs.length = ws.length then some (zipV vs ws, fun S => S[n]? = some (.lst ws), p.2) else none
    | _ => none
  | [.ref k, .ref n] => match p.2[k]?, p.2[n]? with
    | some (.lst vs), some (.lst ws) => some (zipV vs ws, fun S => S[k]? = some (.lst vs) ∧ S[n]? = some (.lst ws), p.2)
    | _, _ => none
  | _ => none
theorem lst_get {m1 m : List Addr} {S : Sto} {H H1 : Hp} {n : Nat} {ad : Addr} {vs0 : List Val} (ha : m1[n]? = some ad) (E : Ext m1 H1 m H) (R : Rel K m S H) (h : S[n]? = some (.lst vs0)) : ∃ xs, H ad = some (.lst xs) ∧ VRs K H m xs vs0 := by
  have hm : m[n]? = some ad := by
    obtain ⟨r, rfl⟩ := E.pre
    rw [List.getElem?_append_left (List.getElem?_eq_some_iff.mp ha).1]
    exact ha
  exact R.ob _ _ _ h hm
theorem aiz {e e2 : Expr} {ga : AF} {p pos tpos : Pos} {elts : List Expr} {kk : Nat} (hg : Gl X "zip") (hm : X.mg "zip" = none) (ha : AA X [e, e2] ga)
    (hs : starEach [e, e2] X.env = (false, eval e X.env) :: starEach [e2] X.env := by rfl) (hpl : (backTo pos (starEach [e2] X.env)).any (·.1) = false := by rfl) :
    AI X (.Tuple elts kk tpos) (.Call (.Name "zip" p) [e, e2] [] pos) (iZp ga) := pi_w (PI.or (RZ.pi_zipA hg hm ha hs hpl) (ZT.pi_zipTL hg hm ha hs hpl)) fun σ H W h => by
  obtain ⟨m, ρ, S, vs, ok, S', R, r, e, q⟩ := h
  obtain ⟨⟨x, S1⟩, e1, e⟩ := Option.bind_eq_some_iff.mp e
  dsimp only at e
  split at e
  · next vs0 ws0 =>
    cases e
    refine .inl ⟨m, ρ, S, _, _, R, r, e1, fun m1 us H1 E1 R1 r1 => ?_⟩
    match us, r1 with
    | [.ref a, .ref b], .cons (.tup (xs := xs) ha ra) (.cons (.tup (xs := ys) hb rb) .nil) =>
      refine ⟨a, b, xs, ys, rfl, .inr ⟨ha.sq, hb.sq, q m1 H1 _ E1 R1 ⟨fun i m S H E R _ v hv => ?_, fun m S H E R _ => ?_⟩⟩⟩
      · obtain ⟨x, y, hx, hy, rfl⟩ := zipV_get hv
        have k := E.kp R1
        obtain ⟨u, hu, ru⟩ := (ra.kp k).get hx
        obtain ⟨u2, hu2, ru2⟩ := (rb.kp k).get hy
        refine ⟨⟨xs, ys, u, u2, (ha.kp k).sq, (hb.kp k).sq, hu, hu2⟩, fun x H' hyl => ?_⟩
        obtain ⟨T, z, z2, rfl, hT, rfl, hz, hz2⟩ := hyl
        have e := hz xs (ha.kp k).sq
        rw [hu] at e
        cases e
        have e := hz2 ys (hb.kp k).sq
        rw [hu2] at e
        cases e
        exact yl_new R hT (.cons ru (.cons ru2 .nil))
      · refine ⟨xs, ys, (ha.kp (E.kp R1)).sq, (hb.kp (E.kp R1)).sq, ?_⟩
        simp only [zipV, List.length_map, List.length_zip, ra.len, rb.len]
        omega
  · split at e
    · next vs0 n _ ws0 en =>
      split at e
      · next hl =>
        cases e
        refine .inr ⟨m, ρ, S, _, _, R, r, e1, fun m1 us H1 E1 R1 r1 => ?_⟩
        match us, r1 with
        | [.ref a, .ref b], .cons (.tup (xs := xs) ha ra) (.cons (.ref hb) .nil) =>
          obtain ⟨ys, hy0, ry0⟩ := lst_get hb (.refl _ _) R1 en
          refine ⟨a, b, xs, ys, rfl, ha.sq, SqL.of hy0, q m1 H1 _ E1 R1 ⟨fun i m S H E R ok v hv => ?_, fun m S H E R ok => ?_⟩⟩
          · obtain ⟨x, y, hx, hy, rfl⟩ := zipV_get hv
            have k := E.kp R1
            obtain ⟨ys, hys, rys⟩ := lst_get hb E R ok
            obtain ⟨u, hu, ru⟩ := (ra.kp k).get hx
            obtain ⟨u2, hu2, ru2⟩ := rys.get hy
            refine ⟨⟨xs, ys, u, u2, (ha.kp k).sq, SqL.of hys, hu, hu2⟩, fun x H' hyl => ?_⟩
            obtain ⟨T, z, z2, rfl, hT, rfl, hz, hz2⟩ := hyl
            have e := hz xs (ha.kp k).sq
            rw [hu] at e
            cases e
            have e := hz2 ys (SqL.of hys)
            rw [hu2] at e
            cases e
            exact yl_new R hT (.cons ru (.cons ru2 .nil))
          · obtain ⟨ys, hys, rys⟩ := lst_get hb E R ok
            refine ⟨xs, ys, (ha.kp (E.kp R1)).sq, SqL.of hys, ?_, ?_⟩ <;> simp only [zipV, List.length_map, List.length_zip, ra.len, rys.len] <;> omega
      · cases e
    · cases e
  · split at e
    · next k0 n0 _ _ vs0 ws0 ek en =>
      cases e
      refine .inl ⟨m, ρ, S, _, _, R, r, e1, fun m1 us H1 E1 R1 r1 => ?_⟩
      match us, r1 with
      | [.ref a, .ref b], .cons (.ref ha) (.cons (.ref hb) .nil) =>
        obtain ⟨xs, hx0, rx0⟩ := lst_get ha (.refl _ _) R1 ek
        obtain ⟨ys, hy0, ry0⟩ := lst_get hb (.refl _ _) R1 en
        refine ⟨a, b, xs, ys, rfl, .inl ⟨SqL.of hx0, SqL.of hy0, q m1 H1 _ E1 R1 ⟨fun i m S H E R ok v hv => ?_, fun m S H E R ok => ?_⟩⟩⟩
        · obtain ⟨x, y, hx, hy, rfl⟩ := zipV_get hv
          obtain ⟨xs, hxs, rxs⟩ := lst_get ha E R ok.1
          obtain ⟨ys, hys, rys⟩ := lst_get hb E R ok.2
          obtain ⟨u, hu, ru⟩ := rxs.get hx
          obtain ⟨u2, hu2, ru2⟩ := rys.get hy
          refine ⟨⟨xs, ys, u, u2, SqL.of hxs, SqL.of hys, hu, hu2⟩, fun x H' hyl => ?_⟩
          obtain ⟨T, z, z2, rfl, hT, rfl, hz, hz2⟩ := hyl
          have e := hz xs (SqL.of hxs)
          rw [hu] at e
          cases e
          have e := hz2 ys (SqL.of hys)
          rw [hu2] at e
          cases e
          exact yl_new R hT (.cons ru (.cons ru2 .nil))
        · obtain ⟨xs, hxs, rxs⟩ := lst_get ha E R ok.1
          obtain ⟨ys, hys, rys⟩ := lst_get hb E R ok.2
          refine ⟨xs, ys, SqL.of hxs, SqL.of hys, ?_⟩
          simp only [zipV, List.length_map, List.length_zip, rxs.len, rys.len]
          omega
    · cases e
  · cases e
end
end AL
namespace AL
open PySem PySem.Spec PyProof.Rows L2 G Th
variable [TT]
def keyOf : Val → Option Key
  | .int i => some (.inl i)
  | .str x => some (.inr x)
  | _ => none
def valA (kvs : List (Key × Val)) (k : Key) : Option Val := (kvs.find? fun kv => decide (kv.1 = k)).map (·.2)
def putA (kvs : List (Key × Val)) (k : Key) (v : Val) : List (Key × Val) := if (kvs.any fun kv => decide (kv.1 = k)) = true then kvs.map (fun kv => if kv.1 = k then (kv.1, v) else kv) else kvs ++ [(k, v)]
section
variable {X : Cx} {K : PySem.W.Frag} {e a b o i : Expr} {pos : Pos} {fa fb fo fi f : EF}
theorem pe_or2 {t t' : TE} (h : PE X e t) (h' : PE X e t') : PE X e (fun σ H Q => t σ H Q ∨ t' σ H Q) := ⟨fun pins s σ H Q I hq => hq.elim (h.run pins s σ H Q I) (h'.run pins s σ H Q I)⟩
theorem pt_or2 {t t' : L2.TT} (h : PT X e t) (h' : PT X e t') : PT X e (fun σ H Q => t σ H Q ∨ t' σ H Q) := ⟨fun pins s σ H Q I hq => hq.elim (h.run pins s σ H Q I) (h'.run pins s σ H Q I)⟩
theorem ps_or2 {st : Stmt} {t t' : TS} (h : PS X st t) (h' : PS X st t') : PS X st (fun D σ H => t D σ H ∨ t' D σ H) := ⟨fun pins s σ H D I hq => hq.elim (h.run pins s σ H D I) (h'.run pins s σ H D I)⟩
theorem VR.key {H : Hp} {m : List Addr} {u : V} {v : Val} {k : Key} (r : VR K H m u v) (h : AL.keyOf v = some k) : u = kV k := by
  cases r <;> cases h <;> rfl
/-- the pairs of a dict, one by one -/
def KR (K : PySem.W.Frag) (H : Hp) (m : List Addr) (xs : List (Key × V)) (kvs : List (Key × Val)) : Prop := xs.map (·.1) = kvs.map (·.1) ∧ VRs K H m (xs.map (·.2)) (kvs.map (·.2))
theorem KR.nil {H : Hp} {m : List Addr} : KR K H m [] [] := ⟨rfl, .nil⟩
theorem KR.cons {H : Hp} {m : List Addr} {x : Key × V} {y : Key × Val} {xs : List (Key × V)} {kvs : List (Key × Val)} (h1 : x.1 = y.1) (h2 : VR K H m x.2 y.2) (r : KR K H m xs kvs) : KR K H m (x :: xs) (y :: kvs) := ⟨by simp [h1, r.1], .cons h2 r.2⟩
theorem KR.uncons {H : Hp} {m : List Addr} {y : Key × Val} {xs : List (Key × V)} {kvs : List (Key × Val)} (r : KR K H m xs (y :: kvs)) : ∃ x xs', xs = x :: xs' ∧ x.1 = y.1 ∧ VR K H m x.2 y.2 ∧ KR K H m xs' kvs := by
  obtain ⟨h1, h2⟩ := r
  cases xs with
  | nil => simp at h1
  | cons x xs =>
    simp only [List.map_cons, List.cons.injEq] at h1
    cases h2 with
    | cons a b => exact ⟨x, xs, rfl, h1.1, a, h1.2, b⟩
theorem KR.nil_of {H : Hp} {m : List Addr} {xs : List (Key × V)} (r : KR K H m xs []) : xs = [] := by
  have := r.1
  simpa using this
theorem KR.len {H : Hp} {m : List Addr} {xs : List (Key × V)} {kvs : List (Key × Val)} (r : KR K H m xs kvs) : xs.length = kvs.length := by simpa using congrArg List.length r.1
theorem KR.any {H : Hp} {m : List Addr} {xs : List (Key × V)} {kvs : List (Key × Val)} (r : KR K H m xs kvs) (k : Key) : (xs.any fun kv => decide (kv.1 = k)) = (kvs.any fun kv => decide (kv.1 = k)) := by
  induction kvs generalizing xs with
  | nil => rw [r.nil_of]; rfl
  | cons y kvs ih =>
    obtain ⟨x, xs', rfl, e, _, r'⟩ := r.uncons
    rw [List.any_cons, List.any_cons, ih r', e]
theorem KR.val {H : Hp} {m : List Addr} {xs : List (Key × V)} {kvs : List (Key × Val)} (r : KR K H m xs kvs) (k : Key) : (valV xs k = none ∧ valA kvs k = none) ∨ ∃ u v, valV xs k = some u ∧ valA kvs k = some v ∧ VR K H m u v := by
  induction kvs generalizing xs with
  | nil => rw [r.nil_of]; exact .inl ⟨rfl, rfl⟩
  | cons y kvs ih =>
    obtain ⟨x, xs', rfl, e, rv, r'⟩ := r.uncons
    by_cases h : y.1 = k
    · refine .inr ⟨x.2, y.2, ?_, ?_, rv⟩
      · simp [valV, List.find?_cons, e, h]
      · simp [valA, List.find?_cons, h]
    · have := ih r'
      simp only [valV, valA, List.find?_cons, e, h, decide_false] at this ⊢
      exact this
theorem KR.put {H : Hp} {m : List Addr} {xs : List (Key × V)} {kvs : List (Key × Val)} (r : KR K H m xs kvs) (k : Key) {u : V} {v : Val} (rv : VR K H m u v) : KR K H m (putK xs k u) (putA kvs k v) := by
  unfold putK putA
  rw [r.any k]
  split
  · rename_i hany
    clear hany
    induction kvs generalizing xs with
    | nil => rw [r.nil_of]; exact .nil
    | cons y kvs ih =>
      obtain ⟨x, xs', rfl, e, rv', r'⟩ := r.uncons
      rw [List.map_cons, List.map_cons]
      refine .cons ?_ ?_ (ih r')
      · rw [e]
        split <;> simp [e]
      · rw [e]
        split
        · exact rv
        · exact rv'
  · refine ⟨by simp [r.1], ?_⟩
    simp only [List.map_append, List.map_cons, List.map_nil]
    exact r.2.app rv.one
theorem KR.kp {H H' : Hp} {m m' : List Addr} {xs : List (Key × V)} {kvs : List (Key × Val)} (r : KR K H m xs kvs) (k : Kp m H m' H') : KR K H' m' xs kvs := ⟨r.1, r.2.kp k⟩
def gIxA : Val → Val → Sto → Option (Val × Sto) := fun x y S => match x with
  | .ref n => match S[n]? with
    | some (.dic kvs) => match AL.keyOf y with
      | some k => (valA kvs k).map fun v => (v, S)
      | none => none
    | _ => gIx x y S
  | _ => gIx x y S
theorem aixA (hu : X.A.units + 1 < cLine) (ha : AE X a fa) (hb : AE X b fb) (hs : PlainIx b) (hn : NoSl b) : AE X (.Subscript a b pos) (eB gIxA fa fb) := by
  refine pe_w (pe_or2 (pe_ix ix_seq ha hb hs) (pe_dget hu ha hb hn)) fun σ H Q h => ?_
  obtain ⟨m, ρ, S, v, S', R, r, e, q⟩ := h
  obtain ⟨⟨x, S1⟩, e1, e⟩ := Option.bind_eq_some_iff.mp e
  obtain ⟨⟨y, S2⟩, e2, e⟩ := Option.bind_eq_some_iff.mp e
  dsimp only at e e2
  have plain : gIx x y S2 = some (v, S') → tOp (rIx X.K) (tF X.K fa) (tF X.K fb) σ H Q := fun e => eB_ok oIx ⟨m, ρ, S, v, S', R, r, by simp only [eB, e1, e2, Option.bind_some, e], q⟩
  cases x with
  | ref n =>
    simp only [gIxA] at e
    split at e
    · next kvs en =>
      split at e
      · next k ek =>
        obtain ⟨v', ev, e3⟩ := Option.map_eq_some_iff.mp e
        cases e3
        refine .inr ⟨m, ρ, S, .ref n, S1, R, r, e1, fun m1 u H1 E1 R1 r1 => ⟨m1, ρ, S1, y, _, R1, r.kp (E1.kp R), e2, fun m2 w H2 E2 R2 r2 => ?_⟩⟩
        cases r1.kp (E2.kp R1) with
        | ref hm =>
          obtain ⟨xs, hx, hk⟩ := R2.ob _ _ _ en hm
          rcases KR.val hk k with ⟨_, z⟩ | ⟨u', v2, h1, h2, h3⟩
          · rw [ev] at z; cases z
          · rw [ev] at h2
            cases h2
            refine ⟨_, u', rfl, ?_, q m2 u' H2 (E1.trans E2) R2 h3⟩
            rw [r2.key ek, ← h1]
            exact DGet.k hx
      · cases e
    · exact .inl (plain e)
  | _ => exact .inl (plain e)
/-- {} -/
def eDic : EF := fun _ S => some (.ref S.length, S ++ [.dic []])
/-- d[k] = v, xs[i] = v -/
def gSetA : Val → Val → Val → Sto → Option Sto := fun o i v S => match o with
  | .ref n => match S[n]? with
    | some (.dic kvs) => match AL.keyOf i with
      | some k => if kvs.length < sizeLine then some (S.set n (.dic (putA kvs k v))) else none
      | none => none
    | _ => gSet o i v S
  | _ => none
theorem asuA {p2 : Pos} (hu : X.A.units + 1 < cLine) (he : AE X e f) (ho : AE X o fo) (hi : AE X i fi)
    (ha : ∀ v, assign (.Subscript o i pos) X.env v = (do
      let ov ← holding [v] (eval o X.env)
      let iv ← holding [v, ov] (eval i X.env)
      standAt pos
      holding [v, ov, iv] (setItem ov iv v)
      release [v, ov, iv] []) := by intro _; rfl)
    (hsw : swapsWithSole [.Subscript o i pos] e p2.line X.env = pure false := by rfl) (hw : swappedStores [.Subscript o i pos] e X.env = pure none := by rfl)
    (h1 : (assignEach [.Subscript o i pos] X.env).map (·.2) = [assign (.Subscript o i pos) X.env] := by rfl) (hs : swapsWith e (some (.Subscript o i pos)) p2.line X.env = pure false := by rfl) : AS X (.Assign [.Subscript o i pos] e p2) (sSub gSetA fo fi f) := by
  refine ps_w (ps_or2 (ps_asg he (pg_sub ho hi set_list ha) hsw hw h1) (ps_dput hu ho hi he hs)) fun D σ H h => ?_
  obtain ⟨m, ρ, S, R, r, q⟩ := h
  unfold sSub at q
  split at q
  · next v S1 e1 =>
    split at q
    · next ov S2 e2 =>
      split at q
      · next iv S3 e3 =>
        split at q
        · next S4 e4 =>
          unfold gSetA at e4
          split at e4
          · next n =>
            split at e4
            · next kvs en =>
              split at e4
              · next k ek =>
                split at e4
                · next hl =>
                  cases e4
                  refine .inr ⟨m, ρ, S, v, S1, R, r, e1, fun m1 u H1 E1 R1 r1 => ⟨m1, ρ, S1, _, S2, R1, r.kp (E1.kp R), e2, fun m2 uo H2 E2 R2 r2 => ⟨m2, ρ, S2, iv, S3, R2, r.kp ((E1.trans E2).kp R), e3, fun m3 ui H3 E3 R3 r3 => ?_⟩⟩⟩
                  have rv := r1.kp ((E2.trans E3).kp R1)
                  cases r2.kp (E3.kp R2) with
                  | ref hm =>
                    rename_i ad
                    obtain ⟨xs, hx, hk⟩ := R3.ob _ _ _ en hm
                    have hk : KR X.K H3 m3 xs kvs := hk
                    have hmm := List.mem_of_getElem? hm
                    have kk : Kp m3 H3 m3 (upd H3 ad (.dK (putK xs k u))) := R3.kput hmm
                    obtain ⟨R4, E4⟩ := R3.put (o := .dK (putK xs k u)) (b := .dic (putA kvs k v)) hm ⟨_, upd_same, (hk.put k rv).kp kk⟩
                    refine ⟨_, _, rfl, ?_, q m3 σ _ (((E1.trans E2).trans E3).trans E4) R4 (r.kp ((((E1.trans E2).trans E3).trans E4).kp R))⟩
                    rw [r3.key ek]
                    exact DPut.k hx (by rw [hk.len]; exact hl)
                · cases e4
              · cases e4
            · refine .inl ⟨m, ρ, S, v, S1, R, r, e1, fun m1 u H1 E1 R1 r1 => ⟨m1, ρ, S1, _, S2, R1, r.kp (E1.kp R), e2, fun m2 uo H2 E2 R2 r2 => ⟨m2, ρ, S2, iv, S3, R2, r.kp ((E1.trans E2).kp R), e3, fun m3 ui H3 E3 R3 r3 => ?_⟩⟩⟩
              refine stL m3 S3 H3 _ iv v S4 uo ui u _ R3 (r2.kp (E3.kp R2)) r3 (r1.kp ((E2.trans E3).kp R1)) e4 fun H4 E4 R4 => ?_
              exact q m3 σ H4 (((E1.trans E2).trans E3).trans E4) R4 (r.kp ((((E1.trans E2).trans E3).trans E4).kp R))
          · cases e4
        · exact q.elim
      · exact q.elim
    · exact q.elim
  · exact q.elim
/-- d.get(k), d.get(k, x) -/
def eGet1 (fo fi : EF) : EF := fun ρ S => (fo ρ S).bind fun p => match p.1 with
  | .ref n => match p.2[n]? with
    | some (.dic _) => (fi ρ p.2).bind fun q => match q.2[n]?, AL.keyOf q.1 with
      | some (.dic kvs), some k => some ((valA kvs k).getD .non, q.2)
      | _, _ => none
    | _ => none
  | _ => none
def eGet2 (fo fi fx : EF) : EF := fun ρ S => (fo ρ S).bind fun p => match p.1 with
  | .ref n => match p.2[n]? with
    | some (.dic _) => (fi ρ p.2).bind fun q => (fx ρ q.2).bind fun z => match z.2[n]?, AL.keyOf q.1 with
      | some (.dic kvs), some k => some ((valA kvs k).getD z.1, z.2)
      | _, _ => none
    | _ => none
  | _ => none
def flatA : Val → Bool
  | .non => true
  | .bl _ => true
  | .int _ => true
  | .str _ => true
  | _ => false
def eqF : Val → Val → Bool
  | .non, .non => true
  | .bl a, .bl b => a == b
  | .bl a, .int b => (if a then 1 else 0) == b
  | .int a, .bl b => a == (if b then 1 else 0)
  | .int a, .int b => a == b
  | .str a, .str b => a == b
  | _, _ => false
def inA (x : Val) (vs : List Val) : Bool := vs.any fun y => eqF y x
theorem VR.flat {H : Hp} {m : List Addr} {u : V} {v : Val} (r : VR K H m u v) (h : flatA v = true) : flatV u = true := by
  cases r <;> first | rfl | cases h
theorem VR.eqF {H : Hp} {m : List Addr} {u w : V} {v x : Val} (r : VR K H m u v) (r2 : VR K H m w x) (h : flatA v = true) (h2 : flatA x = true) : eqV u w = AL.eqF v x := by
  cases r <;> cases r2 <;> first | rfl | cases h | cases h2
theorem VRs.flat {H : Hp} {m : List Addr} : ∀ {us : List V} {vs : List Val}, VRs K H m us vs → vs.all flatA = true → us.all flatV = true
  | _, _, .nil, _ => rfl
  | _, _, .cons a r, h => by
    rw [List.all_cons, Bool.and_eq_true] at h
    rw [List.all_cons, a.flat h.1, r.flat h.2]
    rfl
theorem VRs.inA {H : Hp} {m : List Addr} {u : V} {x : Val} (ru : VR K H m u x) (hx : flatA x = true) : ∀ {us : List V} {vs : List Val}, VRs K H m us vs → vs.all flatA = true → inV u us = AL.inA x vs
  | _, _, .nil, _ => rfl
  | _, _, .cons a r, h => by
    rw [List.all_cons, Bool.and_eq_true] at h
    have := VRs.inA ru hx r h.2
    unfold inV AL.inA at this ⊢
    rw [List.any_cons, List.any_cons, this, a.eqF ru h.1 hx]
def gInS (neg : Bool) : Val → Val → Sto → Option (Val × Sto) := fun x y S => match y with
  | .tup vs => if flatA x && vs.all flatA then some (.bl (if neg then !inA x vs else inA x vs), S) else none
  | .ref n => match S[n]? with
    | some (.lst vs) => if flatA x && vs.all flatA then some (.bl (if neg then !inA x vs else inA x vs), S) else none
    | _ => none
  | _ => none
theorem oInS {neg : Bool} : OpA K (rIn K neg) (gInS neg) := by
  intro m S H x y v S' u w Q R ru rw_ e q
  unfold gInS at e
  split at e
  · next vs =>
    split at e
    · next h =>
      rw [Bool.and_eq_true] at h
      cases e
      cases rw_ with
      | tup ha ra =>
        refine ⟨_, _, rfl, .inr ha.sq, ru.flat h.1, ra.flat h.2, ?_⟩
        rw [VRs.inA ru h.1 ra h.2]
        exact q m _ H (.refl _ _) R (.bl _)
    · cases e
  · split at e
    · next n _ vs en =>
      split at e
      · next h =>
        rw [Bool.and_eq_true] at h
        cases e
        cases rw_ with
        | ref hm =>
          obtain ⟨xs, hx, rx⟩ := R.ob _ _ _ en hm
          refine ⟨_, _, rfl, .inl (SqL.of hx), ru.flat h.1, rx.flat h.2, ?_⟩
          rw [VRs.inA ru h.1 rx h.2]
          exact q m _ H (.refl _ _) R (.bl _)
      · cases e
    · cases e
  · cases e
def gIn (neg : Bool) : Val → Val → Sto → Option (Val × Sto) := fun x y S => match y with
  | .ref n => match S[n]? with
    | some (.dic kvs) => match AL.keyOf x with
      | some k => some (.bl (if neg then !(valA kvs k).isSome else (valA kvs k).isSome), S)
      | none => none
    | _ => gInS neg x y S
  | _ => gInS neg x y S
theorem gIn_ok {neg : Bool} {σ : L2.St} {H : Hp} {Q : VK} (h : tF K (eB (gIn neg) fa fb) σ H Q) :
    tOp (rIn K neg) (tF K fa) (tF K fb) σ H Q ∨ (tF K fa σ H fun y H1 => tF K fb σ H1 fun x H2 => ∃ a o, x = .ref a ∧ DGet H2 a y o ∧ Q (.bl (if neg then !o.isSome else o.isSome)) H2) := by
  obtain ⟨m, ρ, S, v, S', R, r, e, q⟩ := h
  obtain ⟨⟨x, S1⟩, e1, e⟩ := Option.bind_eq_some_iff.mp e
  obtain ⟨⟨y, S2⟩, e2, e⟩ := Option.bind_eq_some_iff.mp e
  dsimp only at e e2
  have plain : gInS neg x y S2 = some (v, S') → tOp (rIn K neg) (tF K fa) (tF K fb) σ H Q := fun e => eB_ok oInS ⟨m, ρ, S, v, S', R, r, by simp only [eB, e1, e2, Option.bind_some, e], q⟩
  unfold gIn at e
  split at e
  · next n =>
    split at e
    · next kvs en =>
      split at e
      · next k ek =>
        cases e
        refine .inr ⟨m, ρ, S, x, S1, R, r, e1, fun m1 u H1 E1 R1 r1 => ⟨m1, ρ, S1, _, _, R1, r.kp (E1.kp R), e2, fun m2 w H2 E2 R2 r2 => ?_⟩⟩
        cases r2 with
        | ref hm =>
          obtain ⟨xs, hx, hk⟩ := R2.ob _ _ _ en hm
          refine ⟨_, valV xs k, rfl, by rw [(r1.kp (E2.kp R1)).key ek]; exact DGet.k hx, ?_⟩
          have eq : (valV xs k).isSome = (valA kvs k).isSome := by
            rcases KR.val hk k with ⟨z1, z2⟩ | ⟨u', v2, h1, h2, h3⟩
            · rw [z1, z2]; rfl
            · rw [h1, h2]; rfl
          rw [eq]
          exact q m2 _ H2 (E1.trans E2) R2 (.bl _)
      · cases e
    · exact .inl (plain e)
  · exact .inl (plain e)
theorem atin (hu : X.A.units + 1 < cLine) (ha : AE X a fa) (hb : AE X b fb) (hm : behindInMarks .In b = false := by rfl) : AT X (.Compare a [.In] [b] pos) (eT (eB (gIn false) fa fb)) :=
  pt_w (pt_or2 (pt_cmpR op_in_seq ha hb hm) (pt_cmp (pc_din hu ha hb) hm)) fun σ H Q h => gIn_ok (eT_ok h)
def strsOf : List Val → Option (List Str)
  | [] => some []
  | .str x :: r => (strsOf r).map (x :: ·)
  | _ => none
theorem strs_eq : ∀ {vs : List Val} {ss : List Str}, strsOf vs = some ss → vs = ss.map Val.str
  | [], ss, h => by cases h; rfl
  | .str x :: r, ss, h => by
    obtain ⟨t, h1, h2⟩ := Option.map_eq_some_iff.mp h
    cases h2
    rw [strs_eq h1]
    rfl
  | .non :: r, _, h => by cases h
  | .bl _ :: r, _, h => by cases h
  | .int _ :: r, _, h => by cases h
  | .tup _ :: r, _, h => by cases h
  | .ref _ :: r, _, h => by cases h
  | .scr _ :: r, _, h => by cases h
  | .lam _ _ _ _ _ :: r, _, h => by cases h
  | .exc _ _ _ _ :: r, _, h => by cases h
theorem vrs_strs_inv {H : Hp} {m : List Addr} : ∀ {ss : List Str} {us : List V}, VRs K H m us (ss.map Val.str) → us = ss.map V.str
  | [], _, h => by cases h; rfl
  | s :: ss, _, h => by
    cases h with
    | cons a r =>
      cases a
      rw [vrs_strs_inv r]
      rfl
def leS (a b : Str) : Bool := !ltCps b.cps.toList a.cps.toList
def sortS (l : List Str) : List Str := l.mergeSort leS
theorem ltCps_iff : ∀ (a b : List Nat), ltCps a b = true ↔ a < b := by
  intro a b
  rw [PyProof.Rows.ltCps_eq, decide_eq_true_iff]
theorem leS_iff {a b : Str} : leS a b = true ↔ ¬ b.cps.toList < a.cps.toList := by
  unfold leS
  rw [Bool.not_eq_true', ← Bool.not_eq_true, ltCps_iff]
theorem leS_trans (a b c : Str) (h1 : leS a b = true) (h2 : leS b c = true) : leS a c = true := by
  rw [leS_iff] at *
  rw [List.not_lt] at *
  exact List.le_trans h1 h2
theorem leS_total (a b : Str) : (leS a b || leS b a) = true := by
  rw [Bool.or_eq_true, leS_iff, leS_iff, List.not_lt, List.not_lt]
  exact List.le_total _ _
theorem leS_anti {a b : Str} (h1 : leS a b = true) (h2 : leS b a = true) : a = b := by
  rw [leS_iff, List.not_lt] at *
  have := List.le_antisymm h1 h2
  cases a
  cases b
  simp only [Str.mk.injEq]
  simpa using this
theorem rising_pw : ∀ (p : Str) (l : List Str), risingS p l = true → (p :: l).Pairwise (fun a b => leS a b = true)
  | p, [], _ => by simp
  | p, x :: r, h => by
    have h : (!ltCps x.cps.toList p.cps.toList && risingS x r) = true := h
    rw [Bool.and_eq_true] at h
    have ih := rising_pw x r h.2
    rw [List.pairwise_cons]
    refine ⟨fun b hb => ?_, ih⟩
    rcases List.mem_cons.mp hb with rfl | hb
    · exact h.1
    · exact leS_trans p x b h.1 ((List.pairwise_cons.mp ih).1 b hb)
theorem sortS_uniq {xs ys : List Str} (hp : ys.Perm xs) (hs : sortedS ys = true) : ys = sortS xs := by
  have p1 : ys.Pairwise (fun a b => leS a b = true) := by
    cases ys with
    | nil => exact .nil
    | cons y ys => exact rising_pw y ys hs
  have p2 : (sortS xs).Pairwise (fun a b => leS a b = true) := List.pairwise_mergeSort leS_trans leS_total xs
  exact List.Perm.eq_of_pairwise (fun a b _ _ h1 h2 => leS_anti h1 h2) p1 p2 (hp.trans (List.mergeSort_perm xs leS).symm)
def keysS : List (Key × Val) → Option (List Str)
  | [] => some []
  | (.inr x, _) :: r => (keysS r).map (x :: ·)
  | _ => none
theorem keysS_eq : ∀ {kvs : List (Key × Val)} {ss : List Str}, keysS kvs = some ss → kvs.map (·.1) = ss.map Sum.inr
  | [], ss, h => by cases h; rfl
  | (.inr x, _) :: r, ss, h => by
    obtain ⟨t, h1, h2⟩ := Option.map_eq_some_iff.mp h
    cases h2
    rw [List.map_cons, keysS_eq h1]
    rfl
  | (.inl x, _) :: r, _, h => by cases h
def gSorted : List Val → Sto → Option (Val × Sto) := fun xs S => match xs with
  | [.ref n] => match S[n]? with
    | some (.lst vs) => match strsOf vs with
      | some ss => if ss.length < 64 then some (.ref S.length, S ++ [.lst ((sortS ss).map Val.str)]) else none
      | none => none
    | some (.dic kvs) => match keysS kvs with
      | some ss => if ss.length < 64 then some (.ref S.length, S ++ [.lst ((sortS ss).map Val.str)]) else none
      | none => none
    | _ => none
  | _ => none
def rSortedA (K : PySem.W.Frag) : List V → Hp → VK → Prop := fun xs H Q => rSortedS K xs H Q ∨ (∃ (a : Addr) (kvs : List (Key × V)) (ks : List Str), xs = [.ref a] ∧ Rd H a (.dK kvs) ∧ kvs.map (·.1) = ks.map Sum.inr ∧ ks.length < 64 ∧
    ∀ ys p, ys.Perm ks → sortedS ys = true → H p = none → Q (.ref p) (upd H p (.lst (ys.map V.str))))
theorem call_sortedA (hc : X.calm = true) : CallR X (.builtin "sorted") (rSortedA X.K) := CallR.or cr_sortedS (call_sortedD hc)
theorem cSorted : CaA K (rSortedA K) gSorted := by
  intro m S H xs v S' us Q R ru e q
  unfold gSorted at e
  split at e
  · next n =>
    obtain ⟨u, rfl, r1⟩ := ru.one_of
    cases r1 with
    | ref hm =>
      split at e
      · next vs en =>
        split at e
        · next ss es =>
          split at e
          · next hl =>
            cases e
            obtain ⟨xs, hx, rx⟩ := R.ob _ _ _ en hm
            rw [strs_eq es] at rx
            rw [vrs_strs_inv rx] at hx
            refine .inl ⟨_, ss, rfl, SqL.of hx, hl, fun ys p h1 h2 hp => ?_⟩
            rw [sortS_uniq h1 h2]
            exact newList R (vrs_strs _) q p hp
          · cases e
        · cases e
      · next kvs en =>
        split at e
        · next ss es =>
          split at e
          · next hl =>
            cases e
            obtain ⟨xs, hx, hk, _⟩ := R.ob _ _ _ en hm
            refine .inr ⟨_, xs, ss, rfl, .inl hx, hk.trans (keysS_eq es), hl, fun ys p h1 h2 hp => ?_⟩
            rw [sortS_uniq h1 h2]
            exact newList R (vrs_strs _) q p hp
          · cases e
        · cases e
      · cases e
  · cases e
def pairK : Val → Option (Key × Val)
  | .tup [k, v] => (AL.keyOf k).map fun k => (k, v)
  | _ => none
def pairsK (vs : List Val) : Option (List (Key × Val)) := mapO pairK vs
def mergeA (kvs more : List (Key × Val)) : List (Key × Val) := more.foldl (fun acc kv => putA acc kv.1 kv.2) kvs
theorem KR.merge {H : Hp} {m : List Addr} : ∀ {ms : List (Key × V)} {ns : List (Key × Val)} {xs : List (Key × V)} {kvs : List (Key × Val)}, KR K H m ms ns → KR K H m xs kvs → KR K H m (mergeK xs ms) (mergeA kvs ns) := by
  intro ms ns
  induction ns generalizing ms with
  | nil => intro xs kvs r q; rw [r.nil_of]; exact q
  | cons y ns ih =>
    intro xs kvs r q
    obtain ⟨x, ms', rfl, e, rv, r'⟩ := r.uncons
    have h := q.put y.1 rv
    rw [← e] at h
    have g := ih r' h
    unfold mergeK mergeA at g ⊢
    rw [List.foldl_cons, List.foldl_cons, ← e]
    exact g
def gDict : List Val → Sto → Option (Val × Sto) := fun xs S => match xs with
  | [.ref n] => match S[n]? with
    | some (.lst vs) => match pairsK vs with
      | some kvs => some (.ref S.length, S ++ [.dic (mergeA [] kvs)])
      | none => none
    | _ => none
  | _ => none
theorem VRs.two_of {H : Hp} {m : List Addr} {us : List V} {v w : Val} (r : VRs K H m us [v, w]) : ∃ u z, us = [u, z] ∧ VR K H m u v ∧ VR K H m z w := by
  cases r with
  | cons a b =>
    obtain ⟨z, rfl, c⟩ := b.one_of
    exact ⟨_, z, rfl, a, c⟩
def gIndex : Val → List Val → Sto → Option (Val × Sto) := fun x xs S => match x, xs with
  | .ref n, [y] => match S[n]? with
    | some (.lst vs) => if flatA y && vs.all flatA then (vs.findIdx? fun z => eqF z y).map fun j => (.int (j : Nat), S) else none
    | _ => none
  | _, _ => none
theorem asp2' {i j : Nat} {st : Stmt} {ga : AF} (hst : PS X st (tPar i j (tFa X.K ga))) : AS X st (sPar [i, j] ga) := ps_w hst fun D σ H h => by
  obtain ⟨m, ρ, S, R, r, q⟩ := h
  unfold sPar at q
  split at q
  · next vs S1 e1 =>
    split at q
    · next ρ1 e2 =>
      refine ⟨m, ρ, S, vs, S1, R, r, e1, fun m1 us H1 E1 R1 r1 => ?_⟩
      match vs, e2, r1 with
      | [v, w], e2, .cons rv (.cons rw_ .nil) =>
        simp only [List.map_cons, List.map_nil, Pat.binds, Pat.bind, Option.bind_some] at e2
        cases e2
        exact ⟨_, _, rfl, q m1 _ H1 E1 R1 (((r.kp (E1.kp R)).set rv i).set rw_ j)⟩
      | [], e2, _ => simp [Pat.binds] at e2
      | [_], e2, _ => simp [Pat.binds, Pat.bind] at e2
      | _ :: _ :: _ :: _, e2, _ => simp [Pat.binds, Pat.bind] at e2
    · exact q.elim
  · exact q.elim
end
end AL
namespace AL
open PySem PySem.Spec PyProof.Rows L2 G Th
variable [TT]
theorem fn_aG {P : Program} {w : World} {K : PySem.W.Frag} {mg : Str → Option Value} {base : Heap} {x qual : Str} {st : Stmt} {f : Addr} {fd : FuncData} {N ps : List Str} {k : Nat} {g : SF}
    (F : Fun K x qual st f fd) (S : FnScope N ps (defScope st))
    (body : ∀ (cdv : Value) (A : Around) (outer : List Env) (s : Shared) (H : Hp) (E : XK), A.guards = some [] →
      Room k (A.deeper (envOfC qual (defScope st) s.heap.objs.size f cdv)) → ASs (cxOf CX0 P w K mg base N qual (defScope st) f cdv A outer s H E).nox (defBody st) g) {n q : Nat} (hn : N.length = n := by rfl) (hq : ps.length = q := by rfl) :
    FnG P w K mg base (k + 1) f fd ps (spA K q (runF n g)) := by
  subst hn hq
  refine fn_g F S (fun vs H Q E h => h.1) (fun cdv A outer s H us Q E hg hr h => ⟨_, body cdv A outer s H E hg hr, ?_⟩)
  obtain ⟨hl, m, S0, vs, v, S', R, r, e, q⟩ := h
  refine ⟨m, _, S0, R, rho_start N r, ?_⟩
  unfold runF at e
  split at e
  · next v' S1 e1 =>
    cases e
    rw [e1]
    exact q
  · next v' S1 e1 =>
    cases e
    rw [e1]
    exact fun m' σ' H' E' R' r' => q m' .non H' E' R' .non
  · cases e
theorem sqF_of {K : PySem.W.Frag} {H : Hp} {a : Addr} {ns : List Int} (hO : Only H) (h : SqL K H a (ns.map V.int)) : SqF K H a ns := by
  rcases h with (h | ⟨o, h⟩) | h
  · rcases hO a with z | ⟨ob, xs, z⟩ <;> (rw [h] at z; cases z)
  · exact .inl ⟨o, h⟩
  · exact .inr h
theorem rel_nil {K : PySem.W.Frag} {H : Hp} (hT : LamX.Tabs TT.T H) : Rel K [] [] H := ⟨rfl, .nil, fun n o a h => by simp at h, hT⟩
theorem hsp_t {K : PySem.W.Frag} {F : FA} (hF : ∀ ns : List Int, ns.length ≤ 63 → ∃ S', F [.scr ns] [] = some (.bl true, S')) {H : Hp} {a : Addr} {ns : List Int} {E : XK} (hl : ns.length ≤ 63) (hT : LamX.Tabs TT.T H) (hS : SqF K H a ns) : spA K 1 F [.ref a] H (fun v _ => v = .bl true) E := by
  obtain ⟨S', e⟩ := hF ns hl
  refine ⟨rfl, [], [], [.scr ns], .bl true, S', rel_nil hT, .cons (.scr hS) .nil, e, fun m' z H' _ _ r => ?_⟩
  cases r
  rfl
omit [TT] in
theorem hsp_a {K : PySem.W.Frag} {F : FA} (hF : ∀ ns : List Int, ns.length ≤ 63 → ∃ S', F [.scr ns] [] = some (.bl true, S')) {H : Hp} {a : Addr} {ns : List Int} {E : XK} (hl : ns.length ≤ 63) (hO : Only H) (hS : SqL K H a (ns.map V.int)) : @spA noTT K 1 F [.ref a] H (fun v _ => v = .bl true) E :=
  @hsp_t noTT K F hF H a ns E hl (fun p hp => by cases hp) (sqF_of hO hS)
end AL
namespace AL
open PySem PySem.Spec PyProof.Rows L2 G Th
variable [TT]
/-- all stays but what is at x -/
def Kx (x : Nat) (S S' : Sto) : Prop := ∀ (k : Nat) (o : Ob), k ≠ x → S[k]? = some o → S'[k]? = some o
def Kn (S S' : Sto) : Prop := ∀ (k : Nat) (o : Ob), S[k]? = some o → S'[k]? = some o
theorem Kn.refl (S : Sto) : Kn S S := fun _ _ h => h
theorem Kn.trans {S S1 S2 : Sto} (a : Kn S S1) (b : Kn S1 S2) : Kn S S2 := fun k o h => b k o (a k o h)
theorem Kn.app (S T : Sto) : Kn S (S ++ T) := fun k o h => by
  rw [List.getElem?_append_left (List.getElem?_eq_some_iff.mp h).1]
  exact h
theorem Kn.kx {S S' : Sto} (a : Kn S S') (x : Nat) : Kx x S S' := fun k o _ h => a k o h
theorem Kx.trans {x : Nat} {S S1 S2 : Sto} (a : Kx x S S1) (b : Kx x S1 S2) : Kx x S S2 := fun k o n h => b k o n (a k o n h)
theorem Kx.refl (x : Nat) (S : Sto) : Kx x S S := fun _ _ _ h => h
theorem Kx.put {x : Nat} {S : Sto} {o : Ob} : Kx x S (S.set x o) := fun k o' n h => by
  rw [List.getElem?_set_ne (Ne.symm n)]
  exact h
theorem Kn.len {S S' : Sto} (a : Kn S S') : S.length ≤ S'.length := by
  by_cases h : S.length = 0
  · omega
  · have l : S.length - 1 < S.length := by omega
    have := a (S.length - 1) _ (List.getElem?_eq_getElem l)
    have := (List.getElem?_eq_some_iff.mp this).1
    omega
theorem Kx.len {x : Nat} {S S' : Sto} (a : Kx x S S') (h : x + 1 < S.length) : S.length ≤ S'.length := by
  have l : S.length - 1 < S.length := by omega
  have := a (S.length - 1) _ (by omega) (List.getElem?_eq_getElem l)
  have := (List.getElem?_eq_some_iff.mp this).1
  omega
/-- a comprehension whose parts leave the store -/
theorem lcR_pure {p : Pat} {t : BF} {f : EF} {ok : Sto → Prop} {ρ : Rho} {S : Sto} (hok : ok S) (b : Val → Bool) (g : Val → Val) : ∀ (vs acc : List Val), acc.length + vs.length < 1000000 →
    (∀ v ∈ vs, ∃ ρ1, p.bind v ρ = some ρ1 ∧ t ρ1 S = some (b v, S) ∧ (b v = true → f ρ1 S = some (g v, S))) → lcR p t f ok ρ vs acc S = some (acc ++ (vs.filter b).map g, S)
  | [], acc, _, _ => by
    unfold lcR
    rw [if_pos hok]
    simp
  | v :: vs, acc, hl, h => by
    obtain ⟨ρ1, h1, h2, h3⟩ := h v (by simp)
    unfold lcR
    rw [if_pos hok, h1, Option.bind_some, h2, Option.bind_some]
    simp only [List.length_cons] at hl
    cases hb : b v with
    | true =>
      rw [h3 hb]
      simp only [if_true, Option.bind_some, show acc.length < 1000000 by omega, if_true]
      rw [lcR_pure hok b g vs (acc ++ [g v]) (by simp; omega) fun w hw => h w (by simp [hw])]
      simp [List.filter_cons, hb]
    | false =>
      simp only [Bool.false_eq_true, if_false]
      rw [lcR_pure hok b g vs acc (by omega) fun w hw => h w (by simp [hw])]
      simp [List.filter_cons, hb]
theorem forR_nil {p : Pat} {g : SF} {ok : Sto → Prop} {ρ : Rho} {S : Sto} (h : ok S) : forR p g ok [] ρ S = .nx ρ S := by
  unfold forR
  rw [if_pos h]
theorem forR_cons {p : Pat} {g : SF} {ok : Sto → Prop} {v : Val} {vs : List Val} {ρ ρ1 : Rho} {S : Sto} (h : ok S) (hb : p.bind v ρ = some ρ1) : forR p g ok (v :: vs) ρ S = (match g ρ1 S with
      | .nx ρ S => forR p g ok vs ρ S
      | .ct ρ S => forR p g ok vs ρ S
      | .bk ρ S => .nx ρ S
      | .rt v S => .rt v S
      | .stuck => .stuck) := by
  rw [forR]
  dsimp only
  rw [if_pos h, hb]
  all_goals rfl
/-- a comprehension by an invariant over what is made so far -/
theorem lcR_inv {p : Pat} {t : BF} {f : EF} {ok : Sto → Prop} {ρ : Rho} (I : Nat → List Val → Sto → Prop) (vs : List Val) (hl : vs.length < 900000) (hok : ∀ i a S, I i a S → ok S) (hlen : ∀ i a S, I i a S → a.length ≤ i)
    (step : ∀ i v a S, vs[i]? = some v → I i a S → ∃ ρ1, p.bind v ρ = some ρ1 ∧ ((∃ S1 y S2, t ρ1 S = some (true, S1) ∧ f ρ1 S1 = some (y, S2) ∧ I (i + 1) (a ++ [y]) S2) ∨ (∃ S1, t ρ1 S = some (false, S1) ∧ I (i + 1) a S1))) :
    ∀ (k : Nat) (a : List Val) (S : Sto), k ≤ vs.length → I k a S → ∃ a' S', lcR p t f ok ρ (vs.drop k) a S = some (a', S') ∧ I vs.length a' S' := by
  intro k
  induction hn : vs.length - k generalizing k with
  | zero =>
    intro a S hk h
    have e : k = vs.length := by omega
    subst e
    rw [List.drop_length]
    refine ⟨a, S, ?_, h⟩
    unfold lcR
    rw [if_pos (hok _ _ _ h)]
  | succ n ih =>
    intro a S hk h
    have l : k < vs.length := by omega
    rw [List.drop_eq_getElem_cons l]
    obtain ⟨ρ1, h1, h2⟩ := step k vs[k] a S (List.getElem?_eq_getElem l) h
    have la := hlen _ _ _ h
    rcases h2 with ⟨S1, y, S2, h2, h3, h4⟩ | ⟨S1, h2, h4⟩
    · obtain ⟨a', S', e, h5⟩ := ih (k + 1) (by omega) (a ++ [y]) S2 (by omega) h4
      refine ⟨a', S', ?_, h5⟩
      unfold lcR
      rw [if_pos (hok _ _ _ h), h1, Option.bind_some, h2, Option.bind_some]
      simp only [if_true, h3, Option.bind_some, show a.length < 1000000 by omega, if_true]
      exact e
    · obtain ⟨a', S', e, h5⟩ := ih (k + 1) (by omega) a S1 (by omega) h4
      refine ⟨a', S', ?_, h5⟩
      unfold lcR
      rw [if_pos (hok _ _ _ h), h1, Option.bind_some, h2, Option.bind_some]
      simp only [Bool.false_eq_true, if_false]
      exact e
theorem lcR_run {p : Pat} {t : BF} {f : EF} {ok : Sto → Prop} {ρ : Rho} {S : Sto} (I : Nat → List Val → Sto → Prop) {vs : List Val} (hl : vs.length < 900000) (hok : ∀ i a S, I i a S → ok S) (hlen : ∀ i a S, I i a S → a.length ≤ i) (h0 : I 0 [] S)
    (step : ∀ i v a S, vs[i]? = some v → I i a S → ∃ ρ1, p.bind v ρ = some ρ1 ∧ ((∃ S1 y S2, t ρ1 S = some (true, S1) ∧ f ρ1 S1 = some (y, S2) ∧ I (i + 1) (a ++ [y]) S2) ∨ (∃ S1, t ρ1 S = some (false, S1) ∧ I (i + 1) a S1))) :
    ∃ a' S', lcR p t f ok ρ vs [] S = some (a', S') ∧ I vs.length a' S' := by
  have := lcR_inv I vs hl hok hlen step 0 [] S (Nat.zero_le _) h0
  rwa [List.drop_zero] at this
theorem rangeV_get {lo : Int} {n i : Nat} {v : Val} (h : (rangeV lo n)[i]? = some v) : v = .int (lo + i) ∧ i < n := by
  unfold rangeV at h
  rw [List.getElem?_map] at h
  obtain ⟨k, hk, rfl⟩ := Option.map_eq_some_iff.mp h
  obtain ⟨l, rfl⟩ := List.getElem?_eq_some_iff.mp hk
  rw [List.length_range] at l
  exact ⟨by rw [List.getElem_range], l⟩
theorem rangeV_len (lo : Int) (n : Nat) : (rangeV lo n).length = n := by simp [rangeV]
end AL
namespace K37
open PySem PySem.Spec PyProof.Rows L2 G Th AL
noncomputable def common_divisor_B : SF := (sSeq (sWhile (eT (eB gNe (eV 1) (eC (.int 0)))) (sPar [0, 1] (aCons (eV 1) (aCons (eB gMod (eV 0) (eV 1)) aNil))))
    (sRet (eCall gAbs (aCons (eV 0) aNil))))
noncomputable def common_divisor_ : FA := runF 2 common_divisor_B
noncomputable def ratio_B : SF := (sSeq (sIf (eT (eB gLt (eV 1) (eC (.int 0)))) (sPar [0, 1] (aCons (eU gNeg (eV 0)) (aCons (eU gNeg (eV 1)) aNil))) sNil)
    (sSeq (sAsg (.nm 2) (eDef common_divisor_ 2 (aCons (eV 0) (aCons (eV 1) aNil))))
    (sRet (eTup (aCons (eB gDiv (eV 0) (eV 2)) (aCons (eB gDiv (eV 1) (eV 2)) aNil))))))
noncomputable def ratio_ : FA := runF 3 ratio_B
noncomputable def added_B : SF := (sRet (eDef ratio_ 2 (aCons (eB gAdd (eB gMul (eB gIxA (eV 0) (eC (.int 0))) (eB gIxA (eV 1) (eC (.int 1)))) (eB gMul (eB gIxA (eV 1) (eC (.int 0))) (eB gIxA (eV 0) (eC (.int 1))))) (aCons (eB gMul (eB gIxA (eV 0) (eC (.int 1))) (eB gIxA (eV 1) (eC (.int 1)))) aNil))))
noncomputable def added_ : FA := runF 2 added_B
noncomputable def added_told_B : SF := (sRet (eIf (bOr (eT (eB gIs (eV 0) (eC .non))) (eT (eB gIs (eV 1) (eC .non)))) (eC .non) (eDef added_ 2 (aCons (eV 0) (aCons (eV 1) aNil)))))
noncomputable def added_told_ : FA := runF 2 added_told_B
noncomputable def less_B : SF := (sRet (eDef ratio_ 2 (aCons (eB gSub (eB gMul (eB gIxA (eV 0) (eC (.int 0))) (eB gIxA (eV 1) (eC (.int 1)))) (eB gMul (eB gIxA (eV 1) (eC (.int 0))) (eB gIxA (eV 0) (eC (.int 1))))) (aCons (eB gMul (eB gIxA (eV 0) (eC (.int 1))) (eB gIxA (eV 1) (eC (.int 1)))) aNil))))
noncomputable def less_ : FA := runF 2 less_B
noncomputable def parted_B : SF := (sRet (eDef ratio_ 2 (aCons (eB gMul (eB gIxA (eV 0) (eC (.int 0))) (eB gIxA (eV 1) (eC (.int 1)))) (aCons (eB gMul (eB gIxA (eV 0) (eC (.int 1))) (eB gIxA (eV 1) (eC (.int 0)))) aNil))))
noncomputable def parted_ : FA := runF 2 parted_B
noncomputable def is_below_B : SF := (sRet (eB gLt (eB gMul (eB gIxA (eV 0) (eC (.int 0))) (eB gIxA (eV 1) (eC (.int 1)))) (eB gMul (eB gIxA (eV 1) (eC (.int 0))) (eB gIxA (eV 0) (eC (.int 1))))))
noncomputable def is_below_ : FA := runF 2 is_below_B
noncomputable def least_of_B : SF := (sSeq (sAsg (.nm 1) (eC .non))
    (sSeq (sFor (.nm 2) (iSeq (eV 0)) (sIf (bOr (eT (eB gIs (eV 1) (eC .non))) (eT (eDef is_below_ 2 (aCons (eV 2) (aCons (eV 1) aNil))))) (sAsg (.nm 1) (eV 2)) sNil))
    (sRet (eV 1))))
noncomputable def least_of_ : FA := runF 3 least_of_B
noncomputable def greatest_of_B : SF := (sSeq (sAsg (.nm 1) (eC .non))
    (sSeq (sFor (.nm 2) (iSeq (eV 0)) (sIf (bOr (eT (eB gIs (eV 1) (eC .non))) (eT (eDef is_below_ 2 (aCons (eV 1) (aCons (eV 2) aNil))))) (sAsg (.nm 1) (eV 2)) sNil))
    (sRet (eV 1))))
noncomputable def greatest_of_ : FA := runF 3 greatest_of_B
noncomputable def drift_of_B : SF := (sSeq (sFor (.tp [(.nm 2), (.nm 3), (.nm 4)]) (iSeq (eB gIxA (eV 0) (eC (.int 0)))) (sIf (eT (eB gEq (eV 2) (eV 1))) (sRet (eTup (aCons (eV 3) (aCons (eV 4) aNil)))) sNil))
    (sRet (eC .non)))
noncomputable def drift_of_ : FA := runF 5 drift_of_B
noncomputable def moves_into_B : SF := (sSeq (sAsg (.tp [(.nm 5), (.nm 6), (.nm 7)]) (eV 3))
    (sSeq (sAsg (.nm 4) (eLst aNil))
    (sSeq (sIf (eT (eB gIsN (eV 2) (eC .non))) (sSeq (sAsg (.tp [(.nm 10), (.nm 11)]) (eDef drift_of_ 2 (aCons (eV 0) (aCons (eV 5) aNil))))
    (sSeq (sAsg (.nm 8) (eDef less_ 2 (aCons (eV 6) (aCons (eB gIxA (eB gIxA (eV 1) (eV 2)) (eC (.int 1))) aNil))))
    (sExpr (eMt isL gApp (eV 4) (aCons (eTup (aCons (eV 2) (aCons (eTup (aCons (eDef parted_ 2 (aCons (eV 8) (aCons (eV 11) aNil))) (aCons (eDef parted_ 2 (aCons (eV 8) (aCons (eV 10) aNil))) aNil))) aNil))) aNil))))) sNil)
    (sSeq (sIf (eT (eB gEq (eB gIxA (eV 7) (eC (.int 0))) (eC (.str "hear")))) (sSeq (sAsg (.nm 9) (eB gIxA (eB gIxA (eV 1) (eB gIxA (eV 7) (eC (.int 1)))) (eC (.int 2))))
    (sExpr (eMt isL gApp (eV 4) (aCons (eTup (aCons (eB gIxA (eV 7) (eC (.int 1))) (aCons (eSl gSl (eB gIxA (eB gIxA (eV 0) (eC (.int 1))) (eB gIxA (eV 9) (eC (.int 1)))) (oS (eC (.int 2))) oN) aNil))) aNil)))) sNil)
    (sRet (eV 4))))))
noncomputable def moves_into_ : FA := runF 12 moves_into_B
noncomputable def history_moves_B : SF := (sSeq (sAsg (.tp [(.nm 3), (.nm 4)]) (eV 0))
    (sSeq (sAsg (.nm 1) eDic)
    (sSeq (sAsg (.nm 2) (eLst aNil))
    (sSeq (sFor (.tp [(.nm 5), (.nm 6)]) (iEn (aCons (eV 4) aNil)) (sSeq (sExpr (eMt isL gApp (eV 2) (aCons (eDef moves_into_ 4 (aCons (eV 3) (aCons (eV 4) (aCons (eGet1 (eV 1) (eB gIxA (eV 6) (eC (.int 0)))) (aCons (eV 6) aNil))))) aNil)))
    (sSub gSetA (eV 1) (eB gIxA (eV 6) (eC (.int 0))) (eV 5))))
    (sRet (eV 2))))))
noncomputable def history_moves_ : FA := runF 7 history_moves_B
noncomputable def moved_end_B : SF := (sSeq (sAsg (.tp [(.nm 3), (.nm 4)]) (eV 0))
    (sRet (eDef added_told_ 2 (aCons (eB gIxA (eB gIxA (eV 1) (eV 3)) (eV 2)) (aCons (eB gIxA (eV 4) (eV 2)) aNil)))))
noncomputable def moved_end_ : FA := runF 5 moved_end_B
noncomputable def ends_told_B : SF := (sSeq (sAsg (.nm 3) (eLc (.nm 4) (iSeq (eV 0)) bYes (eDef moved_end_ 3 (aCons (eV 4) (aCons (eV 1) (aCons (eV 2) aNil)))) [4]))
    (sRet (eLc (.nm 5) (iSeq (eV 3)) (eT (eB gIsN (eV 5) (eC .non))) (eV 5) [5])))
noncomputable def ends_told_ : FA := runF 6 ends_told_B
noncomputable def kept_pair_B : SF := (sSeq (sAsg (.tp [(.nm 4), (.nm 5), (.nm 6)]) (eV 1))
    (sSeq (sIf (eT (eB gEq (eV 4) (eB gIxA (eV 0) (eC (.int 2))))) (sRet (eTup (aCons (eV 5) (aCons (eV 5) aNil)))) sNil)
    (sRet (eTup (aCons (eDef greatest_of_ 1 (aCons (eDef ends_told_ 3 (aCons (eV 2) (aCons (eV 3) (aCons (eC (.int 0)) aNil)))) aNil)) (aCons (eDef least_of_ 1 (aCons (eDef ends_told_ 3 (aCons (eV 2) (aCons (eV 3) (aCons (eC (.int 1)) aNil)))) aNil)) aNil))))))
noncomputable def kept_pair_ : FA := runF 7 kept_pair_B
noncomputable def kept_pairs_B : SF := (sSeq (sAsg (.tp [(.nm 2), (.nm 3)]) (eV 0))
    (sSeq (sAsg (.nm 1) (eLst aNil))
    (sSeq (sFor (.tp [(.nm 4), (.nm 5)]) (iZp (aCons (eV 3) (aCons (eDef history_moves_ 1 (aCons (eV 0) aNil)) aNil))) (sExpr (eMt isL gApp (eV 1) (aCons (eDef kept_pair_ 4 (aCons (eV 2) (aCons (eV 4) (aCons (eV 5) (aCons (eV 1) aNil))))) aNil))))
    (sRet (eCall gTuple (aCons (eV 1) aNil))))))
noncomputable def kept_pairs_ : FA := runF 6 kept_pairs_B
noncomputable def is_void_B : SF := (sSeq (sAsg (.tp [(.nm 1), (.nm 2)]) (eV 0))
    (sRet (eAnd (eB gIsN (eV 1) (eC .non)) (eAnd (eB gIsN (eV 2) (eC .non)) (eDef is_below_ 2 (aCons (eV 2) (aCons (eV 1) aNil)))))))
noncomputable def is_void_ : FA := runF 3 is_void_B
noncomputable def first_void_B : SF := (sSeq (sFor (.tp [(.nm 1), (.nm 2)]) (iEn (aCons (eDef kept_pairs_ 1 (aCons (eV 0) aNil)) aNil)) (sIf (eT (eDef is_void_ 1 (aCons (eV 2) aNil))) (sRet (eV 1)) sNil))
    (sRet (eC .non)))
noncomputable def first_void_ : FA := runF 3 first_void_B
noncomputable def tapeL_B : SF := (sRet (eLst (aCons (eSl gSl (eV 0) oN (oS (eC (.int 63)))) (aCons (eC (.int 0)) (aCons (eC (.int 0)) (aCons (eC (.int 0)) aNil))))))
noncomputable def tapeL_ : FA := runF 1 tapeL_B
noncomputable def drawL_B : SF := (sSeq (sAsg (.nm 2) (eB gAdd (eB gIxA (eV 0) (eC (.int 3))) (eC (.int 1))))
    (sSeq (sSub gSetA (eV 0) (eC (.int 3)) (eV 2))
    (sSeq (sIf (eT (eB gGt (eB gIxA (eV 0) (eC (.int 2))) (eC (.int 0)))) (sSeq (sAsg (.nm 6) (eB gMod (eB gIxA (eV 0) (eC (.int 2))) (eV 1)))
    (sSeq (sSub gSetA (eV 0) (eC (.int 2)) (eB gDiv (eB gIxA (eV 0) (eC (.int 2))) (eV 1)))
    (sRet (eV 6)))) sNil)
    (sSeq (sAsg (.nm 3) (eB gIxA (eV 0) (eC (.int 1))))
    (sSeq (sSub gSetA (eV 0) (eC (.int 1)) (eB gAdd (eV 3) (eC (.int 1))))
    (sSeq (sAsg (.nm 4) (eIf (eT (eB gNe (eB gIxA (eV 0) (eC (.int 0))) (eLst aNil))) (eB gIxA (eB gIxA (eV 0) (eC (.int 0))) (eB gMod (eV 3) (eCall gLen (aCons (eB gIxA (eV 0) (eC (.int 0))) aNil)))) (eC (.int 10))))
    (sSeq (sIf (bAnd (eT (eB gGe (eV 4) (eB gPow (eC (.int 10)) (eC (.int 18))))) (eT (eB gLt (eV 3) (eCall gLen (aCons (eB gIxA (eV 0) (eC (.int 0))) aNil))))) (sSeq (sSub gSetA (eV 0) (eC (.int 2)) (eB gDiv (eV 4) (eV 1)))
    (sRet (eB gMod (eV 4) (eV 1)))) sNil)
    (sSeq (sAsg (.nm 5) (eB gMod (eB gPow (eB gAdd (eB gAdd (eB gMod (eV 4) (eC (.int 1000099))) (eB gMul (eC (.int 5309)) (eV 2))) (eC (.int 53))) (eC (.int 5))) (eC (.int 2147483647))))
    (sRet (eB gMod (eB gDiv (eB gMod (eB gPow (eB gAdd (eV 5) (eB gMul (eC (.int 90001)) (eV 2))) (eC (.int 5))) (eC (.int 2147483587))) (eC (.int 64))) (eV 1)))))))))))
noncomputable def drawL_ : FA := runF 7 drawL_B
noncomputable def lowL_B : SF := (sSeq (sPar [2, 3] (aCons (eCall gAbs (aCons (eV 0) aNil)) (aCons (eV 1) aNil)))
    (sSeq (sWhile (eT (eB gGt (eV 3) (eC (.int 0)))) (sPar [2, 3] (aCons (eV 3) (aCons (eB gMod (eV 2) (eV 3)) aNil))))
    (sRet (eTup (aCons (eB gDiv (eV 0) (eV 2)) (aCons (eB gDiv (eV 1) (eV 2)) aNil))))))
noncomputable def lowL_ : FA := runF 4 lowL_B
noncomputable def plusL_B : SF := (sRet (eDef lowL_ 2 (aCons (eB gAdd (eB gMul (eB gIxA (eV 0) (eC (.int 0))) (eB gIxA (eV 1) (eC (.int 1)))) (eB gMul (eB gIxA (eV 1) (eC (.int 0))) (eB gIxA (eV 0) (eC (.int 1))))) (aCons (eB gMul (eB gIxA (eV 0) (eC (.int 1))) (eB gIxA (eV 1) (eC (.int 1)))) aNil))))
noncomputable def plusL_ : FA := runF 2 plusL_B
noncomputable def minusL_B : SF := (sRet (eDef lowL_ 2 (aCons (eB gSub (eB gMul (eB gIxA (eV 0) (eC (.int 0))) (eB gIxA (eV 1) (eC (.int 1)))) (eB gMul (eB gIxA (eV 1) (eC (.int 0))) (eB gIxA (eV 0) (eC (.int 1))))) (aCons (eB gMul (eB gIxA (eV 0) (eC (.int 1))) (eB gIxA (eV 1) (eC (.int 1)))) aNil))))
noncomputable def minusL_ : FA := runF 2 minusL_B
noncomputable def byL_B : SF := (sRet (eDef lowL_ 2 (aCons (eB gMul (eB gIxA (eV 0) (eC (.int 0))) (eB gIxA (eV 1) (eC (.int 0)))) (aCons (eB gMul (eB gIxA (eV 0) (eC (.int 1))) (eB gIxA (eV 1) (eC (.int 1)))) aNil))))
noncomputable def byL_ : FA := runF 2 byL_B
noncomputable def overL_B : SF := (sRet (eDef lowL_ 2 (aCons (eB gMul (eB gIxA (eV 0) (eC (.int 0))) (eB gIxA (eV 1) (eC (.int 1)))) (aCons (eB gMul (eB gIxA (eV 0) (eC (.int 1))) (eB gIxA (eV 1) (eC (.int 0)))) aNil))))
noncomputable def overL_ : FA := runF 2 overL_B
noncomputable def is_lessL_B : SF := (sRet (eB gLt (eB gMul (eB gIxA (eV 0) (eC (.int 0))) (eB gIxA (eV 1) (eC (.int 1)))) (eB gMul (eB gIxA (eV 1) (eC (.int 0))) (eB gIxA (eV 0) (eC (.int 1))))))
noncomputable def is_lessL_ : FA := runF 2 is_lessL_B
noncomputable def fieldL_B : SF := (sSeq (sAsg (.nm 1) (eLst (aCons (eC (.str "a")) (aCons (eC (.str "ab")) (aCons (eC (.str "b")) (aCons (eC (.str "c")) (aCons (eC (.str "src")) (aCons (eC (.str "zzzzzzzz")) aNil))))))))
    (sSeq (sAsg (.nm 2) (eCall gSorted (aCons (eLc (.nm 4) (iRg1 (aCons (eB gAdd (eC (.int 1)) (eDef drawL_ 2 (aCons (eV 0) (aCons (eC (.int 6)) aNil)))) aNil)) bYes (eMt isL gPop (eV 1) (aCons (eDef drawL_ 2 (aCons (eV 0) (aCons (eCall gLen (aCons (eV 1) aNil)) aNil))) aNil)) [4]) aNil)))
    (sSeq (sPar [5, 6, 7] (aCons (eB gIxA (eV 2) (eDef drawL_ 2 (aCons (eV 0) (aCons (eCall gLen (aCons (eV 2) aNil)) aNil)))) (aCons (eLst aNil) (aCons (eLst aNil) aNil))))
    (sSeq (sFor (.nm 3) (iSeq (eV 2)) (sSeq (sAsg (.nm 8) (eB gIxA (eLst (aCons (eTup (aCons (eC (.int 1)) (aCons (eC (.int 1)) aNil))) (aCons (eTup (aCons (eC (.int 1)) (aCons (eC (.int 2)) aNil))) (aCons (eTup (aCons (eC (.int 3)) (aCons (eC (.int 4)) aNil))) aNil)))) (eDef drawL_ 2 (aCons (eV 0) (aCons (eC (.int 3)) aNil)))))
    (sSeq (sAsg (.nm 9) (eB gIxA (eLst (aCons (eTup (aCons (eC (.int 1)) (aCons (eC (.int 1)) aNil))) (aCons (eTup (aCons (eC (.int 5)) (aCons (eC (.int 4)) aNil))) (aCons (eTup (aCons (eC (.int 3)) (aCons (eC (.int 2)) aNil))) (aCons (eTup (aCons (eC (.int 2)) (aCons (eC (.int 1)) aNil))) aNil))))) (eDef drawL_ 2 (aCons (eV 0) (aCons (eC (.int 4)) aNil)))))
    (sExpr (eMt isL gApp (eV 6) (aCons (eIf (eT (eB gNe (eV 3) (eV 5))) (eTup (aCons (eV 3) (aCons (eV 8) (aCons (eV 9) aNil)))) (eTup (aCons (eV 3) (aCons (eTup (aCons (eC (.int 1)) (aCons (eC (.int 1)) aNil))) (aCons (eTup (aCons (eC (.int 1)) (aCons (eC (.int 1)) aNil))) aNil))))) aNil))))))
    (sSeq (sFor (.nm 4) (iRg1 (aCons (eIf (eT (eB gGt (eCall gLen (aCons (eV 2) aNil)) (eC (.int 1)))) (eDef drawL_ 2 (aCons (eV 0) (aCons (eC (.int 9)) aNil))) (eC (.int 0))) aNil)) (sSeq (sAsg (.nm 10) (eDef drawL_ 2 (aCons (eV 0) (aCons (eCall gLen (aCons (eV 2) aNil)) aNil))))
    (sSeq (sAsg (.nm 11) (eB gMod (eB gAdd (eB gAdd (eV 10) (eC (.int 1))) (eDef drawL_ 2 (aCons (eV 0) (aCons (eB gSub (eCall gLen (aCons (eV 2) aNil)) (eC (.int 1))) aNil)))) (eCall gLen (aCons (eV 2) aNil))))
    (sSeq (sIf (bAnd (eT (eB gEq (eDef drawL_ 2 (aCons (eV 0) (aCons (eC (.int 2)) aNil))) (eC (.int 0)))) (eT (eB gNe (eB gIxA (eV 2) (eV 10)) (eV 5)))) (sPar [10, 11] (aCons (eMt isL gIndex (eV 2) (aCons (eV 5) aNil)) (aCons (eV 10) aNil))) sNil)
    (sSeq (sAsg (.nm 12) (eB gIxA (eLst (aCons (eTup (aCons (eC (.int 0)) (aCons (eC (.int 1)) aNil))) (aCons (eTup (aCons (eC (.int 1)) (aCons (eC (.int 2)) aNil))) (aCons (eTup (aCons (eC (.int 1)) (aCons (eC (.int 1)) aNil))) (aCons (eTup (aCons (eC (.int 2)) (aCons (eC (.int 1)) aNil))) aNil))))) (eDef drawL_ 2 (aCons (eV 0) (aCons (eC (.int 4)) aNil)))))
    (sSeq (sAsg (.nm 13) (eB gIxA (eLst (aCons (eC .non) (aCons (eTup (aCons (eC (.int 0)) (aCons (eC (.int 1)) aNil))) (aCons (eTup (aCons (eC (.int 1)) (aCons (eC (.int 1)) aNil))) (aCons (eTup (aCons (eC (.int 3)) (aCons (eC (.int 1)) aNil))) aNil))))) (eDef drawL_ 2 (aCons (eV 0) (aCons (eC (.int 4)) aNil)))))
    (sExpr (eMt isL gApp (eV 7) (aCons (eTup (aCons (eB gIxA (eV 2) (eV 10)) (aCons (eB gIxA (eV 2) (eV 11)) (aCons (eV 12) (aCons (eIf (eT (eB gIs (eV 13) (eC .non))) (eC .non) (eDef plusL_ 2 (aCons (eV 12) (aCons (eV 13) aNil)))) aNil))))) aNil)))))))))
    (sRet (eTup (aCons (eCall gTuple (aCons (eV 6) aNil)) (aCons (eCall gTuple (aCons (eV 7) aNil)) (aCons (eV 5) aNil))))))))))
noncomputable def fieldL_ : FA := runF 14 fieldL_B
noncomputable def can_hearL_B : SF := (sSeq (sAsg (.nm 5) (eLst aNil))
    (sSeq (sFor (.nm 6) (iRg1 (aCons (eCall gLen (aCons (eV 1) aNil)) aNil)) (sIf (eT (eB gEq (eB gIxA (eB gIxA (eB gIxA (eV 1) (eV 6)) (eC (.int 2))) (eC (.int 0))) (eC (.str "send")))) (sSeq (sPar [7, 8] (aCons (eB gIxA (eB gIxA (eV 0) (eC (.int 1))) (eB gIxA (eB gIxA (eB gIxA (eV 1) (eV 6)) (eC (.int 2))) (eC (.int 1)))) (aCons (eTup (aCons (eB gSub (eV 4) (eB gIxA (eV 2) (eV 6))) (aCons (eC (.int 1)) aNil))) aNil)))
    (sIf (bAnd (eT (eB gEq (eB gIxA (eV 7) (eC (.int 1))) (eV 3))) (bNot (eT (eDef is_lessL_ 2 (aCons (eV 8) (aCons (eB gIxA (eV 7) (eC (.int 2))) aNil)))))) (sIf (bOr (eT (eB gIs (eB gIxA (eV 7) (eC (.int 3))) (eC .non))) (bNot (eT (eDef is_lessL_ 2 (aCons (eB gIxA (eV 7) (eC (.int 3))) (aCons (eV 8) aNil)))))) (sExpr (eMt isL gApp (eV 5) (aCons (eV 6) aNil))) sNil) sNil)) sNil))
    (sRet (eV 5))))
noncomputable def can_hearL_ : FA := runF 9 can_hearL_B
noncomputable def deedL_B : SF := (sSeq (sPar [4, 5] (aCons (eDef drawL_ 2 (aCons (eV 0) (aCons (eC (.int 5)) aNil))) (aCons (eLc (.nm 6) (iRg1 (aCons (eCall gLen (aCons (eB gIxA (eV 1) (eC (.int 1))) aNil)) aNil)) (eT (eB gEq (eB gIxA (eB gIxA (eB gIxA (eV 1) (eC (.int 1))) (eV 6)) (eC (.int 0))) (eV 2))) (eV 6) [6]) aNil)))
    (sSeq (sIf (bAnd (eT (eB gGt (eV 4) (eC (.int 1)))) (eT (eB gNe (eV 3) (eLst aNil)))) (sRet (eTup (aCons (eC (.str "hear")) (aCons (eB gIxA (eV 3) (eDef drawL_ 2 (aCons (eV 0) (aCons (eCall gLen (aCons (eV 3) aNil)) aNil)))) aNil)))) sNil)
    (sRet (eIf (bAnd (eT (eB gNe (eV 4) (eC (.int 1)))) (eT (eB gNe (eV 5) (eLst aNil)))) (eTup (aCons (eC (.str "send")) (aCons (eB gIxA (eV 5) (eDef drawL_ 2 (aCons (eV 0) (aCons (eCall gLen (aCons (eV 5) aNil)) aNil)))) aNil))) (eTup (aCons (eC (.str "mark")) aNil))))))
noncomputable def deedL_ : FA := runF 7 deedL_B
noncomputable def livedL_B : SF := (sSeq (sAsg (.nm 3) (eCall gDict (aCons (eLc (.nm 18) (iSeq (eB gIxA (eV 1) (eC (.int 0)))) bYes (eTup (aCons (eB gIxA (eV 18) (eC (.int 0))) (aCons (eSl gSl (eV 18) (oS (eC (.int 1))) oN) aNil))) [18]) aNil)))
    (sSeq (sPar [6, 7, 8] (aCons (eCall gSorted (aCons (eV 3) aNil)) (aCons eDic (aCons (eC (.int 0)) aNil))))
    (sSeq (sAsg (.tp [(.nm 9), (.nm 10), (.nm 11)]) (eTup (aCons (eLst aNil) (aCons (eLst aNil) (aCons (eB gSub (eDef drawL_ 2 (aCons (eV 0) (aCons (eC (.int 20)) aNil))) (eC (.int 10))) aNil)))))
    (sSeq (sFor (.nm 4) (iSeq (eV 6)) (sSub gSetA (eV 7) (eV 4) (eTup (aCons (eC (.int 0)) (aCons (eIf (eT (eB gNe (eV 4) (eB gIxA (eV 1) (eC (.int 2))))) (eTup (aCons (eB gSub (eDef drawL_ 2 (aCons (eV 0) (aCons (eC (.int 20)) aNil))) (eC (.int 10))) (aCons (eC (.int 1)) aNil))) (eTup (aCons (eV 11) (aCons (eC (.int 1)) aNil)))) aNil)))))
    (sSeq (sFor (.nm 5) (iRg1 (aCons (eV 2) aNil)) (sSeq (sAsg (.nm 8) (eB gAdd (eV 8) (eDef drawL_ 2 (aCons (eV 0) (aCons (eC (.int 3)) aNil)))))
    (sSeq (sAsg (.nm 12) (eB gIxA (eV 6) (eDef drawL_ 2 (aCons (eV 0) (aCons (eCall gLen (aCons (eV 6) aNil)) aNil)))))
    (sSeq (sAsg (.tp [(.nm 16), (.nm 17)]) (eB gIxA (eV 3) (eV 12)))
    (sSeq (sAsg (.nm 13) (eB gIxA (eLst (aCons (eV 16) (aCons (eV 17) (aCons (eTup (aCons (eC (.int 1)) (aCons (eC (.int 1)) aNil))) aNil)))) (eDef drawL_ 2 (aCons (eV 0) (aCons (eC (.int 3)) aNil)))))
    (sSeq (sAsg (.nm 14) (eDef plusL_ 2 (aCons (eB gIxA (eB gIxA (eV 7) (eV 12)) (eC (.int 1))) (aCons (eDef byL_ 2 (aCons (eV 13) (aCons (eTup (aCons (eB gSub (eV 8) (eB gIxA (eB gIxA (eV 7) (eV 12)) (eC (.int 0)))) (aCons (eC (.int 1)) aNil))) aNil))) aNil))))
    (sSeq (sAsg (.nm 15) (eDef can_hearL_ 5 (aCons (eV 1) (aCons (eV 9) (aCons (eV 10) (aCons (eV 12) (aCons (eV 8) aNil)))))))
    (sSeq (sExpr (eMt isL gApp (eV 9) (aCons (eTup (aCons (eV 12) (aCons (eV 14) (aCons (eDef deedL_ 4 (aCons (eV 0) (aCons (eV 1) (aCons (eV 12) (aCons (eV 15) aNil))))) aNil)))) aNil)))
    (sSeq (sExpr (eMt isL gApp (eV 10) (aCons (eV 8) aNil)))
    (sSub gSetA (eV 7) (eV 12) (eTup (aCons (eV 8) (aCons (eV 14) aNil)))))))))))))
    (sRet (eTup (aCons (eTup (aCons (eV 1) (aCons (eCall gTuple (aCons (eV 9) aNil)) aNil))) (aCons (eLc (.nm 19) (iSeq (eV 10)) bYes (eTup (aCons (eB gAdd (eV 11) (eV 19)) (aCons (eC (.int 1)) aNil))) [19]) aNil)))))))))
noncomputable def livedL_ : FA := runF 20 livedL_B
noncomputable def wildL_B : SF := (sSeq (sPar [4, 5, 6] (aCons (eLc (.nm 11) (iSeq (eB gIxA (eV 1) (eC (.int 0)))) bYes (eB gIxA (eV 11) (eC (.int 0))) [11]) (aCons eDic (aCons (eLst aNil) aNil))))
    (sSeq (sFor (.nm 3) (iRg1 (aCons (eV 2) aNil)) (sSeq (sAsg (.nm 7) (eB gIxA (eV 4) (eDef drawL_ 2 (aCons (eV 0) (aCons (eCall gLen (aCons (eV 4) aNil)) aNil)))))
    (sSeq (sAsg (.nm 8) (eB gIxA (eLst (aCons (eTup (aCons (eC (.int 0)) (aCons (eC (.int 1)) aNil))) (aCons (eTup (aCons (eC (.int 1)) (aCons (eC (.int 1)) aNil))) (aCons (eTup (aCons (eC (.int 1)) (aCons (eC (.int 2)) aNil))) (aCons (eTup (aCons (eC (.int 3)) (aCons (eC (.int 1)) aNil))) aNil))))) (eDef drawL_ 2 (aCons (eV 0) (aCons (eC (.int 4)) aNil)))))
    (sSeq (sSub gSetA (eV 5) (eV 7) (eDef plusL_ 2 (aCons (eGet2 (eV 5) (eV 7) (eTup (aCons (eB gSub (eDef drawL_ 2 (aCons (eV 0) (aCons (eC (.int 20)) aNil))) (eC (.int 10))) (aCons (eC (.int 1)) aNil)))) (aCons (eV 8) aNil))))
    (sSeq (sAsg (.nm 9) (eLst aNil))
    (sSeq (sFor (.nm 10) (iRg1 (aCons (eCall gLen (aCons (eV 6) aNil)) aNil)) (sIf (bAnd (eT (eB gEq (eB gIxA (eB gIxA (eB gIxA (eV 6) (eV 10)) (eC (.int 2))) (eC (.int 0))) (eC (.str "send")))) (eT (eB gEq (eB gIxA (eB gIxA (eB gIxA (eV 1) (eC (.int 1))) (eB gIxA (eB gIxA (eB gIxA (eV 6) (eV 10)) (eC (.int 2))) (eC (.int 1)))) (eC (.int 1))) (eV 7)))) (sExpr (eMt isL gApp (eV 9) (aCons (eV 10) aNil))) sNil))
    (sExpr (eMt isL gApp (eV 6) (aCons (eTup (aCons (eV 7) (aCons (eB gIxA (eV 5) (eV 7)) (aCons (eDef deedL_ 4 (aCons (eV 0) (aCons (eV 1) (aCons (eV 7) (aCons (eV 9) aNil))))) aNil)))) aNil)))))))))
    (sRet (eTup (aCons (eV 1) (aCons (eCall gTuple (aCons (eV 6) aNil)) aNil))))))
noncomputable def wildL_ : FA := runF 12 wildL_B
noncomputable def keptL_B : SF := (sSeq (sAsg (.tp [(.nm 2), (.nm 3)]) (eV 0))
    (sSeq (sAsg (.nm 1) (eCall gDict (aCons (eLc (.nm 15) (iSeq (eB gIxA (eV 2) (eC (.int 0)))) bYes (eTup (aCons (eB gIxA (eV 15) (eC (.int 0))) (aCons (eSl gSl (eV 15) (oS (eC (.int 1))) oN) aNil))) [15]) aNil)))
    (sSeq (sPar [4, 5] (aCons eDic (aCons (eLst aNil) aNil)))
    (sSeq (sFor (.tp [(.nm 6), (.nm 7), (.nm 8)]) (iSeq (eV 3)) (sSeq (sAsg (.tp [(.nm 9), (.nm 10)]) (eB gIxA (eV 1) (eV 6)))
    (sSeq (sAsg (.tp [(.nm 11), (.nm 12)]) (eTup (aCons (eC .non) (aCons (eC .non) aNil))))
    (sSeq (sIf (eT (eB (gIn false) (eV 6) (eV 4))) (sSeq (sAsg (.tp [(.tp [(.nm 11), (.nm 12)]), (.nm 16)]) (eB gIxA (eV 4) (eV 6)))
    (sSeq (sAsg (.nm 13) (eDef minusL_ 2 (aCons (eV 7) (aCons (eV 16) aNil))))
    (sSeq (sAsg (.nm 11) (eIf (eT (eB gIs (eV 11) (eC .non))) (eC .non) (eDef plusL_ 2 (aCons (eV 11) (aCons (eDef overL_ 2 (aCons (eV 13) (aCons (eV 10) aNil))) aNil)))))
    (sAsg (.nm 12) (eIf (eT (eB gIs (eV 12) (eC .non))) (eC .non) (eDef plusL_ 2 (aCons (eV 12) (aCons (eDef overL_ 2 (aCons (eV 13) (aCons (eV 9) aNil))) aNil)))))))) sNil)
    (sSeq (sIf (eT (eB gEq (eB gIxA (eV 8) (eC (.int 0))) (eC (.str "hear")))) (sSeq (sPar [17, 18] (aCons (eB gIxA (eB gIxA (eB gIxA (eV 3) (eB gIxA (eV 8) (eC (.int 1)))) (eC (.int 2))) (eC (.int 1))) (aCons (eB gIxA (eV 5) (eB gIxA (eV 8) (eC (.int 1)))) aNil)))
    (sSeq (sAsg (.nm 14) (eB gIxA (eB gIxA (eV 2) (eC (.int 1))) (eV 17)))
    (sSeq (sIf (eT (eB gIsN (eB gIxA (eV 18) (eC (.int 0))) (eC .non))) (sSeq (sAsg (.nm 19) (eDef plusL_ 2 (aCons (eB gIxA (eV 18) (eC (.int 0))) (aCons (eB gIxA (eV 14) (eC (.int 2))) aNil))))
    (sIf (bOr (eT (eB gIs (eV 11) (eC .non))) (eT (eDef is_lessL_ 2 (aCons (eV 11) (aCons (eV 19) aNil))))) (sAsg (.nm 11) (eV 19)) sNil)) sNil)
    (sIf (bAnd (eT (eB gIsN (eB gIxA (eV 18) (eC (.int 1))) (eC .non))) (eT (eB gIsN (eB gIxA (eV 14) (eC (.int 3))) (eC .non)))) (sSeq (sAsg (.nm 19) (eDef plusL_ 2 (aCons (eB gIxA (eV 18) (eC (.int 1))) (aCons (eB gIxA (eV 14) (eC (.int 3))) aNil))))
    (sIf (bOr (eT (eB gIs (eV 12) (eC .non))) (eT (eDef is_lessL_ 2 (aCons (eV 19) (aCons (eV 12) aNil))))) (sAsg (.nm 12) (eV 19)) sNil)) sNil)))) sNil)
    (sSeq (sIf (eT (eB gEq (eV 6) (eB gIxA (eV 2) (eC (.int 2))))) (sPar [11, 12] (aCons (eV 7) (aCons (eV 7) aNil))) sNil)
    (sSeq (sExpr (eMt isL gApp (eV 5) (aCons (eTup (aCons (eV 11) (aCons (eV 12) aNil))) aNil)))
    (sSub gSetA (eV 4) (eV 6) (eTup (aCons (eTup (aCons (eV 11) (aCons (eV 12) aNil))) (aCons (eV 7) aNil)))))))))))
    (sRet (eV 5))))))
noncomputable def keptL_ : FA := runF 20 keptL_B
noncomputable def is_voidL_B : SF := (sRet (eAnd (eB gIsN (eB gIxA (eV 0) (eC (.int 0))) (eC .non)) (eAnd (eB gIsN (eB gIxA (eV 0) (eC (.int 1))) (eC .non)) (eDef is_lessL_ 2 (aCons (eB gIxA (eV 0) (eC (.int 1))) (aCons (eB gIxA (eV 0) (eC (.int 0))) aNil))))))
noncomputable def is_voidL_ : FA := runF 1 is_voidL_B
noncomputable def law_B : SF := (sSeq (sAsg (.nm 1) (eDef tapeL_ 1 (aCons (eV 0) aNil)))
    (sSeq (sAsg (.nm 2) (eDef fieldL_ 1 (aCons (eV 1) aNil)))
    (sSeq (sAsg (.tp [(.nm 5), (.nm 6)]) (eDef livedL_ 3 (aCons (eV 1) (aCons (eV 2) (aCons (eC (.int 30)) aNil)))))
    (sSeq (sAsg (.nm 3) (eLst (aCons (eV 5) (aCons (eDef wildL_ 3 (aCons (eV 1) (aCons (eV 2) (aCons (eDef drawL_ 2 (aCons (eV 1) (aCons (eC (.int 31)) aNil))) aNil)))) (aCons (eDef wildL_ 3 (aCons (eV 1) (aCons (eDef fieldL_ 1 (aCons (eV 1) aNil)) (aCons (eC (.int 12)) aNil)))) aNil)))))
    (sSeq (sExpr (eMt isL gApp (eV 3) (aCons (eTup (aCons (eV 2) (aCons (eTup aNil) aNil))) aNil)))
    (sSeq (sFor (.nm 4) (iSeq (eV 3)) (sSeq (sAsg (.tp [(.nm 8), (.nm 9)]) (eTup (aCons (eCall gRepr (aCons (eV 4) aNil)) (aCons (eDef keptL_ 1 (aCons (eV 4) aNil)) aNil))))
    (sSeq (sIf (eT (eB gNe (eCall gRepr (aCons (eDef kept_pairs_ 1 (aCons (eV 4) aNil)) aNil)) (eCall gRepr (aCons (eCall gTuple (aCons (eV 9) aNil)) aNil)))) (sRet (eC (.bl false))) sNil)
    (sSeq (sAsg (.nm 7) (eLc (.nm 10) (iRg1 (aCons (eCall gLen (aCons (eV 9) aNil)) aNil)) (eT (eDef is_voidL_ 1 (aCons (eB gIxA (eV 9) (eV 10)) aNil))) (eV 10) [10]))
    (sIf (bOr (eT (eB gNe (eCall gRepr (aCons (eDef first_void_ 1 (aCons (eV 4) aNil)) aNil)) (eCall gRepr (aCons (eIf (eT (eB gNe (eV 7) (eLst aNil))) (eB gIxA (eV 7) (eC (.int 0))) (eC .non)) aNil)))) (eT (eB gNe (eCall gRepr (aCons (eV 4) aNil)) (eV 8)))) (sRet (eC (.bl false))) sNil)))))
    (sRet (eC (.bl true)))))))))
noncomputable def law_ : FA := runF 11 law_B
end K37
namespace AL
open PySem PySem.Spec PyProof.Rows L2 G Th
variable [TT]
/-- xs * k -/
def gRep : Val → Val → Sto → Option (Val × Sto) := fun x y S => match x, y with
  | .ref n, .int k => match S[n]? with
    | some (.lst vs) => if -(2 ^ 63) ≤ k ∧ k < 2 ^ 63 ∧ vs.length * k.toNat ≤ 1000000 then some (.ref S.length, S ++ [.lst (List.replicate k.toNat vs).flatten]) else none
    | _ => none
  | _, _ => none
/-- a value that stands behind the top, the same in every store -/
def CV (K : PySem.W.Frag) (u : Value) (v : Val) : Prop := ∃ uv : V, RelV uv u ∧ ∀ (H : Hp) (m : List Addr), VR K H m uv v
section
variable {K : PySem.W.Frag}
theorem cv_int {i : Int} {t : Nat} : CV K (.int i t) (.int i) := ⟨.int i, ⟨t, rfl⟩, fun _ _ => .int i⟩
theorem cv_str {x : Str} {t : Nat} : CV K (.str x t) (.str x) := ⟨.str x, ⟨t, rfl⟩, fun _ _ => .str x⟩
end
/-- a module's constant -/
def Cst (K : PySem.W.Frag) (mg : Str → Option Value) (x : Str) (v : Val) : Prop := ∃ u : Value, mg x = some u ∧ CV K u v
section
variable {X : Cx} {e : Expr} {es : List Expr} {kws : List Keyword} {pos p : Pos} {f : EF} {ga gk : AF} {nm : Option Str} {kpos : Pos} {st : Stmt}
theorem aglb {x : Str} {v : Val} (c : Cst X.K X.mg x v) (hg : Gl X x) (hd : (x == ("__debug__" : Str)) = false := by decide) : AE X (.Name x pos) (eC v) := by
  obtain ⟨u, h1, uv, h2, h3⟩ := c
  exact ac (pe_glob hg h1 h2 hd) h3
/-- never come to -/
def sStuck : SF := fun _ _ => .stuck
end
def eDefK (F : FA) (n m : Nat) (gA : List Val → List Val → List Val) (ga gk : AF) : EF := fun ρ S => (ga ρ S).bind fun p => (gk ρ p.2).bind fun q => if p.1.length = n ∧ q.1.length = m then F (gA p.1 q.1) q.2 else none
end AL
namespace AL
open PySem PySem.Spec PyProof.Rows L2 G Th
variable [TT]
def tyN : Val → Sto → Option String := fun v S => match v with
  | .non => some "NoneType"
  | .bl _ => some "bool"
  | .int _ => some "int"
  | .str _ => some "str"
  | .tup _ => some "tuple"
  | .scr _ => some "list"
  | .ref n => match S[n]? with
    | some (.lst _) => some "list"
    | some (.dic _) => some "dict"
    | _ => none
  | .lam _ _ _ _ _ => none
  | .exc _ _ _ _ => none
def gIsi (T : String) : Val → Sto → Option (Val × Sto) := fun v S => (tyN v S).bind fun a => (L2.kitB a T).map fun b => (.bl b, S)
theorem kit_int_int : L2.kitB "int" "int" = some true := by decide +kernel
theorem kit_bool_int : L2.kitB "bool" "int" = some true := by decide +kernel
theorem kit_str_int : L2.kitB "str" "int" = some false := by decide +kernel
theorem kit_tuple_int : L2.kitB "tuple" "int" = some false := by decide +kernel
theorem kit_list_int : L2.kitB "list" "int" = some false := by decide +kernel
theorem kit_NoneType_int : L2.kitB "NoneType" "int" = some false := by decide +kernel
theorem kit_int_bool : L2.kitB "int" "bool" = some false := by decide +kernel
theorem kit_bool_bool : L2.kitB "bool" "bool" = some true := by decide +kernel
theorem kit_int_str : L2.kitB "int" "str" = some false := by decide +kernel
theorem kit_bool_str : L2.kitB "bool" "str" = some false := by decide +kernel
theorem kit_str_str : L2.kitB "str" "str" = some true := by decide +kernel
theorem kit_tuple_str : L2.kitB "tuple" "str" = some false := by decide +kernel
theorem kit_list_str : L2.kitB "list" "str" = some false := by decide +kernel
theorem kit_NoneType_str : L2.kitB "NoneType" "str" = some false := by decide +kernel
theorem kit_int_tuple : L2.kitB "int" "tuple" = some false := by decide +kernel
theorem kit_bool_tuple : L2.kitB "bool" "tuple" = some false := by decide +kernel
theorem kit_str_tuple : L2.kitB "str" "tuple" = some false := by decide +kernel
theorem kit_tuple_tuple : L2.kitB "tuple" "tuple" = some true := by decide +kernel
theorem kit_list_tuple : L2.kitB "list" "tuple" = some false := by decide +kernel
theorem kit_NoneType_tuple : L2.kitB "NoneType" "tuple" = some false := by decide +kernel
section
variable {X : Cx} {e : Expr} {f : EF} {p p2 pos : Pos} {K : PySem.W.Frag}
theorem tyN_ok {m : List Addr} {S : Sto} {H : Hp} {u : V} {v : Val} {a : String} (R : Rel K m S H) (r : VR K H m u v) (h : tyN v S = some a) : TyX K H u (.type a) := by
  cases v with
  | non => cases h; cases r; exact .base .non
  | bl b => cases h; cases r; exact .base (.bl _)
  | int b => cases h; cases r; exact .base (.int _)
  | str b => cases h; cases r; exact .base (.str _)
  | tup vs =>
    cases h
    cases r with
    | tup ha ra =>
      rcases ha with ha | ⟨o, its, n, hl, hc, _⟩
      · exact .base (.tup ha)
      · exact .kTuple hl hc
  | scr ns =>
    cases h
    cases r with
    | scr hs =>
      rcases hs with ⟨o, hs⟩ | ⟨o, its, n, hl, hc, _⟩
      · exact .base (.frz hs)
      · exact .kList hl hc
  | ref n =>
    cases r with
    | ref ha =>
      simp only [tyN] at h
      split at h
      · next vs en =>
        cases h
        obtain ⟨xs, hx, _⟩ := R.ob _ _ _ en ha
        exact .base (.lst hx)
      · next kvs en =>
        cases h
        obtain ⟨xs, hx, _⟩ := R.ob _ _ _ en ha
        exact .base (.dK hx)
      · cases h
  | lam _ _ _ _ _ => cases h
  | exc _ _ _ _ => cases h
theorem aisi {T : String} {x : Str} (hg : Gl X "isinstance") (hm : X.mg "isinstance" = none) (hgT : Gl X x) (hmT : X.mg x = none) (hv : bootBuiltins x = some (.type T)) (he : AE X e f) (hn : x ≠ "__name__" := by decide) (hd : (x == ("__debug__" : Str)) = false := by decide)
    (hs : starEach [e, .Name x p2] X.env = (false, eval e X.env) :: starEach [.Name x p2] X.env := by rfl) (hpl : (backTo pos (starEach [.Name x p2] X.env)).any (·.1) = false := by rfl) : AE X (.Call (.Name "isinstance" p) [e, .Name x p2] [] pos) (eU (gIsi T) f) := by
  refine pe_w (pe_callB call_isi hg hm (by decide +kernel) (pa_cons he (pa_cons (pe_bltn (v := .ty T) hgT hmT hv rfl hn hd) pa_nil) hs) (by decide) (by decide) hs hpl) fun σ H Q h => ?_
  obtain ⟨m, ρ, S, v, S', R, r, e, q⟩ := h
  obtain ⟨⟨x1, S1⟩, e1, e⟩ := Option.bind_eq_some_iff.mp e
  unfold gIsi at e
  obtain ⟨a, ea, e⟩ := Option.bind_eq_some_iff.mp e
  obtain ⟨b, eb, e⟩ := Option.map_eq_some_iff.mp e
  cases e
  refine ⟨m, ρ, S, x1, S1, R, r, e1, fun m1 u H1 E1 R1 r1 => ?_⟩
  exact ⟨u, .ty T, .type a, .type T, b, rfl, .ty T, tyN_ok R1 r1 ea, kit_ty eb, q m1 _ H1 E1 R1 (.bl b)⟩
/-- all(..) of a list of truths -/
def blsOf : List Val → Option (List Bool)
  | [] => some []
  | .bl b :: vs => (blsOf vs).map fun bs => b :: bs
  | _ :: _ => none
theorem bls_eq : ∀ {vs : List Val} {bs : List Bool}, blsOf vs = some bs → vs = bs.map Val.bl
  | [], bs, h => by cases h; rfl
  | .bl b :: vs, bs, h => by
    simp only [blsOf] at h
    obtain ⟨cs, h1, rfl⟩ := Option.map_eq_some_iff.mp h
    rw [bls_eq h1]
    rfl
  | .non :: _, _, h => by cases h
  | .int _ :: _, _, h => by cases h
  | .str _ :: _, _, h => by cases h
  | .tup _ :: _, _, h => by cases h
  | .ref _ :: _, _, h => by cases h
  | .scr _ :: _, _, h => by cases h
  | .lam _ _ _ _ _ :: _, _, h => by cases h
  | .exc _ _ _ _ :: _, _, h => by cases h
theorem bls_map (bs : List Bool) : blsOf (bs.map Val.bl) = some bs := by
  induction bs with
  | nil => rfl
  | cons b bs ih => simp only [List.map_cons, blsOf, ih, Option.map_some]
theorem vrs_bls {H : Hp} {m : List Addr} : ∀ {bs : List Bool} {us : List V}, VRs K H m us (bs.map Val.bl) → us = bs.map V.bl
  | [], us, h => by cases h; rfl
  | b :: bs, us, h => by
    cases h with
    | cons a r =>
      cases a
      rw [vrs_bls r]
      rfl
def gAll : List Val → Sto → Option (Val × Sto) := fun xs S => match xs with
  | [.ref n] => match S[n]? with
    | some (.lst vs) => (blsOf vs).map fun bs => (.bl (bs.all id), S)
    | _ => none
  | _ => none
theorem cAll : CaA K (rAll K) gAll := by
  intro m S H xs v S' us Q R r e q
  unfold gAll at e
  split at e
  · next n =>
    split at e
    · next vs en =>
      obtain ⟨bs, hb, e⟩ := Option.map_eq_some_iff.mp e
      cases e
      obtain ⟨u, rfl, ru⟩ := r.one_of
      cases ru with
      | ref ha =>
        obtain ⟨ys, hy, ry⟩ := R.ob _ _ _ en ha
        rw [bls_eq hb] at ry
        have := vrs_bls ry
        subst this
        exact ⟨_, bs, rfl, SqL.of hy, q m _ H (.refl _ _) R (.bl _)⟩
    · cases e
  · cases e
/-- int(..) of a truth, of a number -/
def gInt : List Val → Sto → Option (Val × Sto) := fun xs S => match xs with
  | [.int i] => some (.int i, S)
  | [.bl b] => some (.int (if b then 1 else 0), S)
  | _ => none
/-- xs[::-1] of a list -/
def gRev : Val → Sto → Option (Val × Sto) := fun x S => match x with
  | .ref n => match S[n]? with
    | some (.lst vs) => some (.ref S.length, S ++ [.lst vs.reverse])
    | _ => none
  | _ => none
theorem VRs.rev {H : Hp} {m : List Addr} : ∀ {us : List V} {vs : List Val}, VRs K H m us vs → VRs K H m us.reverse vs.reverse
  | _, _, .nil => .nil
  | _, _, .cons a r => by
    rw [List.reverse_cons, List.reverse_cons]
    exact (VRs.rev r).app a.one
/-- is True, is not True -/
def gIsT : Val → Val → Sto → Option (Val × Sto) := fun x y S => match x, y with
  | .bl a, .bl b => some (.bl (decide (a = b)), S)
  | _, _ => none
def gIsNT : Val → Val → Sto → Option (Val × Sto) := fun x y S => match x, y with
  | .bl a, .bl b => some (.bl (!decide (a = b)), S)
  | _, _ => none
end
end AL
namespace AL
open PySem PySem.Spec PyProof.Rows L2 G Th
variable [TT]
def pairUp : List Val → Option (List (Key × Val))
  | [] => some []
  | k :: v :: r => match AL.keyOf k, pairUp r with
    | some k, some r => some ((k, v) :: r)
    | _, _ => none
  | _ => none
def flat (ps : List (V × V)) : List V := ps.flatMap fun p => [p.1, p.2]
section
variable {X : Cx} {pos : Pos} {K : PySem.W.Frag} {ga : AF}
theorem pairUp_ok {H : Hp} {m : List Addr} : ∀ (ps : List (V × V)) (vs : List Val) (kvs : List (Key × Val)), VRs K H m (flat ps) vs → pairUp vs = some kvs → ∃ xs : List (Key × V), ps = xs.map (fun kv => (kV kv.1, kv.2)) ∧ KR K H m xs kvs ∧ xs.length = kvs.length
  | [], vs, kvs, r, h => by
    cases r
    cases h
    exact ⟨[], rfl, .nil, rfl⟩
  | (x, y) :: ps, vs, kvs, r, h => by
    cases r with
    | cons r1 r =>
      cases r with
      | cons r2 r =>
        unfold pairUp at h
        split at h
        · next k rest hk hr =>
          cases h
          obtain ⟨xs, e, kr, l⟩ := pairUp_ok ps _ _ r hr
          exact ⟨(k, y) :: xs, by have z := r1.key hk; dsimp only at z; rw [List.map_cons, ← e, z], .cons rfl r2 kr, by simp [l]⟩
        · cases h
def ADp (X : Cx) (pos : Pos) (keys : List (Option Expr)) (values : List Expr) (ga : AF) : Prop := ∃ trs, PPs X pos keys values trs ∧ ∀ (σ : L2.St) (H : Hp) (Q : List (V × V) → Hp → Prop), (∃ m ρ S vs S', Rel X.K m S H ∧ RhoR X.K H m ρ σ ∧ ga ρ S = some (vs, S') ∧ ∀ m' ps H', Ext m H m' H' → Rel X.K m' S' H' → VRs X.K H' m' (flat ps) vs → Q ps H') → tPairs trs σ H Q
theorem adp0 : ADp X pos [] [] aNil := ⟨[], pps_nil, fun σ H Q ⟨m, ρ, S, vs, S', R, r, e, q⟩ => by
  cases e
  exact q m [] H (.refl _ _) R .nil⟩
theorem adp1 {k v : Expr} {ks : List (Option Expr)} {vs : List Expr} {fk fv : EF} (hk : AE X k fk) (hv : AE X v fv) (hr : ADp X pos ks vs ga) : ADp X pos (some k :: ks) (v :: vs) (aCons fk (aCons fv ga)) := by
  obtain ⟨trs, hp, h⟩ := hr
  refine ⟨_, pps_cons hk hv hp, fun σ H Q ⟨m, ρ, S, ws, S', R, r, e, q⟩ => ?_⟩
  obtain ⟨⟨x, S1⟩, e1, e⟩ := Option.bind_eq_some_iff.mp e
  obtain ⟨⟨y', S3⟩, e', e⟩ := Option.bind_eq_some_iff.mp e
  cases e
  obtain ⟨⟨y, S2⟩, e2, e'⟩ := Option.bind_eq_some_iff.mp e'
  obtain ⟨⟨zs, S4⟩, e3, e'⟩ := Option.bind_eq_some_iff.mp e'
  cases e'
  exact ⟨m, ρ, S, x, S1, R, r, e1, fun m1 u H1 E1 R1 r1 => ⟨m1, ρ, S1, y, S2, R1, r.kp (E1.kp R), e2, fun m2 w H2 E2 R2 r2 => h σ H2 _ ⟨m2, ρ, S2, zs, _, R2, r.kp ((E1.trans E2).kp R), e3, fun m3 ps H3 E3 R3 r3 =>
    q m3 ((u, w) :: ps) H3 ((E1.trans E2).trans E3) R3 (.cons (r1.kp ((E2.trans E3).kp R1)) (.cons (r2.kp (E3.kp R2)) r3))⟩⟩⟩
def eDsp (ga : AF) : EF := fun ρ S => (ga ρ (S ++ [.dic []])).bind fun p => match pairUp p.1, p.2[S.length]? with
  | some kvs, some (.dic []) => if kvs.length ≤ 15 then some (.ref S.length, p.2.set S.length (.dic (mergeA [] kvs))) else none
  | _, _ => none
theorem adsp {keys : List (Option Expr)} {values : List Expr} (h : ADp X pos keys values ga) (hall : keys.all (·.isSome) = true := by rfl) (hl : keys.length = values.length := by rfl) (h0 : keys ≠ [] := by simp) (h15 : keys.length ≤ 15 := by simp) : AE X (.Dict keys values pos) (eDsp ga) := by
  obtain ⟨trs, hp, h⟩ := h
  refine pe_w (pe_disp hp hall hl h0 h15) fun σ H Q ⟨m, ρ, S, v, S', R, r, e, q⟩ => ?_
  intro p hn
  obtain ⟨R1, E1⟩ := R.alloc (o := .dK []) (b := .dic []) hn ⟨[], upd_same, (KR.nil : KR X.K _ _ [] [])⟩
  obtain ⟨⟨vs, S2⟩, e1, e⟩ := Option.bind_eq_some_iff.mp e
  dsimp only at e
  split at e
  · next kvs hkv hs =>
    split at e
    · next l15 =>
      cases e
      refine h σ _ _ ⟨m ++ [p], ρ, _, vs, S2, R1, r.kp (E1.kp R), e1, fun m2 ps H2 E2 R2 r2 => ?_⟩
      have hm : m2[S.length]? = some p := (E2.kp R1).get (by rw [← R.len, List.getElem?_concat_length])
      obtain ⟨xs, hx, hk⟩ := R2.ob _ _ _ hs hm
      have hk : KR X.K H2 m2 xs [] := hk
      have z := hk.nil_of
      subst z
      obtain ⟨ys, rfl, kr, yl⟩ := pairUp_ok ps vs kvs r2 hkv
      refine ⟨hx, ys, rfl, by omega, ?_⟩
      have hmm := List.mem_of_getElem? hm
      have kk : Kp m2 H2 m2 (upd H2 p (.dK (mergeK [] ys))) := R2.kput hmm
      obtain ⟨R3, E3⟩ := R2.put (o := .dK (mergeK [] ys)) (b := .dic (mergeA [] kvs)) hm ⟨_, upd_same, ((kr.merge (.nil : KR X.K H2 m2 [] [])).kp kk)⟩
      exact q m2 _ _ ((E1.trans E2).trans E3) R3 (.ref hm)
    · cases e
  · cases e
/-- xs.extend(ys) -/
def gExt : Val → List Val → Sto → Option (Val × Sto) := fun x xs S => match x, xs with
  | .ref n, [.ref b] => match S[n]?, S[b]? with
    | some (.lst vs), some (.lst ws) => if vs.length + ws.length ≤ sizeLine then some (.non, S.set n (.lst (vs ++ ws))) else none
    | _, _ => none
  | _, _ => none
def eNRg (fa : EF) (ga : AF) : EF := fun ρ S => (fa ρ S).bind fun p => (ga ρ p.2).bind fun r => match p.1, r.1 with
  | .int i, [.int n] => some (.bl (!decide (0 ≤ i ∧ i < n)), r.2)
  | _, _ => none
open Classical in
/-- {k: v for target in iter if ..} -/
noncomputable def dcR (p : Pat) (t : BF) (fk f : EF) (ok : Sto → Prop) (ρ : Rho) : List Val → List (Key × Val) → Sto → Option (List (Key × Val) × Sto)
  | [], acc, S => if ok S then some (acc, S) else none
  | v :: vs, acc, S => if ok S then (p.bind v ρ).bind fun ρ1 => (t ρ1 S).bind fun b => if b.1 then (fk ρ1 b.2).bind fun k => (f ρ1 k.2).bind fun y => (match AL.keyOf k.1 with
      | some kk => if acc.length < 1000000 then dcR p t fk f ok ρ vs (putA acc kk y.1) y.2 else none
      | none => none) else dcR p t fk f ok ρ vs acc b.2 else none
noncomputable def eDc (p : Pat) (fi : IF) (t : BF) (fk f : EF) (own : List Nat) : EF := fun ρ S => (fi ρ S).bind fun z => (dcR p t fk f z.2.1 (wipeR ρ own) z.1 [] z.2.2).bind fun y => some (.ref y.2.length, y.2 ++ [.dic y.1])
/-- xs.remove(k), ints -/
def intsOf : List Val → Option (List Int)
  | [] => some []
  | .int x :: r => (intsOf r).map (x :: ·)
  | _ => none
theorem ints_eq : ∀ {vs : List Val} {ns : List Int}, intsOf vs = some ns → vs = ns.map Val.int
  | [], ns, h => by cases h; rfl
  | .int x :: r, ns, h => by
    obtain ⟨t, h1, h2⟩ := Option.map_eq_some_iff.mp h
    cases h2
    rw [ints_eq h1]
    rfl
  | .non :: r, _, h => by cases h
  | .str _ :: r, _, h => by cases h
  | .bl _ :: r, _, h => by cases h
  | .ref _ :: r, _, h => by cases h
  | .tup _ :: r, _, h => by cases h
  | .scr _ :: r, _, h => by cases h
  | .lam _ _ _ _ _ :: r, _, h => by cases h
  | .exc _ _ _ _ :: r, _, h => by cases h
theorem VRs.ints {H : Hp} {m : List Addr} : ∀ {us : List V} {ns : List Int}, VRs K H m us (ns.map Val.int) → us = ns.map V.int
  | _, [], r => by cases r; rfl
  | _, n :: ns, r => by
    cases r with
    | cons a b =>
      cases a
      rw [b.ints]
      rfl
end
end AL
namespace AL
open PySem PySem.Spec PyProof.Rows L2 G Th
variable [TT]
def Wp {α : Type} (o : Option (α × Sto)) (Q : α → Sto → Prop) : Prop := ∃ a S', o = some (a, S') ∧ Q a S'
def WsD (r : Res) (N : Rho → Sto → Prop) (R : Val → Sto → Prop) : Prop := match r with
  | .nx ρ S => N ρ S
  | .rt v S => R v S
  | _ => False
structure Ws (r : Res) (N : Rho → Sto → Prop) (R : Val → Sto → Prop) : Prop where
  h : WsD r N R
def Tb (v : Val) (X : Bool → Prop) : Prop := ∃ b, v = .bl b ∧ X b
theorem tb {v : Val} {b : Bool} {X : Bool → Prop} (h : v = .bl b) (q : X b) : Tb v X := ⟨b, h, q⟩
def Ti (v : Val) (X : Int → Prop) : Prop := ∃ i, v = .int i ∧ X i
theorem ti {v : Val} {i : Int} {X : Int → Prop} (h : v = .int i) (q : X i) : Ti v X := ⟨i, h, q⟩
def Br (b : Bool) (P Q : Prop) : Prop := (b = true → P) ∧ (b = false → Q)
theorem Br.of {b : Bool} {P Q : Prop} (p : b = true → P) (q : b = false → Q) : Br b P Q := ⟨p, q⟩
theorem brT {b : Bool} {P Q : Prop} (h : b = true) (p : P) : Br b P Q := ⟨fun _ => p, fun z => (by rw [h] at z; cases z)⟩
theorem brF {b : Bool} {P Q : Prop} (h : b = false) (q : Q) : Br b P Q := ⟨fun z => (by rw [h] at z; cases z), fun _ => q⟩
def Bn (o : Option Rho) (N : Rho → Prop) : Prop := ∃ ρ1, o = some ρ1 ∧ N ρ1
theorem bn {o : Option Rho} {ρ1 : Rho} {N : Rho → Prop} (h : o = some ρ1) (q : N ρ1) : Bn o N := ⟨ρ1, h, q⟩
def Sd (p q : Prop) : Prop := p ∧ q
theorem sd {p q : Prop} (h : p) (g : q) : Sd p q := ⟨h, g⟩
def Wi (o : Option (List Val × (Sto → Prop) × Sto)) (Q : List Val → (Sto → Prop) → Sto → Prop) : Prop := ∃ vs ok S, o = some (vs, ok, S) ∧ Q vs ok S
section
variable {α β : Type} {ρ : Rho} {S : Sto} {f fa fb fc fo fi : EF} {t t' : BF} {ga : AF} {Q : Val → Sto → Prop} {B : Bool → Sto → Prop} {A : List Val → Sto → Prop} {g1 g2 : SF} {N : Rho → Sto → Prop} {R : Val → Sto → Prop} {v : Val} {i : Nat} {p : Pat}
theorem Wp.bind {o : Option (α × Sto)} {k : α × Sto → Option (β × Sto)} {Q : β → Sto → Prop} (h : Wp o fun a S => Wp (k (a, S)) Q) : Wp (o.bind k) Q := by
  obtain ⟨a, S1, e, b, S2, e2, q⟩ := h
  exact ⟨b, S2, by rw [e]; exact e2, q⟩
theorem Wp.imp {o : Option (α × Sto)} {P Q : α → Sto → Prop} (h : Wp o P) (i : ∀ a S, P a S → Q a S) : Wp o Q := by
  obtain ⟨a, S1, e, q⟩ := h
  exact ⟨a, S1, e, i _ _ q⟩
theorem Wp.of {o : Option (α × Sto)} {Q : α → Sto → Prop} {a : α} {S : Sto} (e : o = some (a, S)) (q : Q a S) : Wp o Q := ⟨a, S, e, q⟩
theorem wv (h : ρ[i]? = some (some v)) (q : Q v S) : Wp (eV i ρ S) Q := ⟨v, S, by unfold eV; rw [h], q⟩
theorem wc (q : Q v S) : Wp (eC v ρ S) Q := ⟨v, S, rfl, q⟩
theorem wB {g : Val → Val → Sto → Option (Val × Sto)} (h : Wp (fa ρ S) fun x S1 => Wp (fb ρ S1) fun y S2 => Wp (g x y S2) Q) : Wp (eB g fa fb ρ S) Q := Wp.bind (h.imp fun a S h => Wp.bind h)
theorem wU {g : Val → Sto → Option (Val × Sto)} (h : Wp (fa ρ S) fun x S1 => Wp (g x S1) Q) : Wp (eU g fa ρ S) Q := Wp.bind h
theorem wT (h : Wp (f ρ S) fun v S1 => Tb v fun b => B b S1) : Wp (eT f ρ S) B := Wp.bind (h.imp fun a S ⟨b, e, q⟩ => by subst e; exact ⟨b, S, rfl, q⟩)
theorem wbA (h : Wp (t ρ S) fun b S1 => Br b (Wp (t' ρ S1) B) (B false S1)) : Wp (bAnd t t' ρ S) B := Wp.bind (h.imp fun b S h => by
  cases b with
  | true => exact h.1 rfl
  | false => exact ⟨_, _, rfl, h.2 rfl⟩)
theorem wbO (h : Wp (t ρ S) fun b S1 => Br b (B true S1) (Wp (t' ρ S1) B)) : Wp (bOr t t' ρ S) B := Wp.bind (h.imp fun b S h => by
  cases b with
  | true => exact ⟨_, _, rfl, h.1 rfl⟩
  | false => exact h.2 rfl)
theorem wbN (h : Wp (t ρ S) fun b S1 => B (!b) S1) : Wp (bNot t ρ S) B := Wp.bind (h.imp fun b S h => ⟨_, _, rfl, h⟩)
theorem wbY (h : B true S) : Wp (bYes ρ S) B := ⟨_, _, rfl, h⟩
theorem weA (h : Wp (fa ρ S) fun v S1 => Tb v fun b => Br b (Wp (fb ρ S1) Q) (Q (.bl false) S1)) : Wp (eAnd fa fb ρ S) Q := Wp.bind (h.imp fun a S ⟨b, e, h⟩ => by
  subst e
  cases b with
  | true => exact h.1 rfl
  | false => exact ⟨_, _, rfl, h.2 rfl⟩)
theorem weO (h : Wp (fa ρ S) fun v S1 => Tb v fun b => Br b (Q (.bl true) S1) (Wp (fb ρ S1) Q)) : Wp (eOr fa fb ρ S) Q := Wp.bind (h.imp fun a S ⟨b, e, h⟩ => by
  subst e
  cases b with
  | true => exact ⟨_, _, rfl, h.1 rfl⟩
  | false => exact h.2 rfl)
theorem weN (h : Wp (fa ρ S) fun v S1 => Tb v fun b => Q (.bl (!b)) S1) : Wp (eNot fa ρ S) Q := Wp.bind (h.imp fun a S ⟨b, e, h⟩ => by
  subst e
  exact ⟨_, _, rfl, h⟩)
theorem weI (h : Wp (t ρ S) fun b S1 => Br b (Wp (fa ρ S1) Q) (Wp (fb ρ S1) Q)) : Wp (eIf t fa fb ρ S) Q := Wp.bind (h.imp fun b S h => by
  cases b with
  | true => exact h.1 rfl
  | false => exact h.2 rfl)
theorem weCh {g g' : Val → Val → Sto → Option (Val × Sto)} (h : Wp (fa ρ S) fun x S1 => Wp (fb ρ S1) fun y S2 => Wp (g x y S2) fun z S3 => Tb z fun b => Br b (Wp (fc ρ S3) fun w S4 => Wp (g' y w S4) Q) (Q (.bl false) S3)) : Wp (eCh g g' fa fb fc ρ S) Q :=
  Wp.bind (h.imp fun x S1 h => Wp.bind (h.imp fun y S2 h => Wp.bind (h.imp fun z S3 ⟨b, e, h⟩ => by
    subst e
    cases b with
    | true => exact Wp.bind (h.1 rfl)
    | false => exact ⟨_, _, rfl, h.2 rfl⟩)))
theorem wa0 (h : A [] S) : Wp (aNil ρ S) A := ⟨_, _, rfl, h⟩
theorem wa1 (h : Wp (f ρ S) fun v S1 => Wp (ga ρ S1) fun vs S2 => A (v :: vs) S2) : Wp (aCons f ga ρ S) A := Wp.bind (h.imp fun x S1 h => Wp.bind (h.imp fun y S2 h => ⟨_, _, rfl, h⟩))
theorem wTup (h : Wp (ga ρ S) fun vs S1 => Sd (vs.length ≤ 1000000) (Q (.tup vs) S1)) : Wp (eTup ga ρ S) Q := Wp.bind (h.imp fun x S1 h => ⟨_, _, if_pos h.1, h.2⟩)
/-- a new object of the store -/
def Nw (S : Sto) (o : Ob) (Q : Val → Sto → Prop) : Prop := ∀ (T : Sto) (r : Nat), r = S.length → T.length = S.length + 1 → T[r]? = some o → Kn S T → Q (.ref r) T
theorem Nw.use {o : Ob} (h : Nw S o Q) : Q (.ref S.length) (S ++ [o]) := h _ _ rfl (by simp) (by simp) (Kn.app _ _)
theorem wLst (h : Wp (ga ρ S) fun vs S1 => Sd (vs.length ≤ 1000000) (Nw S1 (.lst vs) Q)) : Wp (eLst ga ρ S) Q := Wp.bind (h.imp fun x S1 h => ⟨_, _, if_pos h.1, h.2.use⟩)
theorem wDic (h : Nw S (.dic []) Q) : Wp (eDic ρ S) Q := ⟨_, _, rfl, h.use⟩
theorem wCall {g : List Val → Sto → Option (Val × Sto)} (h : Wp (ga ρ S) fun vs S1 => Wp (g vs S1) Q) : Wp (eCall g ga ρ S) Q := Wp.bind h
theorem wDef {F : FA} {n : Nat} (h : Wp (ga ρ S) fun vs S1 => Sd (vs.length = n) (Wp (F vs S1) Q)) : Wp (eDef F n ga ρ S) Q := Wp.bind (h.imp fun x S1 h => by
  show Wp (if x.length = n then F x S1 else none) Q
  rw [if_pos h.1]
  exact h.2)
theorem wMt {ok : Val → Sto → Bool} {g : Val → List Val → Sto → Option (Val × Sto)} (h : Wp (fo ρ S) fun x S1 => Sd (ok x S1 = true) (Wp (ga ρ S1) fun vs S2 => Wp (g x vs S2) Q)) : Wp (eMt ok g fo ga ρ S) Q := Wp.bind (h.imp fun x S1 h => by
  show Wp (if ok x S1 = true then (ga ρ S1).bind fun q => g x q.1 q.2 else none) Q
  rw [if_pos h.1]
  exact Wp.bind h.2)
theorem woN {O : Option Int → Sto → Prop} (h : O none S) : Wp (oN ρ S) O := ⟨_, _, rfl, h⟩
theorem woS {O : Option Int → Sto → Prop} (h : Wp (f ρ S) fun v S1 => Ti v fun i => O (some i) S1) : Wp (oS f ρ S) O := Wp.bind (h.imp fun x S1 ⟨i, e, h⟩ => by
  subst e
  exact ⟨_, _, rfl, h⟩)
theorem wSl {g : Val → Option Int → Option Int → Sto → Option (Val × Sto)} {lo hi : OF} (h : Wp (fa ρ S) fun x S1 => Wp (lo ρ S1) fun a S2 => Wp (hi ρ S2) fun b S3 => Wp (g x a b S3) Q) : Wp (eSl g fa lo hi ρ S) Q := Wp.bind (h.imp fun x S1 h => Wp.bind (h.imp fun y S2 h => Wp.bind h))
variable {x y : Val} {a b : Int}
theorem vI {g : Int → Int → Val} (hx : x = .int a) (hy : y = .int b) (q : Q (g a b) S) : Wp (gI g x y S) Q := by subst hx hy; exact ⟨_, _, rfl, q⟩
theorem vMul (hx : x = .int a) (hy : y = .int b) (q : Q (.int (a * b)) S) (h : CMulW a b) : Wp (gMul x y S) Q := by subst hx hy; exact ⟨_, _, if_pos h, q⟩
theorem vDiv (hx : x = .int a) (hy : y = .int b) (q : Q (.int (a / b)) S) (h : CDivW a b) : Wp (gDiv x y S) Q := by subst hx hy; exact ⟨_, _, if_pos h, q⟩
theorem vMod (hx : x = .int a) (hy : y = .int b) (q : Q (.int (a.fmod b)) S) (h : b ≠ 0) : Wp (gMod x y S) Q := by subst hx hy; exact ⟨_, _, if_pos h, q⟩
theorem vPow (hx : x = .int a) (hy : y = .int b) (q : Q (.int (a ^ b.toNat)) S) (h : CPow a b) : Wp (gPow x y S) Q := by subst hx hy; exact ⟨_, _, if_pos h, q⟩
theorem vAdd (hx : x = .int a) (hy : y = .int b) (q : Q (.int (a + b)) S) : Wp (gAdd x y S) Q := by subst hx hy; exact ⟨_, _, rfl, q⟩
theorem vNeg (hx : x = .int a) (q : Q (.int (-a)) S) : Wp (gNeg x S) Q := by subst hx; exact ⟨_, _, rfl, q⟩
theorem vAbs (hx : x = .int a) (q : Q (.int (if a < 0 then -a else a)) S) : Wp (gAbs [x] S) Q := by subst hx; exact ⟨_, _, rfl, q⟩
theorem vEq {c : Bool} (h : eqS x y = some c) (q : Q (.bl c) S) : Wp (gEq x y S) Q := ⟨_, _, by simp only [gEq, eqA, h]; rfl, q⟩
theorem vNe {c : Bool} (h : eqS x y = some c) (q : Q (.bl (!c)) S) : Wp (gNe x y S) Q := ⟨_, _, by simp only [gNe, eqA, h]; rfl, q⟩
theorem vIs (hy : y = .non) (q : Q (.bl (isNon x)) S) : Wp (gIs x y S) Q := by subst hy; exact ⟨_, _, rfl, q⟩
theorem vIsN (hy : y = .non) (q : Q (.bl (!isNon x)) S) : Wp (gIsN x y S) Q := by subst hy; exact ⟨_, _, rfl, q⟩
theorem vIxL {n : Nat} {i : Int} {vs : List Val} (hx : x = .ref n) (hy : y = .int i) (h : S[n]? = some (.lst vs)) (e : atI vs i = some v) (q : Q v S) : Wp (gIxA x y S) Q := by subst hx hy; exact ⟨v, S, by simp only [gIxA, gIx, h, e, Option.map_some], q⟩
theorem vIxT {i : Int} {vs : List Val} (hx : x = .tup vs) (hy : y = .int i) (e : atI vs i = some v) (q : Q v S) : Wp (gIxA x y S) Q := by subst hx hy; exact ⟨v, S, by simp only [gIxA, gIx, e, Option.map_some], q⟩
theorem vIxD {n : Nat} {k : Key} {kvs : List (Key × Val)} (hx : x = .ref n) (h : S[n]? = some (.dic kvs)) (hk : AL.keyOf y = some k) (e : valA kvs k = some v) (q : Q v S) : Wp (gIxA x y S) Q := by subst hx; exact ⟨v, S, by simp only [gIxA, h, hk, e, Option.map_some], q⟩
theorem isL_of {n : Nat} {vs : List Val} (h : S[n]? = some (.lst vs)) : isL (.ref n) S = true := by simp only [isL, h]
theorem vLenT {vs : List Val} (hx : x = .tup vs) (q : Q (.int vs.length) S) : Wp (gLen [x] S) Q := by subst hx; exact ⟨_, _, rfl, q⟩
theorem vLenL {n : Nat} {vs : List Val} (hx : x = .ref n) (h : S[n]? = some (.lst vs)) (q : Q (.int vs.length) S) : Wp (gLen [x] S) Q := by subst hx; exact ⟨_, S, by simp only [gLen, h], q⟩
theorem vTupL {n : Nat} {vs : List Val} (hx : x = .ref n) (h : S[n]? = some (.lst vs)) (q : Q (.tup vs) S) : Wp (gTuple [x] S) Q := by subst hx; exact ⟨_, S, by simp only [gTuple, h], q⟩
theorem vIn {n : Nat} {neg : Bool} {k : Key} {kvs : List (Key × Val)} (hy : y = .ref n) (h : S[n]? = some (.dic kvs)) (hk : AL.keyOf x = some k) (q : Q (.bl (if neg then !(valA kvs k).isSome else (valA kvs k).isSome)) S) : Wp (gIn neg x y S) Q := by subst hy; exact ⟨_, S, by simp only [gIn, h, hk], q⟩
/-- an object of the store is another now -/
def Pt (S : Sto) (n : Nat) (o : Ob) (Q : Sto → Prop) : Prop := ∀ T : Sto, T.length = S.length → T[n]? = some o → Kx n S T → Q T
theorem Pt.use {n : Nat} {o o' : Ob} {Q : Sto → Prop} (h : Pt S n o Q) (hn : S[n]? = some o') : Q (S.set n o) := h _ (by simp) (by rw [List.getElem?_set_self (List.getElem?_eq_some_iff.mp hn).1]) Kx.put
theorem vApp {n : Nat} {vs : List Val} (hx : x = .ref n) (h : S[n]? = some (.lst vs)) (q : Pt S n (.lst (vs ++ [v])) (Q .non)) (hl : vs.length < sizeLine) : Wp (gApp x [v] S) Q := by subst hx; exact ⟨.non, _, by simp only [gApp, h, if_pos hl], q.use h⟩
theorem small {n : Nat} (h : n < 1000000) : n < sizeLine := Nat.lt_of_lt_of_le h (by decide)
theorem vGet1 (h : Wp (fo ρ S) fun o S1 => ∃ n kvs, o = .ref n ∧ S1[n]? = some (.dic kvs) ∧ Wp (fi ρ S1) fun x S2 => ∃ kvs k, S2[n]? = some (.dic kvs) ∧ AL.keyOf x = some k ∧ Q ((valA kvs k).getD .non) S2) : Wp (eGet1 fo fi ρ S) Q := Wp.bind (h.imp fun o S1 ⟨n, kvs, e, h1, h2⟩ => by
  subst e
  simp only [h1]
  refine Wp.bind (h2.imp fun x S2 ⟨kvs, k, h3, h4, q⟩ => ?_)
  simp only [h3, h4]
  exact ⟨_, _, rfl, q⟩)
theorem vGet2 {fx : EF} (h : Wp (fo ρ S) fun o S1 => ∃ n kvs, o = .ref n ∧ S1[n]? = some (.dic kvs) ∧ Wp (fi ρ S1) fun x S2 => Wp (fx ρ S2) fun y S3 => ∃ kvs k, S3[n]? = some (.dic kvs) ∧ AL.keyOf x = some k ∧ Q ((valA kvs k).getD y) S3) : Wp (eGet2 fo fi fx ρ S) Q := Wp.bind (h.imp fun o S1 ⟨n, kvs, e, h1, h2⟩ => by
  subst e
  simp only [h1]
  refine Wp.bind (h2.imp fun x S2 h3 => ?_)
  refine Wp.bind (h3.imp fun y S3 ⟨kvs, k, h4, h5, q⟩ => ?_)
  simp only [h4, h5]
  exact ⟨_, _, rfl, q⟩)
theorem atI_mem {vs : List Val} {d : Int} (h0 : 0 ≤ d) (h1 : d < (vs.length : Nat)) : ∃ v, atI vs d = some v ∧ v ∈ vs := by
  obtain ⟨n, rfl⟩ := Int.eq_ofNat_of_zero_le h0
  have l : n < vs.length := by omega
  exact ⟨vs[n], atI_nat (List.getElem?_eq_getElem l), List.getElem_mem l⟩
theorem ws_seq (h : Ws (g1 ρ S) (fun ρ S => Ws (g2 ρ S) N R) R) : Ws (sSeq g1 g2 ρ S) N R := by
  obtain ⟨h⟩ := h
  unfold sSeq
  cases e : g1 ρ S with
  | nx _ _ => rw [e] at h; exact h
  | rt _ _ => rw [e] at h; exact ⟨h⟩
  | stuck => rw [e] at h; exact h.elim
  | bk _ _ => rw [e] at h; exact h.elim
  | ct _ _ => rw [e] at h; exact h.elim
theorem ws_nil (h : N ρ S) : Ws (sNil ρ S) N R := ⟨h⟩
theorem ws_expr (h : Wp (f ρ S) fun _ S => N ρ S) : Ws (sExpr f ρ S) N R := by
  obtain ⟨a, S1, e, q⟩ := h
  unfold sExpr
  rw [e]
  exact ⟨q⟩
theorem ws_ret (h : Wp (f ρ S) R) : Ws (sRet f ρ S) N R := by
  obtain ⟨a, S1, e, q⟩ := h
  unfold sRet
  rw [e]
  exact ⟨q⟩
theorem ws_if (h : Wp (t ρ S) fun b S1 => Br b (Ws (g1 ρ S1) N R) (Ws (g2 ρ S1) N R)) : Ws (sIf t g1 g2 ρ S) N R := by
  obtain ⟨b, S1, e, q⟩ := h
  unfold sIf
  rw [e]
  cases b with
  | true => exact q.1 rfl
  | false => exact q.2 rfl
theorem ws_asg (h : Wp (f ρ S) fun v S1 => Bn (p.bind v ρ) fun ρ1 => N ρ1 S1) : Ws (sAsg p f ρ S) N R := by
  obtain ⟨v, S1, e, ρ1, e1, q⟩ := h
  unfold sAsg
  rw [e]
  show Ws (match p.bind v ρ with
    | some ρ => .nx ρ S1
    | none => .stuck) N R
  rw [e1]
  exact ⟨q⟩
theorem ws_par {is : List Nat} (h : Wp (ga ρ S) fun vs S1 => Bn (Pat.binds (is.map Pat.nm) vs ρ) fun ρ1 => N ρ1 S1) : Ws (sPar is ga ρ S) N R := by
  obtain ⟨v, S1, e, ρ1, e1, q⟩ := h
  unfold sPar
  rw [e]
  show Ws (match Pat.binds (is.map Pat.nm) v ρ with
    | some ρ => .nx ρ S1
    | none => .stuck) N R
  rw [e1]
  exact ⟨q⟩
theorem ws_sub {g : Val → Val → Val → Sto → Option Sto} (h : Wp (f ρ S) fun v S1 => Wp (fo ρ S1) fun o S2 => Wp (fi ρ S2) fun i S3 => ∃ S4, g o i v S3 = some S4 ∧ N ρ S4) : Ws (sSub g fo fi f ρ S) N R := by
  obtain ⟨v, S1, e1, o, S2, e2, i, S3, e3, S4, e4, q⟩ := h
  unfold sSub
  simp only [e1, e2, e3, e4]
  exact ⟨q⟩
theorem vPut {n : Nat} {x : Val} {k : Key} {v : Val} {N : Sto → Prop} {kvs : List (Key × Val)} (h : S[n]? = some (.dic kvs)) (hk : AL.keyOf x = some k) (q : Pt S n (.dic (putA kvs k v)) N) (hl : kvs.length < sizeLine) : ∃ T, gSetA (.ref n) x v S = some T ∧ N T := ⟨_, by simp only [gSetA, h, hk, if_pos hl], q.use h⟩
theorem vPutL {n j : Nat} {i : Int} {v : Val} {N : Sto → Prop} {vs : List Val} (h : S[n]? = some (.lst vs)) (hj : ixN vs.length i = some j) (q : Pt S n (.lst (vs.set j v)) N) : ∃ T, gSetA (.ref n) (.int i) v S = some T ∧ N T := ⟨_, by simp only [gSetA, gSet, h, hj], q.use h⟩
theorem ws_for {fi : IF} {g : SF} (h : Wi (fi ρ S) fun vs ok S1 => Ws (forR p g ok vs ρ S1) N R) : Ws (sFor p fi g ρ S) N R := by
  obtain ⟨vs, ok, S1, e, h⟩ := h
  unfold sFor
  rw [e]
  exact h
theorem wf {n : Nat} {g : SF} {vs : List Val} (h : Ws (g (vs.map some ++ List.replicate (n - vs.length) none) S) (fun _ S => Q .non S) Q) : Wp (runF n g vs S) Q := by
  unfold runF
  generalize g (vs.map some ++ List.replicate (n - vs.length) none) S = r at h
  obtain ⟨h⟩ := h
  cases r with
  | nx ρ S => exact ⟨_, _, rfl, h⟩
  | rt v S => exact ⟨_, _, rfl, h⟩
  | stuck => exact h.elim
  | bk _ _ => exact h.elim
  | ct _ _ => exact h.elim
theorem ws_loop {g : SF} {ok : Sto → Prop} {vs : List Val} (I : Nat → Rho → Sto → Prop) (h0 : I 0 ρ S) (hok : ∀ i ρ S, i ≤ vs.length → I i ρ S → ok S)
    (step : ∀ i v ρ S, vs[i]? = some v → I i ρ S → Bn (p.bind v ρ) fun ρ1 => Ws (g ρ1 S) (I (i + 1)) R) (post : ∀ ρ S, I vs.length ρ S → N ρ S) : Ws (forR p g ok vs ρ S) N R := by
  have go : ∀ (k : Nat) (ρ : Rho) (S : Sto), k ≤ vs.length → I k ρ S → Ws (forR p g ok (vs.drop k) ρ S) N R := by
    intro k
    induction hn : vs.length - k generalizing k with
    | zero =>
      intro ρ S hk h
      have e : k = vs.length := by omega
      subst e
      rw [List.drop_length, forR_nil (hok _ _ _ hk h)]
      exact ⟨post _ _ h⟩
    | succ n ih =>
      intro ρ S hk h
      have l : k < vs.length := by omega
      rw [List.drop_eq_getElem_cons l]
      obtain ⟨ρ1, h1, h2⟩ := step k vs[k] ρ S (List.getElem?_eq_getElem l) h
      rw [forR_cons (hok _ _ _ hk h) h1]
      obtain ⟨h2⟩ := h2
      cases e : g ρ1 S with
      | nx ρ2 S2 =>
        rw [e] at h2
        exact ih (k + 1) (by omega) ρ2 S2 (by omega) h2
      | rt v S2 => rw [e] at h2; exact ⟨h2⟩
      | stuck => rw [e] at h2; exact h2.elim
      | bk _ _ => rw [e] at h2; exact h2.elim
      | ct _ _ => rw [e] at h2; exact h2.elim
  have := go 0 ρ S (Nat.zero_le _) h0
  rwa [List.drop_zero] at this
/-- iterators -/
theorem wiT {X : List Val → (Sto → Prop) → Sto → Prop} {f : EF} (h : Wp (f ρ S) fun v S1 => (∃ vs, v = .tup vs ∧ X vs (fun _ => True) S1) ∨ ∃ n vs, v = .ref n ∧ S1[n]? = some (.lst vs) ∧ X vs (fun S => S[n]? = some (.lst vs)) S1) : Wi (iSeq f ρ S) X := by
  obtain ⟨v, S1, e, h⟩ := h
  rcases h with ⟨vs, rfl, h⟩ | ⟨n, vs, rfl, h1, h⟩
  · exact ⟨_, _, _, by unfold iSeq; rw [e]; rfl, h⟩
  · exact ⟨_, _, _, by unfold iSeq; rw [e]; simp only [Option.bind_some, h1], h⟩
theorem wiR {X : List Val → (Sto → Prop) → Sto → Prop} (h : Wp (ga ρ S) fun vs S1 => ∃ j, vs = [.int j] ∧ X (rangeV 0 j.toNat) (fun _ => True) S1 ∧ -(2 ^ 62) ≤ j ∧ j < 2 ^ 62) : Wi (iRg1 ga ρ S) X := by
  obtain ⟨v, S1, e, j, rfl, h, h1, h2⟩ := h
  exact ⟨_, _, _, by unfold iRg1; rw [e]; exact if_pos ⟨h1, h2⟩, h⟩
theorem wiR2 {X : List Val → (Sto → Prop) → Sto → Prop} (h : Wp (ga ρ S) fun vs S1 => ∃ i j, vs = [.int i, .int j] ∧ X (rangeV i (j - i).toNat) (fun _ => True) S1 ∧ -(2 ^ 62) ≤ i ∧ i < 2 ^ 62 ∧ -(2 ^ 62) ≤ j ∧ j < 2 ^ 62) : Wi (iRg2 ga ρ S) X := by
  obtain ⟨v, S1, e, i, j, rfl, h, h1⟩ := h
  exact ⟨_, _, _, by unfold iRg2; rw [e]; exact if_pos h1, h⟩
theorem wiE {X : List Val → (Sto → Prop) → Sto → Prop} (h : Wp (ga ρ S) fun vs S1 => (∃ ws, vs = [.tup ws] ∧ X (enumV ws) (fun _ => True) S1) ∨ ∃ n ws, vs = [.ref n] ∧ S1[n]? = some (.lst ws) ∧ X (enumV ws) (fun S => S[n]? = some (.lst ws)) S1) : Wi (iEn ga ρ S) X := by
  obtain ⟨v, S1, e, h⟩ := h
  rcases h with ⟨vs, rfl, h⟩ | ⟨n, vs, rfl, h1, h⟩
  · exact ⟨_, _, _, by unfold iEn; rw [e]; rfl, h⟩
  · exact ⟨_, _, _, by unfold iEn; rw [e]; simp only [Option.bind_some, h1], h⟩
/-- comprehensions -/
theorem wLc {fi : IF} {own : List Nat} (h : Wi (fi ρ S) fun vs ok S1 => Wp (lcR p t f ok (wipeR ρ own) vs [] S1) fun ys S2 => Nw S2 (.lst ys) Q) : Wp (eLc p fi t f own ρ S) Q := by
  obtain ⟨vs, ok, S1, e, h⟩ := h
  unfold eLc
  rw [e]
  exact Wp.bind (h.imp fun ys S2 h => ⟨_, _, rfl, h.use⟩)
/-- each part leaves the store -/
theorem lc_pure {ok : Sto → Prop} {vs : List Val} (b : Val → Bool) (g : Val → Val) (hok : ok S) (hl : vs.length < 1000000)
    (h : ∀ v ∈ vs, Bn (p.bind v ρ) fun ρ1 => Wp (t ρ1 S) fun c T => c = b v ∧ T = S ∧ (b v = true → Wp (f ρ1 S) fun y T => y = g v ∧ T = S)) (q : A ((vs.filter b).map g) S) : Wp (lcR p t f ok ρ vs [] S) A := by
  have := lcR_pure (p := p) (t := t) (f := f) (ok := ok) (ρ := ρ) (S := S) hok b g vs [] (by simpa using hl) fun v hv => by
    obtain ⟨ρ1, h1, c, T, h2, rfl, rfl, h3⟩ := h v hv
    refine ⟨ρ1, h1, h2, fun hb => ?_⟩
    obtain ⟨y, T2, h4, rfl, rfl⟩ := h3 hb
    exact h4
  exact ⟨_, _, this, by simpa using q⟩
/-- by an invariant -/
theorem lc_inv {ok : Sto → Prop} {vs : List Val} (I : Nat → List Val → Sto → Prop) (hl : vs.length < 900000) (h0 : I 0 [] S) (hok : ∀ i a S, i ≤ vs.length → I i a S → ok S) (hlen : ∀ i a S, I i a S → a.length ≤ i)
    (step : ∀ i v a S, vs[i]? = some v → I i a S → Bn (p.bind v ρ) fun ρ1 => Wp (t ρ1 S) fun c S1 => Br c (Wp (f ρ1 S1) fun y S2 => I (i + 1) (a ++ [y]) S2) (I (i + 1) a S1))
    (q : ∀ a S, I vs.length a S → A a S) : Wp (lcR p t f ok ρ vs [] S) A := by
  have := lcR_run (p := p) (t := t) (f := f) (ok := ok) (ρ := ρ) (S := S) (fun i a S => i ≤ vs.length ∧ I i a S) hl (fun i a S h => hok i a S h.1 h.2) (fun i a S h => hlen i a S h.2) ⟨Nat.zero_le _, h0⟩ fun i v a S hv h => by
    have hi := (List.getElem?_eq_some_iff.mp hv).1
    obtain ⟨ρ1, h1, c, S1, h2, h3, h4⟩ := step i v a S hv h.2
    refine ⟨ρ1, h1, ?_⟩
    cases c with
    | true =>
      obtain ⟨y, S2, h5, h6⟩ := h3 rfl
      exact .inl ⟨S1, y, S2, h2, h5, hi, h6⟩
    | false => exact .inr ⟨S1, h2, hi, h4 rfl⟩
  obtain ⟨a, S1, e, _, h⟩ := this
  exact ⟨a, S1, e, q a S1 h⟩
end
theorem Kn.at {S T : Sto} (k : Kn S T) {n : Nat} {o : Ob} (h : S[n]? = some o) : T[n]? = some o := k n o h
theorem Kx.at {x : Nat} {S T : Sto} (k : Kx x S T) {n : Nat} {o : Ob} (hn : n ≠ x) (h : S[n]? = some o) : T[n]? = some o := k n o hn h
theorem tf {P : Prop} (h : true = false) : P := nomatch h
theorem lt_of_at {S : Sto} {n : Nat} {o : Ob} (h : S[n]? = some o) : n < S.length := (List.getElem?_eq_some_iff.mp h).1
end AL
namespace AL
open PySem PySem.Spec PyProof.Rows L2 G Th
variable [TT]
section
variable {ρ : Rho} {S : Sto} {ga gk : AF} {Q : Val → Sto → Prop}
theorem wDefK {F : FA} {n m : Nat} {gA : List Val → List Val → List Val} (h : Wp (ga ρ S) fun vs S1 => Wp (gk ρ S1) fun ws S2 => Sd (vs.length = n ∧ ws.length = m) (Wp (F (gA vs ws) S2) Q)) : Wp (eDefK F n m gA ga gk ρ S) Q := Wp.bind (h.imp fun x S1 h => Wp.bind (h.imp fun y S2 h => by
  show Wp (if x.length = n ∧ y.length = m then F (gA x y) S2 else none) Q
  rw [if_pos h.1]
  exact h.2))
theorem vIsi {x : Val} {T a : String} {b : Bool} (ht : tyN x S = some a) (hk : L2.kitB a T = some b) (q : Q (.bl b) S) : Wp (gIsi T x S) Q := ⟨_, _, by simp only [gIsi, ht, Option.bind_some, hk, Option.map_some], q⟩
theorem vAll {x : Val} {n : Nat} {bs : List Bool} (hx : x = .ref n) (h : S[n]? = some (.lst (bs.map Val.bl))) (q : Q (.bl (bs.all id)) S) : Wp (gAll [x] S) Q := by
  subst hx
  exact ⟨_, _, by simp only [gAll, h, bls_map, Option.map_some], q⟩
theorem vIsT {x y : Val} {a b : Bool} (hx : x = .bl a) (hy : y = .bl b) (q : Q (.bl (decide (a = b))) S) : Wp (gIsT x y S) Q := by subst hx hy; exact ⟨_, _, rfl, q⟩
theorem vIsNT {x y : Val} {a b : Bool} (hx : x = .bl a) (hy : y = .bl b) (q : Q (.bl (!decide (a = b))) S) : Wp (gIsNT x y S) Q := by subst hx hy; exact ⟨_, _, rfl, q⟩
theorem vCatL {x y : Val} {n m : Nat} {vs ws : List Val} (hx : x = .ref n) (hy : y = .ref m) (h : S[n]? = some (.lst vs)) (h' : S[m]? = some (.lst ws)) (hl : vs.length + ws.length ≤ 1000000) (q : Nw S (.lst (vs ++ ws)) Q) : Wp (gAdd x y S) Q := by
  subst hx hy
  exact ⟨_, _, by simp only [gAdd, h, h', if_pos (mill hl)], q.use⟩
theorem vPop {x : Val} {n k : Nat} {i : Int} {vs : List Val} {v : Val} (hx : x = .ref n) (h : S[n]? = some (.lst vs)) (hi : i = (k : Nat)) (hk : vs[k]? = some v) (hl : vs.length < 1000000) (q : Pt S n (.lst (vs.eraseIdx k)) (Q v)) : Wp (gPop x [.int i] S) Q := by
  subst hx hi
  have lt := (List.getElem?_eq_some_iff.mp hk).1
  have e : seqIndex? ((k : Nat) : Int) vs.length = some k := by
    unfold seqIndex?
    simp only []
    first
      | (rw [if_neg (by omega)]; simp; omega)
      | (simp; omega)
  refine ⟨v, _, ?_, q.use h⟩
  simp only [gPop, h]
  rw [if_pos (by omega)]
  simp only [e, hk]
theorem wiZ {X : List Val → (Sto → Prop) → Sto → Prop} (h : Wp (ga ρ S) fun vs S1 => ∃ as bs, vs = [.tup as, .tup bs] ∧ X (zipV as bs) (fun _ => True) S1) : Wi (iZp ga ρ S) X := by
  obtain ⟨v, S1, e, as, bs, rfl, h⟩ := h
  exact ⟨_, _, _, by unfold iZp; rw [e]; rfl, h⟩
end
end AL
namespace AL
open PySem PySem.Spec PyProof.Rows L2 G Th
variable [TT]
def maxI : Int → List Int → Int
  | a, [] => a
  | a, b :: r => maxI (if a < b then b else a) r
theorem maxI_ok : ∀ (a : Int) (r : List Int), maxI a r ∈ a :: r ∧ ∀ y ∈ a :: r, y ≤ maxI a r
  | a, [] => ⟨by simp [maxI], fun y hy => by simp at hy; simp [maxI, hy]⟩
  | a, b :: r => by
    obtain ⟨h1, h2⟩ := maxI_ok (if a < b then b else a) r
    unfold maxI
    refine ⟨?_, fun y hy => ?_⟩
    · rcases List.mem_cons.mp h1 with z | z
      · rw [z]
        split <;> simp
      · simp [z]
    · have h0 := h2 _ (List.mem_cons_self)
      rcases List.mem_cons.mp hy with rfl | hy
      · refine Int.le_trans ?_ h0
        split <;> omega
      · rcases List.mem_cons.mp hy with rfl | hy
        · refine Int.le_trans ?_ h0
          split <;> omega
        · exact h2 y (List.mem_cons_of_mem _ hy)
def minI (a : Int) (r : List Int) : Int := - maxI (-a) (r.map (- ·))
theorem minI_ok (a : Int) (r : List Int) : minI a r ∈ a :: r ∧ ∀ y ∈ a :: r, minI a r ≤ y := by
  obtain ⟨h1, h2⟩ := maxI_ok (-a) (r.map (- ·))
  have e : -a :: r.map (- ·) = (a :: r).map (- ·) := rfl
  rw [e] at h1 h2
  unfold minI
  refine ⟨?_, fun y hy => ?_⟩
  · obtain ⟨z, hz, ez⟩ := List.mem_map.mp h1
    rw [← ez]
    simpa using hz
  · have := h2 (-y) (List.mem_map_of_mem hy)
    omega
section
variable {X : Cx} {K : PySem.W.Frag}
def gMaxA : List Val → Sto → Option (Val × Sto) := fun xs S => match xs with
  | [.int i, .int j] => some (.int (if j > i then j else i), S)
  | [.ref n] => match S[n]? with
    | some (.lst vs) => match intsOf vs with
      | some (a :: r) => some (.int (maxI a r), S)
      | _ => none
    | _ => none
  | _ => none
def gMinA : List Val → Sto → Option (Val × Sto) := fun xs S => match xs with
  | [.int i, .int j] => some (.int (if j < i then j else i), S)
  | [.ref n] => match S[n]? with
    | some (.lst vs) => match intsOf vs with
      | some (a :: r) => some (.int (minI a r), S)
      | _ => none
    | _ => none
  | _ => none
theorem call_maxA (hc : X.calm = true) : CallR X (.builtin "max") (fun xs H Q => (∃ i j, xs = [.int i, .int j] ∧ Q (.int (if j > i then j else i)) H) ∨ rMax X.K xs H Q) := CallR.or (call_max2 hc) (cr_max hc)
theorem call_minA (hc : X.calm = true) : CallR X (.builtin "min") (fun xs H Q => (∃ i j, xs = [.int i, .int j] ∧ Q (.int (if j < i then j else i)) H) ∨ rMin X.K xs H Q) := CallR.or (call_min2 hc) (cr_min hc)
theorem cMaxA : CaA K (fun xs H Q => (∃ i j, xs = [.int i, .int j] ∧ Q (.int (if j > i then j else i)) H) ∨ rMax K xs H Q) gMaxA := by
  intro m S H xs v S' us Q R r e q
  unfold gMaxA at e
  split at e
  · cases e
    obtain ⟨u, z, rfl, ru, rz⟩ := r.two_of
    cases ru
    cases rz
    exact .inl ⟨_, _, rfl, q m _ H (.refl _ _) R (.int _)⟩
  · split at e
    · next n _ vs en =>
      split at e
      · next a t hns =>
        cases e
        obtain ⟨u, rfl, ru⟩ := r.one_of
        cases ru with
        | ref ha =>
          obtain ⟨zs, hz, rz⟩ := R.ob _ _ _ en ha
          have rz : VRs K H m zs vs := rz
          rw [ints_eq hns] at rz
          have ez := rz.ints
          subst ez
          refine .inr ⟨_, a :: t, rfl, SqL.of hz, by simp, fun M h1 h2 => ?_⟩
          obtain ⟨k1, k2⟩ := maxI_ok a t
          have : M = maxI a t := by
            have := h2 _ k1
            have := k2 _ h1
            omega
          rw [this]
          exact q m _ H (.refl _ _) R (.int _)
      · cases e
    · cases e
  · cases e
theorem cMinA : CaA K (fun xs H Q => (∃ i j, xs = [.int i, .int j] ∧ Q (.int (if j < i then j else i)) H) ∨ rMin K xs H Q) gMinA := by
  intro m S H xs v S' us Q R r e q
  unfold gMinA at e
  split at e
  · cases e
    obtain ⟨u, z, rfl, ru, rz⟩ := r.two_of
    cases ru
    cases rz
    exact .inl ⟨_, _, rfl, q m _ H (.refl _ _) R (.int _)⟩
  · split at e
    · next n _ vs en =>
      split at e
      · next a t hns =>
        cases e
        obtain ⟨u, rfl, ru⟩ := r.one_of
        cases ru with
        | ref ha =>
          obtain ⟨zs, hz, rz⟩ := R.ob _ _ _ en ha
          have rz : VRs K H m zs vs := rz
          rw [ints_eq hns] at rz
          have ez := rz.ints
          subst ez
          refine .inr ⟨_, a :: t, rfl, SqL.of hz, by simp, fun M h1 h2 => ?_⟩
          obtain ⟨k1, k2⟩ := minI_ok a t
          have : M = minI a t := by
            have := h2 _ k1
            have := k2 _ h1
            omega
          rw [this]
          exact q m _ H (.refl _ _) R (.int _)
      · cases e
    · cases e
  · cases e
end
section
variable {ρ : Rho} {S : Sto} {Q : Val → Sto → Prop} {N : Rho → Sto → Prop} {R : Val → Sto → Prop}
/-- dict comprehensions, by an invariant -/
theorem dc_inv {p : Pat} {t : BF} {fk f : EF} {ok : Sto → Prop} {vs : List Val} {A : List (Key × Val) → Sto → Prop} (I : Nat → List (Key × Val) → Sto → Prop) (hok : ∀ i a S, i ≤ vs.length → I i a S → ok S) (hlen : ∀ i a S, I i a S → a.length < 1000000)
    (step : ∀ i v a S, vs[i]? = some v → I i a S → Bn (p.bind v ρ) fun ρ1 => Wp (t ρ1 S) fun c S1 => Br c (Wp (fk ρ1 S1) fun k S2 => Wp (f ρ1 S2) fun y S3 => ∃ kk, AL.keyOf k = some kk ∧ I (i + 1) (putA a kk y) S3) (I (i + 1) a S1))
    (q : ∀ a S, I vs.length a S → A a S) (h0 : I 0 [] S) : Wp (dcR p t fk f ok ρ vs [] S) A := by
  have go : ∀ (n i : Nat) (a : List (Key × Val)) (S : Sto), n + i = vs.length → I i a S → Wp (dcR p t fk f ok ρ (vs.drop i) a S) A := by
    intro n
    induction n with
    | zero =>
      intro i a S hi hI
      have : i = vs.length := by omega
      subst this
      rw [List.drop_length]
      exact ⟨a, S, by unfold dcR; rw [if_pos (hok _ _ _ (Nat.le_refl _) hI)], q a S hI⟩
    | succ n ih =>
      intro i a S hi hI
      have hl : i < vs.length := by omega
      rw [List.drop_eq_getElem_cons hl]
      obtain ⟨ρ1, e1, c, S1, e2, h1, h2⟩ := step i _ a S (List.getElem?_eq_getElem hl) hI
      have o := hok i a S (by omega) hI
      cases c with
      | true =>
        obtain ⟨k, S2, e3, y, S3, e4, kk, e5, h⟩ := h1 rfl
        obtain ⟨r, S4, e6, ha⟩ := ih (i + 1) _ S3 (by omega) h
        refine ⟨r, S4, ?_, ha⟩
        unfold dcR
        rw [if_pos o, e1, Option.bind_some, e2, Option.bind_some, if_pos rfl, e3, Option.bind_some, e4, Option.bind_some]
        simp only [e5]
        rw [if_pos (hlen i a S hI)]
        exact e6
      | false =>
        obtain ⟨r, S4, e6, ha⟩ := ih (i + 1) a S1 (by omega) (h2 rfl)
        refine ⟨r, S4, ?_, ha⟩
        unfold dcR
        rw [if_pos o, e1, Option.bind_some, e2, Option.bind_some, if_neg (by simp)]
        exact e6
  have := go vs.length 0 [] S (by omega) h0
  rwa [List.drop_zero] at this
theorem wDc {p : Pat} {fi : IF} {t : BF} {fk f : EF} {own : List Nat} (h : Wi (fi ρ S) fun vs ok S1 => Wp (dcR p t fk f ok (wipeR ρ own) vs [] S1) fun ys S2 => Nw S2 (.dic ys) Q) : Wp (eDc p fi t fk f own ρ S) Q := by
  obtain ⟨vs, ok, S1, e, h⟩ := h
  unfold eDc
  rw [e]
  exact Wp.bind (h.imp fun ys S2 h => ⟨_, _, rfl, h.use⟩)
end
end AL
namespace NR
open PySem PySem.Spec PyProof.Rows L2
theorem min_txtE {prog : Program} {w : World} {A : Around} {E : Value → Shared → Prop} {s : Shared} {a b : Str} {t u : Tok} {Q : Value → Shared → Prop} (hh : A.handled = none)
    (h : ∀ h' tk, (∀ c o, s.heap.get? c = some o → h'.get? c = some o) → Q (if b.cps.toList < a.cps.toList then .str b u else .str a t) { s with heap := h', toks := tk }) :
    wpAny (model prog w) A (call (.builtin "min") [.str a t, .str b u]) Q E s := by
  let its : Array Value := #[.str a t, .str b u]
  have at2 : ∀ (i : Nat) (v : Value), its[i]? = some v → v = Value.str a t ∨ v = Value.str b u := by
    intro i v e
    match i, e with
    | 0, e => cases e; exact .inl rfl
    | 1, e => cases e; exact .inr rfl
  have cmp : CmpOf prog w A.in1 .Lt (fun i v => its[i]? = some v) (fun i j => match i, j with
      | 0, 0 => decide (a.cps.toList < a.cps.toList)
      | 0, _ + 1 => decide (a.cps.toList < b.cps.toList)
      | _ + 1, 0 => decide (b.cps.toList < a.cps.toList)
      | _ + 1, _ + 1 => decide (b.cps.toList < b.cps.toList)) := by
    intro i j vi vj s' Q' E' hi hj hq
    have one : ∀ (x y : Str) (p q : Tok), Q' (.bool (decide (x.cps.toList < y.cps.toList))) s' → wpAny (model prog w) A.in1 (richCompare .Lt (.str x p) (.str y q)) Q' E' s' := by
      intro x y p q hx
      exact richCompare_gives (op := .Lt) (typeIs_str s' _ p) (typeIs_str s' _ q) F.slot_str_lt F.entry_str_lt (F.args_str_lt_2 _ _) (gives_str_lt _ _ p q) (fun x => nomatch x) hx
    match i, j, hi, hj, hq with
    | 0, 0, hi, hj, hq => cases hi; cases hj; exact one _ _ _ _ hq
    | 0, 1, hi, hj, hq => cases hi; cases hj; exact one _ _ _ _ hq
    | 1, 0, hi, hj, hq => cases hi; cases hj; exact one _ _ _ _ hq
    | 1, 1, hi, hj, hq => cases hi; cases hj; exact one _ _ _ _ hq
  let h1 := s.heap.push { cls := .type "tuple", data := .seq its }
  have z1 : h1.objs.size = s.heap.objs.size + 1 := Heap.size_push ..
  have tup : h1.IsTuple s.heap.objs.size its := ⟨_, Heap.get?_push_size _ rfl, rfl, 0, rfl⟩
  refine call_min_two (wpAny_pyIter_tuple tup ?_)
  refine ⟨_, [_, s.heap.objs.size], [_], _, _, _, _, rfl, Walks.tuple (A := A.in1) hh _ s.heap.objs.size ?_ its, ⟨⟨_, Heap.get?_push_size _ rfl, rfl, rfl⟩, tup.push _⟩, ?_, by simp [its], cmp, ?_⟩
  · rw [z1]
    exact Nat.ne_of_lt (Nat.lt_succ_self _)
  · intro c hc
    show c < (h1.push _).objs.size
    rw [Heap.size_push]
    simp only [List.mem_cons, List.not_mem_nil, or_false] at hc
    rcases hc with rfl | rfl
    · exact Nat.lt_succ_self _
    · rw [z1]
      exact Nat.lt_succ_of_lt (Nat.lt_succ_self _)
  · intro v h' tk hP hk
    have hP : its[if decide (b.cps.toList < a.cps.toList) = true then 1 else 0]? = some v := hP
    have ev : v = if b.cps.toList < a.cps.toList then .str b u else .str a t := by
      by_cases z : b.cps.toList < a.cps.toList
      · rw [decide_eq_true z, if_pos rfl] at hP
        rw [if_pos z]
        cases hP
        rfl
      · rw [decide_eq_false z, if_neg (by simp)] at hP
        rw [if_neg z]
        cases hP
        rfl
    rw [ev]
    refine h h' tk fun c o e => hk c o (fun hm => ?_) (Heap.get?_push_of_some _ (Heap.get?_push_of_some _ e))
    have l := Heap.lt_size e
    simp only [List.mem_cons, List.not_mem_nil, or_false] at hm
    subst hm
    have l2 : h1.objs.size < s.heap.objs.size := l
    rw [z1] at l2
    exact Nat.lt_irrefl _ (Nat.lt_of_succ_lt l2)
theorem max_txtE {prog : Program} {w : World} {A : Around} {E : Value → Shared → Prop} {s : Shared} {a b : Str} {t u : Tok} {Q : Value → Shared → Prop} (hh : A.handled = none)
    (h : ∀ h' tk, (∀ c o, s.heap.get? c = some o → h'.get? c = some o) → Q (if a.cps.toList < b.cps.toList then .str b u else .str a t) { s with heap := h', toks := tk }) :
    wpAny (model prog w) A (call (.builtin "max") [.str a t, .str b u]) Q E s := by
  let its : Array Value := #[.str a t, .str b u]
  have at2 : ∀ (i : Nat) (v : Value), its[i]? = some v → v = Value.str a t ∨ v = Value.str b u := by
    intro i v e
    match i, e with
    | 0, e => cases e; exact .inl rfl
    | 1, e => cases e; exact .inr rfl
  have cmp : CmpOf prog w A.in1 .Gt (fun i v => its[i]? = some v) (fun i j => match i, j with
      | 0, 0 => decide (a.cps.toList > a.cps.toList)
      | 0, _ + 1 => decide (a.cps.toList > b.cps.toList)
      | _ + 1, 0 => decide (b.cps.toList > a.cps.toList)
      | _ + 1, _ + 1 => decide (b.cps.toList > b.cps.toList)) := by
    intro i j vi vj s' Q' E' hi hj hq
    have one : ∀ (x y : Str) (p q : Tok), Q' (.bool (decide (x.cps.toList > y.cps.toList))) s' → wpAny (model prog w) A.in1 (richCompare .Gt (.str x p) (.str y q)) Q' E' s' := by
      intro x y p q hx
      exact richCompare_gives (op := .Gt) (typeIs_str s' _ p) (typeIs_str s' _ q) F.slot_str_gt F.entry_str_gt (F.args_str_gt_2 _ _) (gives_str_gt _ _ p q) (fun x => nomatch x) hx
    match i, j, hi, hj, hq with
    | 0, 0, hi, hj, hq => cases hi; cases hj; exact one _ _ _ _ hq
    | 0, 1, hi, hj, hq => cases hi; cases hj; exact one _ _ _ _ hq
    | 1, 0, hi, hj, hq => cases hi; cases hj; exact one _ _ _ _ hq
    | 1, 1, hi, hj, hq => cases hi; cases hj; exact one _ _ _ _ hq
  let h1 := s.heap.push { cls := .type "tuple", data := .seq its }
  have z1 : h1.objs.size = s.heap.objs.size + 1 := Heap.size_push ..
  have tup : h1.IsTuple s.heap.objs.size its := ⟨_, Heap.get?_push_size _ rfl, rfl, 0, rfl⟩
  refine call_max_two (wpAny_pyIter_tuple tup ?_)
  refine ⟨_, [_, s.heap.objs.size], [_], _, _, _, _, rfl, Walks.tuple (A := A.in1) hh _ s.heap.objs.size ?_ its, ⟨⟨_, Heap.get?_push_size _ rfl, rfl, rfl⟩, tup.push _⟩, ?_, by simp [its], cmp, ?_⟩
  · rw [z1]
    exact Nat.ne_of_lt (Nat.lt_succ_self _)
  · intro c hc
    show c < (h1.push _).objs.size
    rw [Heap.size_push]
    simp only [List.mem_cons, List.not_mem_nil, or_false] at hc
    rcases hc with rfl | rfl
    · exact Nat.lt_succ_self _
    · rw [z1]
      exact Nat.lt_succ_of_lt (Nat.lt_succ_self _)
  · intro v h' tk hP hk
    have hP : its[if decide (a.cps.toList < b.cps.toList) = true then 1 else 0]? = some v := hP
    have ev : v = if a.cps.toList < b.cps.toList then .str b u else .str a t := by
      by_cases z : a.cps.toList < b.cps.toList
      · rw [decide_eq_true z, if_pos rfl] at hP
        rw [if_pos z]
        cases hP
        rfl
      · rw [decide_eq_false z, if_neg (by simp)] at hP
        rw [if_neg z]
        cases hP
        rfl
    rw [ev]
    refine h h' tk fun c o e => hk c o (fun hm => ?_) (Heap.get?_push_of_some _ (Heap.get?_push_of_some _ e))
    have l := Heap.lt_size e
    simp only [List.mem_cons, List.not_mem_nil, or_false] at hm
    subst hm
    have l2 : h1.objs.size < s.heap.objs.size := l
    rw [z1] at l2
    exact Nat.lt_irrefl _ (Nat.lt_of_succ_lt l2)
end NR
namespace AL
open PySem PySem.Spec PyProof.Rows L2 G Th
variable [TT]
section
variable {X : Cx} {K : PySem.W.Frag}
theorem call_minSE (hc : X.calm = true) : CallR X (.builtin "min") (fun xs H Q => ∃ a b : Str, xs = [.str a, .str b] ∧ Q (.str (if b.cps.toList < a.cps.toList then b else a)) H) := by
  intro pins s σ H xs us Q I r h
  obtain ⟨a, b, rfl, q⟩ := h
  obtain ⟨u, v, rfl, ⟨t, rfl⟩, ⟨t', rfl⟩⟩ := vals2 r
  refine NR.min_txtE (I.ok.hd hc) fun h' tk k => ?_
  by_cases c : b.cps.toList < a.cps.toList
  · rw [if_pos c] at q ⊢
    exact ⟨.str b, H, I.kept k, ⟨_, rfl⟩, q⟩
  · rw [if_neg c] at q ⊢
    exact ⟨.str a, H, I.kept k, ⟨_, rfl⟩, q⟩
theorem call_maxSE (hc : X.calm = true) : CallR X (.builtin "max") (fun xs H Q => ∃ a b : Str, xs = [.str a, .str b] ∧ Q (.str (if a.cps.toList < b.cps.toList then b else a)) H) := by
  intro pins s σ H xs us Q I r h
  obtain ⟨a, b, rfl, q⟩ := h
  obtain ⟨u, v, rfl, ⟨t, rfl⟩, ⟨t', rfl⟩⟩ := vals2 r
  refine NR.max_txtE (I.ok.hd hc) fun h' tk k => ?_
  by_cases c : a.cps.toList < b.cps.toList
  · rw [if_pos c] at q ⊢
    exact ⟨.str b, H, I.kept k, ⟨_, rfl⟩, q⟩
  · rw [if_neg c] at q ⊢
    exact ⟨.str a, H, I.kept k, ⟨_, rfl⟩, q⟩
def gMinB : List Val → Sto → Option (Val × Sto) := fun xs S => match xs with
  | [.str a, .str b] => some (.str (if b.cps.toList < a.cps.toList then b else a), S)
  | xs => gMinA xs S
def gMaxB : List Val → Sto → Option (Val × Sto) := fun xs S => match xs with
  | [.str a, .str b] => some (.str (if a.cps.toList < b.cps.toList then b else a), S)
  | xs => gMaxA xs S
theorem call_minB (hc : X.calm = true) : CallR X (.builtin "min") (fun xs H Q => ((∃ i j, xs = [.int i, .int j] ∧ Q (.int (if j < i then j else i)) H) ∨ rMin X.K xs H Q) ∨ ∃ a b : Str, xs = [.str a, .str b] ∧ Q (.str (if b.cps.toList < a.cps.toList then b else a)) H) := CallR.or (call_minA hc) (call_minSE hc)
theorem call_maxB (hc : X.calm = true) : CallR X (.builtin "max") (fun xs H Q => ((∃ i j, xs = [.int i, .int j] ∧ Q (.int (if j > i then j else i)) H) ∨ rMax X.K xs H Q) ∨ ∃ a b : Str, xs = [.str a, .str b] ∧ Q (.str (if a.cps.toList < b.cps.toList then b else a)) H) := CallR.or (call_maxA hc) (call_maxSE hc)
theorem cMinB : CaA K (fun xs H Q => ((∃ i j, xs = [.int i, .int j] ∧ Q (.int (if j < i then j else i)) H) ∨ rMin K xs H Q) ∨ ∃ a b : Str, xs = [.str a, .str b] ∧ Q (.str (if b.cps.toList < a.cps.toList then b else a)) H) gMinB := by
  intro m S H xs v S' us Q R r e q
  unfold gMinB at e
  split at e
  · cases e
    obtain ⟨u, z, rfl, ru, rz⟩ := r.two_of
    cases ru
    cases rz
    exact .inr ⟨_, _, rfl, q m _ H (.refl _ _) R (.str _)⟩
  · exact .inl (cMinA m S H _ v S' us Q R r e q)
theorem cMaxB : CaA K (fun xs H Q => ((∃ i j, xs = [.int i, .int j] ∧ Q (.int (if j > i then j else i)) H) ∨ rMax K xs H Q) ∨ ∃ a b : Str, xs = [.str a, .str b] ∧ Q (.str (if a.cps.toList < b.cps.toList then b else a)) H) gMaxB := by
  intro m S H xs v S' us Q R r e q
  unfold gMaxB at e
  split at e
  · cases e
    obtain ⟨u, z, rfl, ru, rz⟩ := r.two_of
    cases ru
    cases rz
    exact .inr ⟨_, _, rfl, q m _ H (.refl _ _) R (.str _)⟩
  · exact .inl (cMaxA m S H _ v S' us Q R r e q)
end
end AL
namespace AL
open PySem PySem.Spec PyProof.Rows L2 G
variable [TT]
section
variable {X : Cx} {K : PySem.W.Frag}
def gInD (neg : Bool) : Val → Val → Sto → Option (Val × Sto) := fun x y S => match toD S 40 x, toD S 40 y with
  | some d, some (.list ds) => if SeqAt.shaped d = true ∧ SeqAt.shaped (.list ds) = true then some (.bl (if neg then !(ds.any fun z => PyData.eqv z d) else ds.any fun z => PyData.eqv z d), S) else none
  | _, _ => none
theorem oInD : OpA K (rInD K) (gInD false) := by
  intro m S H x y v S' u w Q R ru rw_ e q
  unfold gInD at e
  split at e
  · next d ds e1 e2 =>
    split at e
    · next hs =>
      cases e
      exact ⟨d, ds, toD_dp R 40 _ _ _ ru e1, toD_dp R 40 _ _ _ rw_ e2, hs.1, hs.2, q m _ H (.refl _ _) R (.bl _)⟩
    · cases e
  · cases e
theorem oNInD : OpA K (rNotInD K) (gInD true) := by
  intro m S H x y v S' u w Q R ru rw_ e q
  unfold gInD at e
  split at e
  · next d ds e1 e2 =>
    split at e
    · next hs =>
      cases e
      exact ⟨d, ds, toD_dp R 40 _ _ _ ru e1, toD_dp R 40 _ _ _ rw_ e2, hs.1, hs.2, q m _ H (.refl _ _) R (.bl _)⟩
    · cases e
  · cases e
theorem hu65 {k : Nat} {A : Around} (r : Room k A) : A.units + 65 < cLine := by have := r.un; omega
end
end AL
namespace Od
open PySem PySem.Spec PyProof.Rows L2
inductive Tr where
  | i (n : Int)
  | s (l : List Nat)
  | t (l : List Tr)
mutual
def bq : Tr → Tr → Bool
  | .i a, .i b => decide (a = b)
  | .s a, .s b => decide (a = b)
  | .t a, .t b => bqs a b
  | _, _ => false
def bqs : List Tr → List Tr → Bool
  | [], [] => true
  | x :: xs, y :: ys => bq x y && bqs xs ys
  | _, _ => false
end
mutual
theorem bq_iff : ∀ x y : Tr, bq x y = true ↔ x = y
  | .i a, .i b => by simp [bq]
  | .s a, .s b => by simp [bq]
  | .t a, .t b => by simp only [bq, Tr.t.injEq]; exact bqs_iff a b
  | .i _, .s _ => by simp [bq]
  | .i _, .t _ => by simp [bq]
  | .s _, .i _ => by simp [bq]
  | .s _, .t _ => by simp [bq]
  | .t _, .i _ => by simp [bq]
  | .t _, .s _ => by simp [bq]
theorem bqs_iff : ∀ x y : List Tr, bqs x y = true ↔ x = y
  | [], [] => by simp [bqs]
  | [], _ :: _ => by simp [bqs]
  | _ :: _, [] => by simp [bqs]
  | x :: xs, y :: ys => by
    simp only [bqs, Bool.and_eq_true, List.cons.injEq]
    rw [bq_iff x y, bqs_iff xs ys]
end
mutual
def lt : Tr → Tr → Bool
  | .i a, .i b => decide (a < b)
  | .i _, .s _ => true
  | .i _, .t _ => true
  | .s _, .i _ => false
  | .s a, .s b => strKind.blt a b
  | .s _, .t _ => true
  | .t _, .i _ => false
  | .t _, .s _ => false
  | .t a, .t b => lts a b
def lts : List Tr → List Tr → Bool
  | [], [] => false
  | [], _ :: _ => true
  | _ :: _, [] => false
  | x :: xs, y :: ys => if bq x y = true then lts xs ys else lt x y
end
mutual
theorem irr : ∀ x : Tr, lt x x = false
  | .i a => by simp [lt]
  | .s a => by simp only [lt]; exact strKind.irrefl a
  | .t a => by simp only [lt]; exact irrs a
theorem irrs : ∀ x : List Tr, lts x x = false
  | [] => by simp [lts]
  | x :: xs => by rw [lts, if_pos ((bq_iff x x).mpr rfl), irrs xs]
end
mutual
theorem tot : ∀ x y : Tr, lt x y = false → lt y x = false → x = y
  | .i a, .i b, h, g => by
    simp only [lt, decide_eq_false_iff_not] at h g
    rw [show a = b by omega]
  | .i _, .s _, h, _ => by simp [lt] at h
  | .i _, .t _, h, _ => by simp [lt] at h
  | .s _, .i _, _, g => by simp [lt] at g
  | .s a, .s b, h, g => by
    simp only [lt] at h g
    rw [strKind.total a b h g]
  | .s _, .t _, h, _ => by simp [lt] at h
  | .t _, .i _, _, g => by simp [lt] at g
  | .t _, .s _, _, g => by simp [lt] at g
  | .t a, .t b, h, g => by
    simp only [lt] at h g
    rw [tots a b h g]
theorem tots : ∀ x y : List Tr, lts x y = false → lts y x = false → x = y
  | [], [], _, _ => rfl
  | [], _ :: _, h, _ => by simp [lts] at h
  | _ :: _, [], _, g => by simp [lts] at g
  | x :: xs, y :: ys, h, g => by
    by_cases e : x = y
    · subst e
      rw [lts, if_pos ((bq_iff _ _).mpr rfl)] at h g
      rw [tots xs ys h g]
    · rw [lts, if_neg (fun z => e ((bq_iff _ _).mp z))] at h
      rw [lts, if_neg (fun z => e ((bq_iff _ _).mp z).symm)] at g
      exact absurd (tot x y h g) e
end
mutual
theorem tra : ∀ x y z : Tr, lt x y = true → lt y z = true → lt x z = true
  | .i a, .i b, .i c, h, g => by
    simp only [lt, decide_eq_true_eq] at h g ⊢
    omega
  | .i _, .i _, .s _, _, _ => by simp [lt]
  | .i _, .i _, .t _, _, _ => by simp [lt]
  | .i _, .s _, .i _, _, g => by simp [lt] at g
  | .i _, .s _, .s _, _, _ => by simp [lt]
  | .i _, .s _, .t _, _, _ => by simp [lt]
  | .i _, .t _, .i _, _, g => by simp [lt] at g
  | .i _, .t _, .s _, _, _ => by simp [lt]
  | .i _, .t _, .t _, _, _ => by simp [lt]
  | .s _, .i _, _, h, _ => by simp [lt] at h
  | .s _, .s _, .i _, _, g => by simp [lt] at g
  | .s a, .s b, .s c, h, g => by
    simp only [lt] at h g ⊢
    exact strKind.trans a b c h g
  | .s _, .s _, .t _, _, _ => by simp [lt]
  | .s _, .t _, .i _, _, g => by simp [lt] at g
  | .s _, .t _, .s _, _, g => by simp [lt] at g
  | .s _, .t _, .t _, _, _ => by simp [lt]
  | .t _, .i _, _, h, _ => by simp [lt] at h
  | .t _, .s _, _, h, _ => by simp [lt] at h
  | .t _, .t _, .i _, _, g => by simp [lt] at g
  | .t _, .t _, .s _, _, g => by simp [lt] at g
  | .t a, .t b, .t c, h, g => by
    simp only [lt] at h g ⊢
    exact tras a b c h g
theorem tras : ∀ x y z : List Tr, lts x y = true → lts y z = true → lts x z = true
  | [], [], _, h, _ => by simp [lts] at h
  | [], _ :: _, [], _, g => by simp [lts] at g
  | [], _ :: _, _ :: _, _, _ => by simp [lts]
  | _ :: _, [], _, h, _ => by simp [lts] at h
  | _ :: _, _ :: _, [], _, g => by simp [lts] at g
  | x :: xs, y :: ys, z :: zs, h, g => by
    by_cases e1 : x = y
    · subst e1
      rw [lts, if_pos ((bq_iff _ _).mpr rfl)] at h
      by_cases e2 : x = z
      · subst e2
        rw [lts, if_pos ((bq_iff _ _).mpr rfl)] at g ⊢
        exact tras xs ys zs h g
      · rw [lts, if_neg (fun w => e2 ((bq_iff _ _).mp w))] at g ⊢
        exact g
    · rw [lts, if_neg (fun w => e1 ((bq_iff _ _).mp w))] at h
      by_cases e2 : y = z
      · subst e2
        rw [lts, if_neg (fun w => e1 ((bq_iff _ _).mp w))]
        exact h
      · rw [lts, if_neg (fun w => e2 ((bq_iff _ _).mp w))] at g
        by_cases e3 : x = z
        · subst e3
          have := tra x y x h g
          rw [irr] at this
          cases this
        · rw [lts, if_neg (fun w => e3 ((bq_iff _ _).mp w))]
          exact tra x y z h g
end
theorem asy (a b : Tr) (h : lt a b = true) : lt b a = false := by
  cases e : lt b a with
  | false => rfl
  | true =>
    have := tra a b a h e
    rw [irr] at this
    cases this
theorem ntr (x y z : Tr) (h1 : lt y x = false) (h2 : lt z y = false) : lt z x = false := by
  cases e : lt z x with
  | false => rfl
  | true =>
    cases f : lt x y with
    | true =>
      rw [tra z x y e f] at h2
      cases h2
    | false =>
      have e2 := tot x y f h1
      subst e2
      rw [e] at h2
      cases h2
theorem lts_same (x : Tr) (xs ys : List Tr) : lts (x :: xs) (x :: ys) = lts xs ys := by rw [lts, if_pos ((bq_iff _ _).mpr rfl)]
theorem lts_other {x y : Tr} (h : x ≠ y) (xs ys : List Tr) : lts (x :: xs) (y :: ys) = lt x y := by rw [lts, if_neg (fun w => h ((bq_iff _ _).mp w))]
mutual
def toT : PyData → Tr
  | .int a => .i a
  | .str x => .s x.cps.toList
  | .tuple xs => .t (toTs xs)
  | _ => .i 0
def toTs : List PyData → List Tr
  | [] => []
  | x :: xs => toT x :: toTs xs
end
mutual
def sm : PyData → PyData → Bool
  | .int _, .int _ => true
  | .str _, .str _ => true
  | .tuple xs, .tuple ys => sms xs ys
  | _, _ => false
def sms : List PyData → List PyData → Bool
  | [], _ => true
  | _ :: _, [] => true
  | x :: xs, y :: ys => sm x y && sms xs ys
end
theorem str_inj {x y : Str} (h : x.cps.toList = y.cps.toList) : x = y := by
  have hc : x.cps = y.cps := Array.toList_inj.mp h
  cases x
  cases y
  simp only [Str.mk.injEq]
  exact hc
mutual
theorem eqv_iff : ∀ d e : PyData, sm d e = true → (PyData.eqv d e = true ↔ toT d = toT e)
  | .int a, .int b, _ => by simp [PyData.eqv, toT]
  | .str a, .str b, _ => by
    simp only [PyData.eqv, toT, beq_iff_eq, Tr.s.injEq]
    exact ⟨fun h => by rw [h], str_inj⟩
  | .tuple xs, .tuple ys, h => by
    simp only [sm] at h
    simp only [PyData.eqv, toT, Tr.t.injEq]
    exact eqvs_iff xs ys h
  | .none, _, h => by simp [sm] at h
  | .bool _, _, h => by simp [sm] at h
  | .list _, _, h => by simp [sm] at h
  | .dict _, _, h => by simp [sm] at h
  | .int _, .none, h => by simp [sm] at h
  | .int _, .bool _, h => by simp [sm] at h
  | .int _, .str _, h => by simp [sm] at h
  | .int _, .list _, h => by simp [sm] at h
  | .int _, .tuple _, h => by simp [sm] at h
  | .int _, .dict _, h => by simp [sm] at h
  | .str _, .none, h => by simp [sm] at h
  | .str _, .bool _, h => by simp [sm] at h
  | .str _, .int _, h => by simp [sm] at h
  | .str _, .list _, h => by simp [sm] at h
  | .str _, .tuple _, h => by simp [sm] at h
  | .str _, .dict _, h => by simp [sm] at h
  | .tuple _, .none, h => by simp [sm] at h
  | .tuple _, .bool _, h => by simp [sm] at h
  | .tuple _, .int _, h => by simp [sm] at h
  | .tuple _, .str _, h => by simp [sm] at h
  | .tuple _, .list _, h => by simp [sm] at h
  | .tuple _, .dict _, h => by simp [sm] at h
theorem eqvs_iff : ∀ d e : List PyData, sms d e = true → (PyData.eqvAll d e = true ↔ toTs d = toTs e)
  | [], [], _ => by simp [PyData.eqvAll]
  | [], _ :: _, _ => by simp [PyData.eqvAll, toTs]
  | _ :: _, [], _ => by simp [PyData.eqvAll, toTs]
  | x :: xs, y :: ys, h => by
    simp only [sms, Bool.and_eq_true] at h
    simp only [PyData.eqvAll, toTs, Bool.and_eq_true, List.cons.injEq]
    rw [eqv_iff x y h.1, eqvs_iff xs ys h.2]
end
end Od
namespace Od
open PySem PySem.Spec PyProof.Rows L2 SeqAt
open PySem.W (KatLex KatTups kat_lt kat_nil kat_cons kat_go kat_yes kat_no kat_kind)
def eT (l m : List Tr) (j : Nat) : Bool := match l[j]?, m[j]? with
  | some x, some y => bq x y
  | _, _ => false
def rT (l m : List Tr) (j : Nat) : Bool := match l[j]?, m[j]? with
  | some x, some y => lt x y
  | _, _ => false
theorem lexAt_up (e r : Nat → Bool) (z : Bool) : ∀ (k i : Nat), Ob.lexAt e r z (i + 1) k = Ob.lexAt (fun j => e (j + 1)) (fun j => r (j + 1)) z i k
  | 0, _ => rfl
  | k + 1, i => by rw [Ob.lexAt_succ, Ob.lexAt_succ, lexAt_up e r z k (i + 1)]
theorem lexAt_lts : ∀ l m : List Tr, Ob.lexAt (eT l m) (rT l m) (decide (l.length < m.length)) 0 (min l.length m.length) = lts l m
  | [], [] => by rfl
  | [], _ :: _ => by simp [lts, Ob.lexAt_zero]
  | _ :: _, [] => by simp [lts, Ob.lexAt_zero]
  | x :: l, y :: m => by
    have e : min (x :: l).length (y :: m).length = min l.length m.length + 1 := by simp only [List.length_cons]; omega
    rw [e, Ob.lexAt_succ, lexAt_up, show (decide ((x :: l).length < (y :: m).length)) = decide (l.length < m.length) by simp]
    have ih := lexAt_lts l m
    show (if bq x y = true then Ob.lexAt (eT l m) (rT l m) _ 0 _ else lt x y) = _
    rw [ih, lts]
theorem toTs_get : ∀ (ds : List PyData) (j : Nat) (d : PyData), ds[j]? = some d → (toTs ds)[j]? = some (toT d)
  | [], _, _, h => by simp at h
  | x :: xs, 0, d, h => by simp at h; subst h; simp [toTs]
  | x :: xs, j + 1, d, h => by simp only [toTs, List.getElem?_cons_succ] at h ⊢; exact toTs_get xs j d h
theorem toTs_len : ∀ ds : List PyData, (toTs ds).length = ds.length
  | [] => rfl
  | x :: xs => by simp [toTs, toTs_len xs]
theorem bq_eqv {d e : PyData} (h : sm d e = true) : PyData.eqv d e = bq (toT d) (toT e) := by
  have a := eqv_iff d e h
  have b := bq_iff (toT d) (toT e)
  cases x : PyData.eqv d e <;> cases y : bq (toT d) (toT e) <;> simp_all
theorem reads_tup {h : Heap} {v : Value} {xs : List PyData} {as : List Addr} (r : Reads h v (.tuple xs) as) : ∃ a o vs n as', v = .ref a ∧ h.get? a = some o ∧ o.cls = .type "tuple" ∧ o.data = .seq vs n ∧ ReadsAll h vs.toList xs as' := by
  cases r with
  | tuple ho hc hd r1 => exact ⟨_, _, _, _, _, rfl, ho, hc, hd, r1⟩
theorem reads_cons {h : Heap} {vs : List Value} {x : PyData} {xs : List PyData} {as : List Addr} (r : ReadsAll h vs (x :: xs) as) : ∃ v ws a1 a2, vs = v :: ws ∧ Reads h v x a1 ∧ ReadsAll h ws xs a2 := by
  cases r with
  | cons r1 r2 => exact ⟨_, _, _, _, rfl, r1, r2⟩
mutual
theorem rc_lt : ∀ (d e : PyData) (A : Around) (s : Shared) (a b : Value) (as bs : List Addr), Reads s.heap a d as → Reads s.heap b e bs → sm d e = true → d.canLay0 = true → e.canLay0 = true → A.units + d.depth + 1 < cLine → Ob.RcOp .Lt A s a b (lt (toT d) (toT e))
  | .int x, .int y, A, s, _, _, _, _, ra, rb, _, _, _, _ => by
    cases ra
    cases rb
    rw [toT, toT, lt]
    exact Ob.RcOp.lt_int _ _ _ _
  | .str x, .str y, A, s, _, _, _, _, ra, rb, _, _, _, _ => by
    cases ra
    cases rb
    rw [toT, toT, lt]
    exact fun prog w E Q h => P.lt_str h
  | .tuple xs, .tuple ys, A, s, _, _, _, _, ra, rb, h, ha, hb, hu => by
    obtain ⟨a, o, vs, n, as, rfl, ho, hc, hd, r1⟩ := reads_tup ra
    obtain ⟨b, o2, ws, n2, bs, rfl, ho2, hc2, hd2, r2⟩ := reads_tup rb
    simp only [PyData.depth] at hu
    simp only [PyData.canLay0] at ha hb
    simp only [sm] at h
    have I := rc_lts xs ys A.in1 s vs.toList ws.toList as bs r1 r2 h ha hb (by show A.units + 1 + PyData.depthAll xs + 1 < cLine; omega)
    have l1 := ReadsAll.length xs vs.toList as r1
    have l2 := ReadsAll.length ys ws.toList bs r2
    have t := Ob.RcOp.tuples_lt (A := A) (s := s) (l := a) (b := b) (items := vs) (items2 := ws) (e := eT (toTs xs) (toTs ys)) (r := rT (toTs xs) (toTs ys)) ⟨o, ho, hc, n, hd⟩ ⟨o2, ho2, hc2, n2, hd2⟩ (by omega) (fun j h1 h2 => ?_) (fun j h1 h2 _ => ?_)
    · rw [toT, toT, lt, ← lexAt_lts, toTs_len, toTs_len, ← l1, ← l2, Array.length_toList, Array.length_toList]
      exact t
    · obtain ⟨x, y, hx, hy, q, _⟩ := I j (by simpa using h1) (by simpa using h2)
      unfold eT
      rw [toTs_get _ _ _ hx, toTs_get _ _ _ hy]
      simpa using q
    · obtain ⟨x, y, hx, hy, _, q⟩ := I j (by simpa using h1) (by simpa using h2)
      unfold rT
      rw [toTs_get _ _ _ hx, toTs_get _ _ _ hy]
      simpa using q
  | .none, _, _, _, _, _, _, _, _, _, h, _, _, _ => by simp [sm] at h
  | .bool _, _, _, _, _, _, _, _, _, _, h, _, _, _ => by simp [sm] at h
  | .list _, _, _, _, _, _, _, _, _, _, h, _, _, _ => by simp [sm] at h
  | .dict _, _, _, _, _, _, _, _, _, _, h, _, _, _ => by simp [sm] at h
  | .int _, .none, _, _, _, _, _, _, _, _, h, _, _, _ => by simp [sm] at h
  | .int _, .bool _, _, _, _, _, _, _, _, _, h, _, _, _ => by simp [sm] at h
  | .int _, .str _, _, _, _, _, _, _, _, _, h, _, _, _ => by simp [sm] at h
  | .int _, .list _, _, _, _, _, _, _, _, _, h, _, _, _ => by simp [sm] at h
  | .int _, .tuple _, _, _, _, _, _, _, _, _, h, _, _, _ => by simp [sm] at h
  | .int _, .dict _, _, _, _, _, _, _, _, _, h, _, _, _ => by simp [sm] at h
  | .str _, .none, _, _, _, _, _, _, _, _, h, _, _, _ => by simp [sm] at h
  | .str _, .bool _, _, _, _, _, _, _, _, _, h, _, _, _ => by simp [sm] at h
  | .str _, .int _, _, _, _, _, _, _, _, _, h, _, _, _ => by simp [sm] at h
  | .str _, .list _, _, _, _, _, _, _, _, _, h, _, _, _ => by simp [sm] at h
  | .str _, .tuple _, _, _, _, _, _, _, _, _, h, _, _, _ => by simp [sm] at h
  | .str _, .dict _, _, _, _, _, _, _, _, _, h, _, _, _ => by simp [sm] at h
  | .tuple _, .none, _, _, _, _, _, _, _, _, h, _, _, _ => by simp [sm] at h
  | .tuple _, .bool _, _, _, _, _, _, _, _, _, h, _, _, _ => by simp [sm] at h
  | .tuple _, .int _, _, _, _, _, _, _, _, _, h, _, _, _ => by simp [sm] at h
  | .tuple _, .str _, _, _, _, _, _, _, _, _, h, _, _, _ => by simp [sm] at h
  | .tuple _, .list _, _, _, _, _, _, _, _, _, h, _, _, _ => by simp [sm] at h
  | .tuple _, .dict _, _, _, _, _, _, _, _, _, h, _, _, _ => by simp [sm] at h
theorem rc_lts : ∀ (xs ys : List PyData) (A : Around) (s : Shared) (vs ws : List Value) (as bs : List Addr), ReadsAll s.heap vs xs as → ReadsAll s.heap ws ys bs → sms xs ys = true → PyData.canLayAll0 xs = true → PyData.canLayAll0 ys = true → A.units + PyData.depthAll xs + 1 < cLine →
    ∀ j (h1 : j < vs.length) (h2 : j < ws.length), ∃ x y, xs[j]? = some x ∧ ys[j]? = some y ∧ EqAt A s vs[j] ws[j] (bq (toT x) (toT y)) ∧ Ob.RcOp .Lt A s vs[j] ws[j] (lt (toT x) (toT y))
  | [], _, _, _, _, _, _, _, ra, _, _, _, _, _, j, h1, _ => by cases ra; exact absurd h1 (Nat.not_lt_zero _)
  | _ :: _, [], _, _, _, _, _, _, _, rb, _, _, _, _, j, _, h2 => by cases rb; exact absurd h2 (Nat.not_lt_zero _)
  | x :: xs, y :: ys, A, s, _, _, _, _, ra, rb, h, ha, hb, hu, j, h1, h2 => by
    obtain ⟨v, vs, a1, a2, rfl, r1, r2⟩ := reads_cons ra
    obtain ⟨w, ws, b1, b2, rfl, q1, q2⟩ := reads_cons rb
    simp only [PyData.depthAll] at hu
    simp only [PyData.canLayAll0, Bool.and_eq_true] at ha hb
    simp only [sms, Bool.and_eq_true] at h
    cases j with
    | zero =>
      refine ⟨x, y, rfl, rfl, ?_, ?_⟩
      · have z := eqAt_reads x y A s v w a1 b1 r1 q1 ha.1 hb.1 (by omega)
        rw [bq_eqv h.1] at z
        exact z
      · exact rc_lt x y A s v w a1 b1 r1 q1 h.1 ha.1 hb.1 (by omega)
    | succ j =>
      exact rc_lts xs ys A s vs ws a2 b2 r2 q2 h.2 ha.2 hb.2 (by omega) j (Nat.lt_of_succ_lt_succ h1) (Nat.lt_of_succ_lt_succ h2)
end
/-- an int or a text -/
def hd1 : PyData → Bool
  | .tuple (.int _ :: _) => true
  | .tuple (.str _ :: _) => true
  | _ => false
section
variable {prog : Program} {w : World} {A : Around} {E : Value → Shared → Prop} {s : Shared}
theorem one_lt {f : Bool} {p q : Value} {d e : PyData} {as bs : List Addr} {Q : Bool → Shared → Prop} (ra : Reads s.heap p d as) (rb : Reads s.heap q e bs) (h : sm d e = true) (ha : d.canLay0 = true) (hb : e.canLay0 = true) (hu : A.units + d.depth + 1 < cLine)
    (hf : f = true → (∃ n, d = .int n) ∨ ∃ x, d = .str x) (k : Q (lt (toT d) (toT e)) s) : wpAny (model prog w) A (oneLt' f p q) Q (fun _ _ => False) s := by
  cases f with
  | false =>
    rw [oneLt'_eq]
    simp only [Bool.false_eq_true, if_false]
    exact wpAny_bind (rc_lt d e A s p q as bs ra rb h ha hb hu prog w _ _ (wpAny_truthy_bool k))
  | true =>
    rcases hf rfl with ⟨n, rfl⟩ | ⟨x, rfl⟩
    · cases e with
      | int m =>
        cases ra
        cases rb
        rw [toT, toT, lt] at k
        exact oneLt_int k
      | _ => simp [sm] at h
    · cases e with
      | str y =>
        cases ra
        cases rb
        rw [toT, toT, lt] at k
        exact oneLt_str k
      | _ => simp [sm] at h
theorem kat_run {b fin : Bool} {Q : Bool → Shared → Prop} (hu : A.units + 60 < cLine) : ∀ (xs ys : List PyData) (ps qs : List Value) (as bs : List Addr) (i : Nat), ReadsAll s.heap ps xs as → ReadsAll s.heap qs ys bs → sms xs ys = true → PyData.canLayAll0 xs = true → PyData.canLayAll0 ys = true → PyData.depthAll xs ≤ 50 →
    (i = 0 → ∀ x, xs[0]? = some x → (∃ n, x = .int n) ∨ ∃ z, x = .str z) → fin = decide (ps.length < qs.length) → Q (lts (toTs xs) (toTs ys)) s → KatLex prog w A b fin Q (ps.zip qs) i s
  | [], [], _, _, _, _, i, ra, rb, _, _, _, _, _, hf, h => by
    cases ra
    cases rb
    have e : fin = false := by rw [hf]; rfl
    subst e
    exact kat_nil h
  | [], y :: ys, _, _, _, _, i, ra, rb, _, _, _, _, _, hf, h => by
    cases ra
    obtain ⟨w', ws, b1, b2, rfl, q1, q2⟩ := reads_cons rb
    have e : fin = true := by rw [hf]; exact decide_eq_true (Nat.succ_pos _)
    subst e
    rw [toTs, toTs, lts] at h
    exact kat_nil h
  | x :: xs, [], _, _, _, _, i, ra, rb, _, _, _, _, _, hf, h => by
    cases rb
    obtain ⟨w', ws, b1, b2, rfl, q1, q2⟩ := reads_cons ra
    have e : fin = false := by rw [hf]; exact decide_eq_false (Nat.not_lt_zero _)
    subst e
    rw [toTs, toTs, lts] at h
    exact kat_nil h
  | x :: xs, y :: ys, _, _, _, _, i, ra, rb, h, ha, hb, hd, h0, hf, k => by
    obtain ⟨v, vs, a1, a2, rfl, r1, r2⟩ := reads_cons ra
    obtain ⟨w', ws, b1, b2, rfl, q1, q2⟩ := reads_cons rb
    simp only [PyData.depthAll] at hd
    simp only [PyData.canLayAll0, Bool.and_eq_true] at ha hb
    simp only [sms, Bool.and_eq_true] at h
    have hf' : fin = decide (vs.length < ws.length) := by rw [hf]; simp only [List.length_cons, Nat.add_lt_add_iff_right]
    refine kat_cons (eqAt_reads x y A s v w' a1 b1 r1 q1 ha.1 hb.1 (by omega) prog w _ _ ?_)
    rw [bq_eqv h.1]
    refine kat_go (fun e => kat_yes ?_) (fun e => kat_no ?_)
    · have e2 := (bq_iff _ _).mp e
      refine kat_run hu xs ys vs ws a2 b2 (i + 1) r2 q2 h.2 ha.2 hb.2 (by omega) (fun z => absurd z (Nat.succ_ne_zero _)) hf' ?_
      rw [toTs, toTs, e2, lts_same] at k
      exact k
    · have ne : toT x ≠ toT y := fun z => by rw [(bq_iff _ _).mpr z] at e; cases e
      rw [toTs, toTs, lts_other ne] at k
      refine one_lt r1 q1 h.1 ha.1 hb.1 (by omega) (fun hb2 => h0 ?_ x rfl) k
      simp only [Bool.and_eq_true, beq_iff_eq] at hb2
      exact hb2.2
theorem key_run {b : Bool} {d e : PyData} {p q : Value} {as bs : List Addr} {Q : Bool → Shared → Prop} {E : Value → Shared → Prop} (hu : A.units + 60 < cLine) (ra : Reads s.heap p d as) (rb : Reads s.heap q e bs) (h : sm d e = true) (ha : d.canLay0 = true) (hb : e.canLay0 = true) (hd : d.depth ≤ 50) (h1 : hd1 d = true)
    (k : Q (lt (toT d) (toT e)) s) : wpAny (model prog w) A (keyLt' (tuples' b) p q) Q E s := by
  cases d with
  | tuple xs =>
    cases e with
    | tuple ys =>
      obtain ⟨a, o, vs, n, as', rfl, ho, hc, hdt, r1⟩ := reads_tup ra
      obtain ⟨a2, o2, ws, n2, bs', rfl, ho2, hc2, hdt2, r2⟩ := reads_tup rb
      simp only [PyData.depth] at hd
      simp only [PyData.canLay0] at ha hb
      simp only [sm] at h
      rw [toT, toT, lt] at k
      refine kat_lt ho hdt ho2 hdt2 (kat_run hu xs ys vs.toList ws.toList as' bs' 0 r1 r2 h ha hb (by omega) (fun _ x hx => ?_) (by rw [Array.length_toList, Array.length_toList]) k)
      cases xs with
      | nil => simp at hx
      | cons y ys =>
        cases hx
        cases x with
        | int n => exact .inl ⟨n, rfl⟩
        | str z => exact .inr ⟨z, rfl⟩
        | _ => simp [hd1] at h1
    | _ => simp [sm] at h
  | _ => simp [hd1] at h1
/-- the first items are of one type -/
theorem hd_sm {d e : PyData} (h : sm d e = true) (h1 : hd1 d = true) (h2 : hd1 e = true) : True ∧ ((∃ n m r r', d = .tuple (.int n :: r) ∧ e = .tuple (.int m :: r')) ∨ ∃ n m r r', d = .tuple (.str n :: r) ∧ e = .tuple (.str m :: r')) := by
  cases d with
  | tuple xs =>
    cases e with
    | tuple ys =>
      cases xs with
      | nil => simp [hd1] at h1
      | cons x xs =>
        cases ys with
        | nil => simp [hd1] at h2
        | cons y ys =>
          simp only [sm, sms, Bool.and_eq_true] at h
          cases x with
          | int n =>
            cases y with
            | int m => exact ⟨trivial, .inl ⟨n, m, xs, ys, rfl, rfl⟩⟩
            | _ => simp [sm] at h
          | str n =>
            cases y with
            | str m => exact ⟨trivial, .inr ⟨n, m, xs, ys, rfl, rfl⟩⟩
            | _ => simp [sm] at h
          | _ => simp [hd1] at h1
    | _ => simp [sm] at h
  | _ => simp [hd1] at h1
theorem kind_run {vs : List Value} {Q : SortKind → Shared → Prop} {E : Value → Shared → Prop} (h2 : 0 < vs.length) (d0 : PyData) (h0 : hd1 d0 = true) (hv : ∀ v ∈ vs, ∃ d as, Reads s.heap v d as ∧ sm d0 d = true ∧ hd1 d = true) (q : Q (tuples' true) s) : wpAny (model prog w) A (keyKind' vs.toArray) Q E s := by
  have fs : ∀ l : List Value, (∀ v ∈ l, v ∈ vs) → ∃ fs, fs.length = l.length ∧ KatTups s.heap l fs ∧ ((∃ n r, d0 = .tuple (.int n :: r)) → ∀ v ∈ fs, ∃ n t, v = Value.int n t) ∧ ((∃ n r, d0 = .tuple (.str n :: r)) → ∀ v ∈ fs, ∃ n t, v = Value.str n t) := by
    intro l
    induction l with
    | nil => exact fun _ => ⟨[], rfl, KatTups.nil, fun _ => by simp, fun _ => by simp⟩
    | cons v l ih =>
      intro hl
      obtain ⟨fs, e, t, ti, ts⟩ := ih fun x hx => hl x (List.mem_cons_of_mem _ hx)
      obtain ⟨d, as, rd, hs, hd⟩ := hv v (hl v List.mem_cons_self)
      obtain ⟨_, hk⟩ := hd_sm hs h0 hd
      clear hd
      rcases hk with ⟨n, m, r, r', e1, rfl⟩ | ⟨n, m, r, r', e1, rfl⟩
      · obtain ⟨a, o, xs, k, as', rfl, ho, hc, hd, r1⟩ := reads_tup rd
        obtain ⟨v1, ws, a1, a2, ex, q1, q2⟩ := reads_cons r1
        cases q1 with
        | int i t' =>
        refine ⟨.int m t' :: fs, by simp [e], KatTups.cons ho hc hd ?_ t, fun _ => ?_, fun ⟨n', r2, e2⟩ => ?_⟩
        · rw [← Array.getElem?_toList, ex]
          rfl
        · intro u hu
          rcases List.mem_cons.mp hu with rfl | hu
          · exact ⟨_, _, rfl⟩
          · exact ti ⟨_, _, e1⟩ u hu
        · rw [e1] at e2
          cases e2
      · obtain ⟨a, o, xs, k, as', rfl, ho, hc, hd, r1⟩ := reads_tup rd
        obtain ⟨v1, ws, a1, a2, ex, q1, q2⟩ := reads_cons r1
        cases q1 with
        | str i t' =>
        refine ⟨.str m t' :: fs, by simp [e], KatTups.cons ho hc hd ?_ t, fun ⟨n', r2, e2⟩ => ?_, fun _ => ?_⟩
        · rw [← Array.getElem?_toList, ex]
          rfl
        · rw [e1] at e2
          cases e2
        · intro u hu
          rcases List.mem_cons.mp hu with rfl | hu
          · exact ⟨_, _, rfl⟩
          · exact ts ⟨_, _, e1⟩ u hu
  obtain ⟨fs, e, t, ti, ts⟩ := fs vs fun _ h => h
  have hd : (∃ n r, d0 = .tuple (.int n :: r)) ∨ ∃ n r, d0 = .tuple (.str n :: r) := by
    cases d0 with
    | tuple xs =>
      cases xs with
      | nil => simp [hd1] at h0
      | cons x xs =>
        cases x with
        | int n => exact .inl ⟨_, _, rfl⟩
        | str n => exact .inr ⟨_, _, rfl⟩
        | _ => simp [hd1] at h0
    | _ => simp [hd1] at h0
  rcases hd with hd | hd
  · have e1 : (Value.type "int" != Value.type "tuple") = true := by first | rfl | decide
    refine kat_kind (T := Value.type "int") t (by omega) (fun v hv => ?_) rfl (by rw [e1]; exact q)
    obtain ⟨k, t, rfl⟩ := ti hd v hv
    exact PySem.W.Looks.of_pure rfl
  · have e1 : (Value.type "str" != Value.type "tuple") = true := by first | rfl | decide
    refine kat_kind (T := Value.type "str") t (by omega) (fun v hv => ?_) rfl (by rw [e1]; exact q)
    obtain ⟨k, t, rfl⟩ := ts hd v hv
    exact PySem.W.Looks.of_pure rfl
end
end Od
namespace Od
open PySem PySem.Spec PyProof.Rows L2 SeqAt
/-- what stood stands -/
def Old (g h : Heap) : Prop := ∀ b o, g.get? b = some o → h.get? b = some o
section
variable {pr : Program} {wd : World} {Ar : Around} {Rs : Result → Shared → Prop} {It ax : Addr} {its : Array Value} {g : Heap}
/-- how the items compare wherever what stood stands -/
def CmpG (pr : Program) (wd : World) (Ar : Around) (g : Heap) (its : Array Value) (bt : Nat → Nat → Bool) : Prop :=
  ∀ i j u v (z : Shared) (Q : Value → Shared → Prop) (E : Value → Shared → Prop), Old g z.heap → its[i]? = some u → its[j]? = some v → Q (.bool (bt i j)) z → wpAny (model pr wd) Ar (richCompare .Lt u v) Q E z
theorem Old.up {h1 h2 : Heap} {I S : Addr} (o : Old g h1) (gI : ∀ b x, g.get? b = some x → b ≠ I) (k : ∀ b x, b ∉ [I] → h1.get? b = some x → h2.get? b = some x) : Old g h2 := fun b x e => k b x (fun m => gI b x e (List.mem_singleton.mp m)) (o b x e)
theorem min_go (wk : Walks pr wd Ar.in1 It [It, ax] [It] its.size (fun i v => its[i]? = some v) (fun i h => h.IsListIter It ax i ∧ h.IsList ax its)) (bt : Nat → Nat → Bool) (cm : CmpG pr wd Ar.in1 g its bt) (S : Addr) (sI : S ≠ It) (sX : S ≠ ax)
    (gI : ∀ b x, g.get? b = some x → b ≠ It) (gS : ∀ b x, g.get? b = some x → b ≠ S) :
    ∀ (k j : Nat) (z : Shared) (u : Value) (c : Nat), its.size - (j + 1) = k → j + 1 ≤ its.size → Old g z.heap → (z.heap.IsListIter It ax (j + 1) ∧ z.heap.IsList ax its) → its[argBest bt j]? = some u →
    z.heap.get? S = some { cls := .type "list", dict := none, data := .seq #[u, u] c, slots := #[] } →
    (∀ v h tk, its[argBest bt (its.size - 1)]? = some v → Old g h → Rs (.ok (.ret v)) { z with heap := h, toks := tk }) →
    codeAny (model pr wd) Ar (.builtin "min.loop" ⟨[.ref It, .none, .ref S], []⟩) Rs z := by
  have nm : (toString "min" ++ toString ".loop" : String) = "min.loop" := by decide
  have sW : S ∉ [It] := fun m => sI (List.mem_singleton.mp m)
  intro k
  induction k with
  | zero =>
    intro j z u c hk hj od st hu hS fin
    have hin : j + 1 = its.size := by omega
    refine codeAny_builtin F.entry_min_loop ?_
    rw [Around.under_plainId F.plain_min_loop _]
    show wpAny _ Ar.in1 (seqItems? (.ref S) >>= _) _ _ z
    refine wpAny_bind (wpAny_seqItems hS rfl ?_)
    show wpAny _ Ar.in1 (tryCatch (pyNext (.ref It)) _ >>= _) _ _ z
    refine wpAny_bind (wpAny_tryCatch (wk.done z _ _ (hin ▸ st) fun h tk kp => ?_))
    have hS2 := kp S _ sW hS
    show wpAny _ Ar.in1 (updateSeq S (fun _ => #[]) >>= _) _ _ _
    refine wpAny_bind ?_
    refine wpAny_updateSeq hS2 rfl (wpAny_bind (wpAny_letGo (wpAny_pure ?_)))
    refine fin u _ tk (by rw [← hin]; exact hu) fun b x e => ?_
    exact (Heap.get?_update_other _ _ (Ne.symm (gS b x e))).trans (od.up (S := S) gI kp b x e)
  | succ k ih =>
    intro j z u c hk hj od st hu hS fin
    have hlt : j + 1 < its.size := by omega
    refine codeAny_builtin F.entry_min_loop ?_
    rw [Around.under_plainId F.plain_min_loop _]
    show wpAny _ Ar.in1 (seqItems? (.ref S) >>= _) _ _ z
    refine wpAny_bind (wpAny_seqItems hS rfl ?_)
    show wpAny _ Ar.in1 (tryCatch (pyNext (.ref It)) _ >>= _) _ _ z
    refine wpAny_bind (wpAny_tryCatch (wk.item (j + 1) z _ _ hlt st fun v h tk hv st2 kp => ?_))
    have hS2 := kp S _ sW hS
    have od2 : Old g h := od.up (S := S) gI kp
    show wpAny _ Ar.in1 (tryCatch (holding [v, v] (richCompare .Lt v u >>= _)) _ >>= _) _ _ _
    refine wpAny_bind (wpAny_tryCatch (wpAny_holding (wpAny_bind (cm (j + 1) (argBest bt j) v u _ _ _ od2 hv hu ?_))))
    refine wpAny_bind (wpAny_holding (wpAny_truthy_bool ?_))
    refine wpAny_bind (wpAny_letGo (wpAny_pure ?_))
    cases hb : bt (j + 1) (argBest bt j) with
    | true =>
      simp only [if_true]
      refine wpAny_bind ?_
      refine wpAny_updateSeq hS2 rfl (wpAny_bind (wpAny_letGo ?_))
      rw [nm]
      refine wpAny_pure ⟨plainId_quiet F.plain_min_loop _, ih (j + 1) _ v _ (by omega) hlt (fun b x e => (Heap.get?_update_other _ _ (Ne.symm (gS b x e))).trans (od2 b x e)) (wk.frame _ _ _ st2 fun b hbf o e => ?_) (by simp only [argBest, hb, if_true]; exact hv) (Heap.get?_update_self _ hS2 rfl)
        fun v' h2 tk2 => fin v' h2 tk2⟩
      refine (Heap.get?_update_other _ _ (fun q : S = b => ?_)).trans e
      subst q
      simp only [List.mem_cons, List.not_mem_nil, or_false] at hbf
      exact hbf.elim sI sX
    | false =>
      simp only [Bool.false_eq_true, if_false]
      refine wpAny_bind (wpAny_letGo ?_)
      rw [nm]
      exact wpAny_pure ⟨plainId_quiet F.plain_min_loop _, ih (j + 1) _ u c (by omega) hlt od2 st2 (by simp only [argBest, hb, Bool.false_eq_true, if_false]; exact hu) hS2 fun v' h2 tk2 => fin v' h2 tk2⟩
theorem min_one (wk : Walks pr wd Ar.in1 It [It, ax] [It] its.size (fun i v => its[i]? = some v) (fun i h => h.IsListIter It ax i ∧ h.IsList ax its)) (bt : Nat → Nat → Bool) (cm : CmpG pr wd Ar.in1 g its bt) (S : Addr) (sI : S ≠ It) (sX : S ≠ ax)
    (gI : ∀ b x, g.get? b = some x → b ≠ It) (gS : ∀ b x, g.get? b = some x → b ≠ S) (hn : 0 < its.size) {z : Shared} {c : Nat} (od : Old g z.heap) (st : z.heap.IsListIter It ax 0 ∧ z.heap.IsList ax its)
    (hS : z.heap.get? S = some { cls := .type "list", dict := none, data := .seq #[] c, slots := #[] })
    (fin : ∀ v h tk, its[argBest bt (its.size - 1)]? = some v → Old g h → Rs (.ok (.ret v)) { z with heap := h, toks := tk }) :
    codeAny (model pr wd) Ar (.builtin "min.loop" ⟨[.ref It, .none, .ref S], []⟩) Rs z := by
  have nm : (toString "min" ++ toString ".loop" : String) = "min.loop" := by decide
  have sW : S ∉ [It] := fun m => sI (List.mem_singleton.mp m)
  refine codeAny_builtin F.entry_min_loop ?_
  rw [Around.under_plainId F.plain_min_loop _]
  show wpAny _ Ar.in1 (seqItems? (.ref S) >>= _) _ _ z
  refine wpAny_bind (wpAny_seqItems hS rfl ?_)
  show wpAny _ Ar.in1 (tryCatch (pyNext (.ref It)) _ >>= _) _ _ z
  refine wpAny_bind (wpAny_tryCatch (wk.item 0 z _ _ hn st fun v h tk hv st2 kp => ?_))
  have hS2 := kp S _ sW hS
  have od2 : Old g h := od.up (S := S) gI kp
  show wpAny _ Ar.in1 (updateSeq S (fun _ => #[v, v]) >>= _) _ _ _
  refine wpAny_bind ?_
  refine wpAny_updateSeq hS2 rfl ?_
  rw [nm]
  refine wpAny_pure ⟨plainId_quiet F.plain_min_loop _, min_go wk bt cm S sI sX gI gS _ 0 _ v _ rfl hn (fun b x e => (Heap.get?_update_other _ _ (Ne.symm (gS b x e))).trans (od2 b x e)) (wk.frame _ _ _ st2 fun b hbf o e => ?_) hv (Heap.get?_update_self _ hS2 rfl) fun v' h2 tk2 => fin v' h2 tk2⟩
  refine (Heap.get?_update_other _ _ (fun q : S = b => ?_)).trans e
  subst q
  simp only [List.mem_cons, List.not_mem_nil, or_false] at hbf
  exact hbf.elim sI sX
end
section
variable {pr : Program} {wd : World} {Ar : Around} {E : Value → Shared → Prop} {z : Shared} {ax : Addr} {its : Array Value}
/-- min(xs) of a list whose items compare -/
theorem min_list (hh : Ar.handled = none) (hl : z.heap.IsList ax its) (hn : 0 < its.size) (bt : Nat → Nat → Bool) (cm : CmpG pr wd Ar.in1.in1 z.heap its bt) {Q : Value → Shared → Prop}
    (fin : ∀ v h tk, its[argBest bt (its.size - 1)]? = some v → Old z.heap h → Q v { z with heap := h, toks := tk }) : wpAny (model pr wd) Ar (call (.builtin "min") [.ref ax]) Q E z := by
  have nm : (toString "min" ++ toString ".loop" : String) = "min.loop" := by decide
  have cm1 : CmpG pr wd Ar.in1 z.heap its bt := fun i j u v y Q E h1 h2 h3 h4 => wpAny_of_in1 (cm i j u v y Q E h1 h2 h3 h4)
  refine call_function_tree F.kind_min F.plain_min F.entry_min (F.args_min1 _) ?_
  show wpAny _ Ar.in1 (Builtin.Builtins.bindParams "min" ["key", "default"] 0 ⟨[], []⟩ >>= _) _ _ z
  refine wpAny_bind (wpAny_of_eq (show Builtin.Builtins.bindParams "min" ["key", "default"] 0 ⟨[], []⟩ = pure [none, none] from rfl) ?_)
  refine wpAny_bind (wpAny_pure ?_)
  have hlt : ax < z.heap.objs.size := by obtain ⟨_, e, _⟩ := hl; exact Heap.lt_size e
  refine wpAny_bind (wpAny_pyIter_list hl ?_)
  refine wpAny_bind (wpAny_newObj_type ?_)
  rw [nm]
  have z1 : (z.heap.push { cls := .type "list_iterator", data := .fields #[.ref ax, .int 0 0] }).objs.size = z.heap.objs.size + 1 := Heap.size_push ..
  refine wpAny_pure ⟨plainId_quiet F.plain_min_loop _, min_one (g := z.heap) (Walks.list (A := Ar.in1) hh z.heap.objs.size ax (Nat.ne_of_lt hlt) its) bt cm1 _ ?_ ?_ (fun b x e => Nat.ne_of_lt (Heap.lt_size e)) (fun b x e => ?_) hn (fun b x e => Heap.get?_push_of_some _ (Heap.get?_push_of_some _ e)) ?_ (Heap.get?_push_size _ rfl) fun v h tk hv od => fin v h tk hv od⟩
  · show (z.heap.push _).objs.size ≠ _
    rw [z1]
    exact Nat.succ_ne_self _
  · show (z.heap.push _).objs.size ≠ _
    rw [z1]
    exact Nat.ne_of_gt (Nat.lt_succ_of_lt hlt)
  · show b ≠ (z.heap.push _).objs.size
    rw [z1]
    exact Nat.ne_of_lt (Nat.lt_succ_of_lt (Heap.lt_size e))
  · refine (Walks.list (prog := pr) (w := wd) (A := Ar.in1) hh z.heap.objs.size ax (Nat.ne_of_lt hlt) its).frame _ _ _ (show _ from ⟨⟨_, Heap.get?_push_size _ rfl, rfl, rfl⟩, hl.push _⟩) fun b _ o e => Heap.get?_push_of_some _ e
end
end Od
namespace AL
open PySem PySem.Spec PyProof.Rows L2 G Th Od
variable [TT]
mutual
def dV : Val → PyData
  | .int i => .int i
  | .str x => .str x
  | .tup vs => .tuple (dVs vs)
  | _ => .none
def dVs : List Val → List PyData
  | [] => []
  | v :: vs => dV v :: dVs vs
end
mutual
def pureV : Val → Bool
  | .int _ => true
  | .str _ => true
  | .tup vs => pureVs vs
  | _ => false
def pureVs : List Val → Bool
  | [] => true
  | v :: vs => pureV v && pureVs vs
end
def trV (v : Val) : Tr := toT (dV v)
def ltV (a b : Val) : Bool := lt (trV a) (trV b)
def smV (a b : Val) : Bool := sm (dV a) (dV b)
def okV (v : Val) : Bool := pureV v && (dV v).canLay0 && decide ((dV v).depth ≤ 50)
mutual
theorem trV_inj : ∀ a b : Val, pureV a = true → pureV b = true → trV a = trV b → a = b
  | .int _, .int _, _, _, h => by simp only [trV, dV, toT, Tr.i.injEq] at h; rw [h]
  | .str _, .str _, _, _, h => by simp only [trV, dV, toT, Tr.s.injEq] at h; rw [str_inj h]
  | .tup xs, .tup ys, h1, h2, h => by
    simp only [trV, dV, toT, Tr.t.injEq] at h
    simp only [pureV] at h1 h2
    rw [trVs_inj xs ys h1 h2 h]
  | .int _, .str _, _, _, h => by simp [trV, dV, toT] at h
  | .int _, .tup _, _, _, h => by simp [trV, dV, toT] at h
  | .str _, .int _, _, _, h => by simp [trV, dV, toT] at h
  | .str _, .tup _, _, _, h => by simp [trV, dV, toT] at h
  | .tup _, .int _, _, _, h => by simp [trV, dV, toT] at h
  | .tup _, .str _, _, _, h => by simp [trV, dV, toT] at h
  | .non, _, h, _, _ => by simp [pureV] at h
  | .bl _, _, h, _, _ => by simp [pureV] at h
  | .ref _, _, h, _, _ => by simp [pureV] at h
  | .scr _, _, h, _, _ => by simp [pureV] at h
  | .lam _ _ _ _ _, _, h, _, _ => by simp [pureV] at h
  | .exc _ _ _ _, _, h, _, _ => by simp [pureV] at h
  | .int _, .non, _, h, _ => by simp [pureV] at h
  | .int _, .bl _, _, h, _ => by simp [pureV] at h
  | .int _, .ref _, _, h, _ => by simp [pureV] at h
  | .int _, .scr _, _, h, _ => by simp [pureV] at h
  | .int _, .lam _ _ _ _ _, _, h, _ => by simp [pureV] at h
  | .int _, .exc _ _ _ _, _, h, _ => by simp [pureV] at h
  | .str _, .non, _, h, _ => by simp [pureV] at h
  | .str _, .bl _, _, h, _ => by simp [pureV] at h
  | .str _, .ref _, _, h, _ => by simp [pureV] at h
  | .str _, .scr _, _, h, _ => by simp [pureV] at h
  | .str _, .lam _ _ _ _ _, _, h, _ => by simp [pureV] at h
  | .str _, .exc _ _ _ _, _, h, _ => by simp [pureV] at h
  | .tup _, .non, _, h, _ => by simp [pureV] at h
  | .tup _, .bl _, _, h, _ => by simp [pureV] at h
  | .tup _, .ref _, _, h, _ => by simp [pureV] at h
  | .tup _, .scr _, _, h, _ => by simp [pureV] at h
  | .tup _, .lam _ _ _ _ _, _, h, _ => by simp [pureV] at h
  | .tup _, .exc _ _ _ _, _, h, _ => by simp [pureV] at h
theorem trVs_inj : ∀ a b : List Val, pureVs a = true → pureVs b = true → toTs (dVs a) = toTs (dVs b) → a = b
  | [], [], _, _, _ => rfl
  | [], _ :: _, _, _, h => by simp [dVs, toTs] at h
  | _ :: _, [], _, _, h => by simp [dVs, toTs] at h
  | x :: xs, y :: ys, h1, h2, h => by
    simp only [dVs, toTs, List.cons.injEq] at h
    simp only [pureVs, Bool.and_eq_true] at h1 h2
    rw [trV_inj x y h1.1 h2.1 h.1, trVs_inj xs ys h1.2 h2.2 h.2]
end
section
variable {K : PySem.W.Frag} {H : Hp} {m : List Addr}
mutual
theorem dV_dp : ∀ (v : Val) (u : V), VR K H m u v → pureV v = true → Dp K H u (dV v)
  | .int _, _, r, _ => by cases r; rw [dV]; exact .int _
  | .str _, _, r, _ => by cases r; rw [dV]; exact .str _
  | .tup vs, _, r, h => by
    simp only [pureV] at h
    cases r with
    | tup ha ra => rw [dV]; exact .tup ha.sq (dVs_dp vs _ ra h)
  | .non, _, _, h => by simp [pureV] at h
  | .bl _, _, _, h => by simp [pureV] at h
  | .ref _, _, _, h => by simp [pureV] at h
  | .scr _, _, _, h => by simp [pureV] at h
  | .lam _ _ _ _ _, _, _, h => by simp [pureV] at h
  | .exc _ _ _ _, _, _, h => by simp [pureV] at h
theorem dVs_dp : ∀ (vs : List Val) (us : List V), VRs K H m us vs → pureVs vs = true → DpAll K H us (dVs vs)
  | [], _, r, _ => by cases r; rw [dVs]; exact .nil
  | v :: vs, _, r, h => by
    simp only [pureVs, Bool.and_eq_true] at h
    cases r with
    | cons a b => rw [dVs]; exact .cons (dV_dp v _ a h.1) (dVs_dp vs _ b h.2)
end
end
def insT (a : Val) : List Val → List Val
  | [] => [a]
  | b :: l => if ltV b a = true then b :: insT a l else a :: b :: l
def sortT : List Val → List Val
  | [] => []
  | a :: l => insT a (sortT l)
def Srt (l : List Val) : Prop := l.Pairwise fun x y => ltV y x = false
theorem insT_perm (a : Val) : ∀ l : List Val, (insT a l).Perm (a :: l)
  | [] => .refl _
  | b :: l => by
    unfold insT
    split
    · exact ((insT_perm a l).cons b).trans (.swap a b l)
    · exact .refl _
theorem sortT_perm : ∀ l : List Val, (sortT l).Perm l
  | [] => .refl _
  | a :: l => (insT_perm a _).trans ((sortT_perm l).cons a)
theorem insT_srt {a : Val} : ∀ {l : List Val}, Srt l → Srt (insT a l)
  | [], _ => List.pairwise_singleton _ _
  | b :: l, h => by
    obtain ⟨h1, h2⟩ := List.pairwise_cons.mp h
    unfold insT
    split
    · next hb =>
      refine List.pairwise_cons.mpr ⟨fun x hx => ?_, insT_srt h2⟩
      rcases List.mem_cons.mp ((insT_perm a l).mem_iff.mp hx) with rfl | hx
      · exact asy _ _ hb
      · exact h1 x hx
    · next hb =>
      refine List.pairwise_cons.mpr ⟨fun x hx => ?_, h⟩
      have hb : ltV b a = false := by simpa using hb
      rcases List.mem_cons.mp hx with rfl | hx
      · exact hb
      · exact ntr _ _ _ hb (h1 x hx)
theorem sortT_srt : ∀ l : List Val, Srt (sortT l)
  | [] => List.Pairwise.nil
  | a :: l => insT_srt (sortT_srt l)
theorem srt_uniq : ∀ {l m : List Val}, Srt l → Srt m → l.Perm m → (∀ v ∈ l, pureV v = true) → l = m
  | [], m, _, _, p, _ => (List.Perm.eq_nil p.symm).symm
  | x :: l, [], _, _, p, _ => absurd p.length_eq (by simp)
  | x :: l, y :: m, hl, hm, p, hp => by
    obtain ⟨l1, l2⟩ := List.pairwise_cons.mp hl
    obtain ⟨m1, m2⟩ := List.pairwise_cons.mp hm
    have e : x = y := by
      rcases List.mem_cons.mp (p.mem_iff.mp List.mem_cons_self) with e | hx
      · exact e
      · rcases List.mem_cons.mp (p.mem_iff.mpr List.mem_cons_self) with e | hy
        · exact e.symm
        · exact trV_inj x y (hp x List.mem_cons_self) (hp y (List.mem_cons_of_mem _ hy)) (tot _ _ (m1 x hx) (l1 y hy))
    subst e
    rw [srt_uniq l2 m2 p.cons_inv fun v hv => hp v (List.mem_cons_of_mem _ hv)]
theorem sortT_uniq {l m : List Val} (h : Srt l) (p : l.Perm m) (hp : ∀ v ∈ m, pureV v = true) : l = sortT m :=
  srt_uniq h (sortT_srt m) (p.trans (sortT_perm m).symm) fun v hv => hp v (p.mem_iff.mp hv)
theorem perm_up {α β : Type} {f : β → α} : ∀ {out ys : List α}, out.Perm ys → ∀ l : List β, ys = l.map f → ∃ l' : List β, l'.Perm l ∧ l'.map f = out := by
  intro out ys p
  induction p with
  | nil => exact fun l e => ⟨l, .refl _, e.symm⟩
  | cons x _ ih =>
    intro l e
    cases l with
    | nil => cases e
    | cons b l =>
      obtain ⟨e1, e2⟩ := List.cons.inj e
      obtain ⟨l', p', h'⟩ := ih l e2
      exact ⟨b :: l', p'.cons b, by rw [List.map_cons, h', e1]⟩
  | swap x y l0 =>
    intro l e
    match l, e with
    | b :: c :: l, e =>
      obtain ⟨e1, e2⟩ := List.cons.inj e
      obtain ⟨e2, e3⟩ := List.cons.inj e2
      exact ⟨c :: b :: l, .swap b c l, by rw [List.map_cons, List.map_cons, ← e1, ← e2, ← e3]⟩
  | trans _ _ i1 i2 =>
    intro l e
    obtain ⟨l1, p1, h1⟩ := i2 l e
    obtain ⟨l2, p2, h2⟩ := i1 l1 h1.symm
    exact ⟨l2, p2.trans p1, h2⟩
def okSort (vs : List Val) : Bool := vs.all okV && vs.all (fun v => hd1 (dV v)) && vs.all (fun a => vs.all fun b => smV a b) && decide (vs.length < 1000000)
def rSortT (K : PySem.W.Frag) : List V → Hp → VK → Prop := fun us H Q => ∃ (a : Addr) (xs : List V) (bs : List Val), us = [.ref a] ∧ SqL K H a xs ∧ xs.length = bs.length ∧ okSort bs = true ∧ (∀ (i : Nat) (u : V) (b : Val), xs[i]? = some u → bs[i]? = some b → Dp K H u (dV b)) ∧
  ∀ (zs : List (V × Val)) p, zs.Perm (xs.zip bs) → Srt (zs.map (·.2)) → H p = none → Q (.ref p) (upd H p (.lst (zs.map (·.1))))
theorem okSort_all {vs : List Val} (h : okSort vs = true) : (∀ v ∈ vs, pureV v = true ∧ (dV v).canLay0 = true ∧ (dV v).depth ≤ 50 ∧ hd1 (dV v) = true) ∧ (∀ a ∈ vs, ∀ b ∈ vs, sm (dV a) (dV b) = true) ∧ vs.length < 1000000 := by
  simp only [okSort, Bool.and_eq_true, List.all_eq_true, decide_eq_true_eq] at h
  obtain ⟨⟨⟨h1, h2⟩, h3⟩, h4⟩ := h
  refine ⟨fun v hv => ?_, h3, h4⟩
  have := h1 v hv
  simp only [okV, Bool.and_eq_true, decide_eq_true_eq] at this
  exact ⟨this.1.1, this.1.2, this.2, h2 v hv⟩
section
variable {X : Cx}
open Classical in
theorem cr_sortT (hu : X.A.units + 64 < cLine) : CallR X (.builtin "sorted") (rSortT X.K) := by
  intro pins s σ H vs us Q I r h
  obtain ⟨a, xs, bs, rfl, hs, hlen, hok, hd, q⟩ := h
  obtain ⟨ok1, ok2, ok3⟩ := okSort_all hok
  obtain ⟨its, rv, hl, hz⟩ := I.list hs
  obtain ⟨u, rfl, ru⟩ := vals1 r
  obtain rfl : u = Value.ref a := ru
  have li : its.length = bs.length := by rw [← rv.length, hlen]
  have rd : ∀ i (v : Value) b, its[i]? = some v → bs[i]? = some b → ∃ as, Reads s.heap v (dV b) as := fun i v b hv hb => by
    have l : i < xs.length := by rw [hlen]; exact (List.getElem?_eq_some_iff.mp hb).1
    obtain ⟨v', h1, h2⟩ := rv.get (List.getElem?_eq_getElem l)
    rw [hv] at h1
    cases h1
    exact Dp.reads I _ _ _ (hd i _ b (List.getElem?_eq_getElem l) hb) h2
  let f : Value → Tr := fun v => if g : ∃ d : PyData, d.canLay0 = true ∧ ∃ as, Reads s.heap v d as then toT g.choose else .i 0
  have fE : ∀ i (v : Value) b, its[i]? = some v → bs[i]? = some b → f v = trV b := fun i v b hv hb => by
    obtain ⟨as, hr⟩ := rd i v b hv hb
    have g : ∃ d : PyData, d.canLay0 = true ∧ ∃ as, Reads s.heap v d as := ⟨dV b, (ok1 b (List.mem_of_getElem? hb)).2.1, as, hr⟩
    show (if g : ∃ d : PyData, d.canLay0 = true ∧ ∃ as, Reads s.heap v d as then toT g.choose else .i 0) = _
    rw [dif_pos g]
    obtain ⟨c1, as2, c2⟩ := g.choose_spec
    rw [(Reads.unique c2 _ _ hr).1]
    rfl
  have fM : ∀ v ∈ its, ∃ i b, its[i]? = some v ∧ bs[i]? = some b ∧ b ∈ bs := fun v hv => by
    obtain ⟨i, hi⟩ := List.getElem?_of_mem hv
    have l : i < bs.length := by rw [← li]; exact (List.getElem?_eq_some_iff.mp hi).1
    exact ⟨i, bs[i], hi, List.getElem?_eq_getElem l, List.getElem_mem l⟩
  have O : SrtO.Swo (fun v w => lt (f v) (f w)) := ⟨fun x y h => asy _ _ h, fun x y z h1 h2 => ntr _ _ _ h1 h2⟩
  refine SrtO.sorted_ord O hl.isList (by rw [li]; exact Nat.le_of_lt (small ok3)) (fun h2 h₁ a' ha' kk => fun h' keep => ?_) fun out hs hb => ?_
  · have up : ∀ b o, s.heap.get? b = some o → h'.get? b = some o := fun b o e => keep b o (kk b o e).1 (kk b o e).2
    refine ⟨tuples' true, fun Q E hq => ?_, fun p q hp hq => ?_⟩
    · obtain ⟨i0, b0, _, _, hb0⟩ := fM its[0] (List.getElem_mem (by omega))
      refine kind_run (s := { s with heap := h' }) (by omega) (dV b0) (ok1 b0 hb0).2.2.2 (fun v hv => ?_) hq
      obtain ⟨i, b, e1, e2, mb⟩ := fM v hv
      obtain ⟨as, hr⟩ := rd i v b e1 e2
      exact ⟨dV b, as, Reads.keeps up hr, ok2 b0 hb0 b mb, (ok1 b mb).2.2.2⟩
    · obtain ⟨i, b, e1, e2, mb⟩ := fM p.1 hp
      obtain ⟨j, c, e3, e4, mc⟩ := fM q.1 hq
      obtain ⟨as, r1⟩ := rd i _ b e1 e2
      obtain ⟨as2, r2⟩ := rd j _ c e3 e4
      refine key_run (s := { s with heap := h' }) (A := X.A.in1.in1) (by show X.A.units + 1 + 1 + 60 < cLine; omega) (Reads.keeps up r1) (Reads.keeps up r2) (ok2 b mb c mc) (ok1 b mb).2.1 (ok1 c mc).2.1 (ok1 b mb).2.2.1 (ok1 b mb).2.2.2 ⟨rfl, ?_⟩
      show _ = lt (f p.1) (f q.1)
      rw [fE i _ b e1 e2, fE j _ c e3 e4]
      rfl
  · let L : List (Value × (V × Val)) := its.zip (xs.zip bs)
    have zl : (xs.zip bs).length = its.length := by rw [List.length_zip, hlen, li, Nat.min_self]
    have e1 : its = L.map (·.1) := (List.map_fst_zip (by omega)).symm
    have e2 : xs.zip bs = L.map (·.2) := (List.map_snd_zip (by omega)).symm
    obtain ⟨L', pL, eL⟩ := perm_up hb.perm L e1
    have inL : ∀ t ∈ L', ∃ i, its[i]? = some t.1 ∧ xs[i]? = some t.2.1 ∧ bs[i]? = some t.2.2 := fun t ht => by
      obtain ⟨i, hi⟩ := List.getElem?_of_mem (pL.mem_iff.mp ht)
      obtain ⟨g1, g2⟩ := List.getElem?_zip_eq_some.mp hi
      obtain ⟨g3, g4⟩ := List.getElem?_zip_eq_some.mp g2
      exact ⟨i, g1, g3, g4⟩
    have vals : ∀ l : List (Value × (V × Val)), (∀ t ∈ l, t ∈ L') → Vals ((l.map (·.2)).map (·.1)) (l.map (·.1)) := fun l => by
      induction l with
      | nil => exact fun _ => .nil
      | cons t l ih =>
        intro hl
        refine .cons ?_ (ih fun x hx => hl x (List.mem_cons_of_mem _ hx))
        obtain ⟨i, g1, g2, _⟩ := inL t (hl t List.mem_cons_self)
        obtain ⟨v, g3, g4⟩ := rv.get g2
        rw [g1] at g3
        cases g3
        exact g4
    have pz : (L'.map (·.2)).Perm (xs.zip bs) := by rw [e2]; exact pL.map _
    have sr : Srt ((L'.map (·.2)).map (·.2)) := by
      rw [List.map_map]
      refine List.pairwise_map.mpr ?_
      rw [← eL] at hs
      have hs2 := List.pairwise_map.mp hs
      refine hs2.imp_of_mem fun {t t'} ht ht' hh => ?_
      obtain ⟨i, g1, _, g3⟩ := inL t ht
      obtain ⟨j, k1, _, k3⟩ := inL t' ht'
      have this : lt (f t'.1) (f t.1) = false := hh
      rw [fE i _ _ g1 g3, fE j _ _ k1 k3] at this
      exact this
    refine ⟨.ref _, upd H _ (.lst ((L'.map (·.2)).map (·.1))), I.laid (t' := s.toks) (fun b o e => sortedAll_old e) (Nat.le_succ _) ?_, rfl, q _ _ pz sr (I.hok.fresh (Nat.le_succ _))⟩
    obtain ⟨n, hn⟩ := sortedAll_at s.heap its out.toArray
    refine ⟨?_, out, n, ?_, hn⟩
    · rw [List.length_map, pz.length_eq, zl, li]
      exact Nat.le_of_lt (small ok3)
    · have := vals L' fun _ h => h
      rw [eL] at this
      exact this
end
section
variable {K : PySem.W.Frag}
def gSortT : List Val → Sto → Option (Val × Sto) := fun xs S => match xs with
  | [.ref n] => match S[n]? with
    | some (.lst vs) => if okSort vs = true then some (.ref S.length, S ++ [.lst (sortT vs)]) else none
    | _ => none
  | _ => none
theorem vrs_of_zip {H : Hp} {m : List Addr} {xs : List V} {vs : List Val} (r : VRs K H m xs vs) {zs : List (V × Val)} (p : zs.Perm (xs.zip vs)) : VRs K H m (zs.map (·.1)) (zs.map (·.2)) := by
  have all : ∀ t ∈ xs.zip vs, VR K H m t.1 t.2 := fun t ht => by
    obtain ⟨i, hi⟩ := List.getElem?_of_mem ht
    obtain ⟨g1, g2⟩ := List.getElem?_zip_eq_some.mp hi
    obtain ⟨u, g3, g4⟩ := r.get g2
    rw [g1] at g3
    cases g3
    exact g4
  have go : ∀ l : List (V × Val), (∀ t ∈ l, t ∈ zs) → VRs K H m (l.map (·.1)) (l.map (·.2)) := fun l => by
    induction l with
    | nil => exact fun _ => .nil
    | cons t l ih => exact fun hl => .cons (all t (p.mem_iff.mp (hl t List.mem_cons_self))) (ih fun x hx => hl x (List.mem_cons_of_mem _ hx))
  exact go zs fun _ h => h
theorem cSortT : CaA K (rSortT K) gSortT := by
  intro m S H xs v S' us Q R ru e q
  unfold gSortT at e
  split at e
  · next n =>
    obtain ⟨u, rfl, r1⟩ := ru.one_of
    cases r1 with
    | ref hm =>
      split at e
      · next vs en =>
        split at e
        · next hok =>
          cases e
          obtain ⟨xs, hx, rx⟩ := R.ob _ _ _ en hm
          obtain ⟨ok1, _, _⟩ := okSort_all hok
          refine ⟨_, xs, vs, rfl, SqL.of hx, rx.len, hok, fun i u b h1 h2 => ?_, fun zs p pz sr hp => ?_⟩
          · obtain ⟨u', h3, h4⟩ := rx.get h2
            rw [h1] at h3
            cases h3
            exact dV_dp _ _ h4 (ok1 b (List.mem_of_getElem? h2)).1
          · have e2 : zs.map (·.2) = sortT vs := by
              refine sortT_uniq sr ?_ fun v hv => (ok1 v hv).1
              have := pz.map (·.2)
              rwa [List.map_snd_zip (by rw [rx.len]; exact Nat.le_refl _)] at this
            have rz := vrs_of_zip rx pz
            rw [e2] at rz
            exact newList R rz q p hp
        · cases e
      · cases e
  · cases e
/-- sorted: texts of a list or a dict, else tuples -/
def gSortedG : List Val → Sto → Option (Val × Sto) := fun xs S => (gSorted xs S).or (gSortT xs S)
def rSortedG (K : PySem.W.Frag) : List V → Hp → VK → Prop := fun x H Q => rSortedA K x H Q ∨ rSortT K x H Q
theorem call_sortedG {X : Cx} (hc : X.calm = true) (hu : X.A.units + 64 < cLine) : CallR X (.builtin "sorted") (rSortedG X.K) := CallR.or (call_sortedA hc) (cr_sortT hu)
theorem cSortedG : CaA K (rSortedG K) gSortedG := cSorted.or cSortT
end
section
variable {X : Cx} {K : PySem.W.Frag}
def rLtD (K : PySem.W.Frag) : R2 := fun x y H Q => ∃ d e, Dp K H x d ∧ Dp K H y e ∧ sm d e = true ∧ d.canLay0 = true ∧ e.canLay0 = true ∧ d.depth ≤ 50 ∧ Q (.bl (lt (toT d) (toT e))) H
theorem op_ltD (hu : X.A.units + 64 < cLine) : OpR X (compareOp .Lt) (rLtD X.K) := by
  intro pins s σ H x y v u Q I rx ry h
  obtain ⟨d, e, h1, h2, h3, h4, h5, h6, q⟩ := h
  obtain ⟨as, r1⟩ := Dp.reads I _ _ _ h1 rx
  obtain ⟨bs, r2⟩ := Dp.reads I _ _ _ h2 ry
  exact rc_lt d e X.A s v u as bs r1 r2 h3 h4 h5 (by omega) X.prog X.w _ _ ⟨.bl _, H, I, rfl, q⟩
def gLtD : Val → Val → Sto → Option (Val × Sto) := fun x y S => if okV x = true ∧ okV y = true ∧ smV x y = true then some (.bl (ltV x y), S) else none
theorem okV_all {v : Val} (h : okV v = true) : pureV v = true ∧ (dV v).canLay0 = true ∧ (dV v).depth ≤ 50 := by
  simp only [okV, Bool.and_eq_true, decide_eq_true_eq] at h
  exact ⟨h.1.1, h.1.2, h.2⟩
theorem oLtD : OpA K (rLtD K) gLtD := by
  intro m S H x y v S' u w Q R ru rw_ e q
  unfold gLtD at e
  split at e
  · next hc =>
    cases e
    have a := okV_all hc.1
    have b := okV_all hc.2.1
    exact ⟨dV x, dV y, dV_dp _ _ ru a.1, dV_dp _ _ rw_ b.1, hc.2.2, a.2.1, b.2.1, a.2.2, q m _ H (.refl _ _) R (.bl _)⟩
  · cases e
def okMin (vs : List Val) : Bool := vs.all okV && vs.all (fun a => vs.all fun b => smV a b)
theorem okMin_all {vs : List Val} (h : okMin vs = true) : (∀ v ∈ vs, pureV v = true ∧ (dV v).canLay0 = true ∧ (dV v).depth ≤ 50) ∧ ∀ a ∈ vs, ∀ b ∈ vs, sm (dV a) (dV b) = true := by
  simp only [okMin, Bool.and_eq_true, List.all_eq_true] at h
  exact ⟨fun v hv => okV_all (h.1 v hv), h.2⟩
def rMinT (K : PySem.W.Frag) : List V → Hp → VK → Prop := fun us H Q => ∃ (a : Addr) (xs : List V) (bs : List Val), us = [.ref a] ∧ SqL K H a xs ∧ xs.length = bs.length ∧ bs ≠ [] ∧ okMin bs = true ∧ (∀ (i : Nat) (u : V) (b : Val), xs[i]? = some u → bs[i]? = some b → Dp K H u (dV b)) ∧
  ∀ (i : Nat) (u : V) (b : Val), xs[i]? = some u → bs[i]? = some b → (∀ c ∈ bs, ltV c b = false) → Q u H
theorem best_min {bt : Nat → Nat → Bool} (irr : ∀ i, bt i i = false) (as : ∀ i j, bt i j = true → bt j i = false) (nt : ∀ i j k, bt j i = false → bt k j = false → bt k i = false) : ∀ k j, j ≤ k → bt j (argBest bt k) = false
  | 0, j, h => by
    obtain rfl : j = 0 := by omega
    exact irr 0
  | k + 1, j, h => by
    unfold argBest
    split
    · next hb =>
      by_cases e : j = k + 1
      · rw [e]
        exact irr _
      · exact nt _ _ _ (as _ _ hb) (best_min irr as nt k j (by omega))
    · next hb =>
      by_cases e : j = k + 1
      · rw [e]
        simpa using hb
      · exact best_min irr as nt k j (by omega)
theorem cr_minT (hc : X.calm = true) (hu : X.A.units + 64 < cLine) : CallR X (.builtin "min") (rMinT X.K) := by
  intro pins s σ H vs us Q I r h
  obtain ⟨a, xs, bs, rfl, hs, hlen, hne, hok, hd, q⟩ := h
  obtain ⟨ok1, ok2⟩ := okMin_all hok
  obtain ⟨its, rv, hl, hz⟩ := I.list hs
  obtain ⟨u, rfl, ru⟩ := vals1 r
  obtain rfl : u = Value.ref a := ru
  have li : its.length = bs.length := by rw [← rv.length, hlen]
  have rd : ∀ i (v : Value) b, its[i]? = some v → bs[i]? = some b → ∃ as, Reads s.heap v (dV b) as := fun i v b hv hb => by
    have l : i < xs.length := by rw [hlen]; exact (List.getElem?_eq_some_iff.mp hb).1
    obtain ⟨v', h1, h2⟩ := rv.get (List.getElem?_eq_getElem l)
    rw [hv] at h1
    cases h1
    exact Dp.reads I _ _ _ (hd i _ b (List.getElem?_eq_getElem l) hb) h2
  have pos : 0 < bs.length := List.length_pos_iff.mpr hne
  let bt : Nat → Nat → Bool := fun i j => ltV (bs.getD i .non) (bs.getD j .non)
  have gd : ∀ i b, bs[i]? = some b → bs.getD i .non = b := fun i b hb => by rw [List.getD_eq_getElem?_getD, hb]; rfl
  have tk : ∀ (i : Nat) (v : Value), its.toArray[i]? = some v → ∃ b, its[i]? = some v ∧ bs[i]? = some b ∧ b ∈ bs := fun i v hv => by
    have hv : its[i]? = some v := by simpa using hv
    have l : i < bs.length := by rw [← li]; exact (List.getElem?_eq_some_iff.mp hv).1
    exact ⟨bs[i], hv, List.getElem?_eq_getElem l, List.getElem_mem l⟩
  refine min_list (I.ok.hd hc) hl.isList (by simpa using (show 0 < its.length by omega)) bt (fun i j v w z Q E ho hv hw hq => ?_) fun v h tk' hv ho => ?_
  · obtain ⟨b, h1, h2, mb⟩ := tk i v hv
    obtain ⟨c, h3, h4, mc⟩ := tk j w hw
    obtain ⟨as, r1⟩ := rd i v b h1 h2
    obtain ⟨as2, r2⟩ := rd j w c h3 h4
    refine rc_lt (dV b) (dV c) X.A.in1.in1 z v w as as2 (Reads.keeps ho r1) (Reads.keeps ho r2) (ok2 b mb c mc) (ok1 b mb).2.1 (ok1 c mc).2.1 (by have := (ok1 b mb).2.2; show X.A.units + 1 + 1 + _ + 1 < cLine; omega) X.prog X.w _ _ ?_
    have e : bt i j = lt (toT (dV b)) (toT (dV c)) := by
      show ltV _ _ = _
      rw [gd i b h2, gd j c h4]
      rfl
    rw [← e]
    exact hq
  · obtain ⟨b, h1, h2, mb⟩ := tk _ v hv
    have l : argBest bt (its.toArray.size - 1) < xs.length := by rw [hlen]; exact (List.getElem?_eq_some_iff.mp h2).1
    obtain ⟨v', g1, g2⟩ := rv.get (List.getElem?_eq_getElem l)
    rw [h1] at g1
    cases g1
    refine ⟨_, H, I.kept ho, g2, q _ _ b (List.getElem?_eq_getElem l) h2 fun c hc => ?_⟩
    obtain ⟨j, hj⟩ := List.getElem?_of_mem hc
    have lj := (List.getElem?_eq_some_iff.mp hj).1
    have := best_min (bt := bt) (fun i => Od.irr _) (fun i j h => asy _ _ h) (fun i j k h1 h2 => ntr _ _ _ h1 h2) (its.toArray.size - 1) j (by simp; omega)
    have e : bt j (argBest bt (its.toArray.size - 1)) = ltV c b := by
      show ltV _ _ = _
      rw [gd j c hj, gd _ b h2]
    rw [← e]
    exact this
def minT : Val → List Val → Val
  | a, [] => a
  | a, b :: l => minT (if ltV b a = true then b else a) l
theorem minT_mem : ∀ (a : Val) (l : List Val), minT a l ∈ a :: l
  | a, [] => List.mem_cons_self
  | a, b :: l => by
    unfold minT
    rcases List.mem_cons.mp (minT_mem (if ltV b a = true then b else a) l) with e | h
    · rw [e]
      split <;> simp
    · exact List.mem_cons_of_mem _ (List.mem_cons_of_mem _ h)
theorem minT_le : ∀ (a : Val) (l : List Val), ∀ c ∈ a :: l, ltV c (minT a l) = false
  | a, [], c, h => by
    rw [List.mem_singleton.mp h]
    exact Od.irr _
  | a, b :: l, c, h => by
    unfold minT
    have ih := minT_le (if ltV b a = true then b else a) l
    have h0 := ih _ List.mem_cons_self
    rcases List.mem_cons.mp h with rfl | h
    · refine ntr _ _ _ h0 ?_
      split
      · next hb => exact asy _ _ hb
      · exact Od.irr _
    · rcases List.mem_cons.mp h with rfl | h
      · refine ntr _ _ _ h0 ?_
        split
        · exact Od.irr _
        · next hb => exact (Bool.not_eq_true _).mp hb
      · exact ih c (List.mem_cons_of_mem _ h)
theorem min_uniq {a b : Val} {l : List Val} (ha : a ∈ l) (hb : b ∈ l) (pa : pureV a = true) (pb : pureV b = true) (h1 : ∀ c ∈ l, ltV c a = false) (h2 : ∀ c ∈ l, ltV c b = false) : a = b :=
  trV_inj a b pa pb (tot _ _ (h2 a ha) (h1 b hb))
def gMinT : List Val → Sto → Option (Val × Sto) := fun xs S => match xs with
  | [.ref n] => match S[n]? with
    | some (.lst (a :: l)) => if okMin (a :: l) = true then some (minT a l, S) else none
    | _ => none
  | _ => none
theorem cMinT : CaA K (rMinT K) gMinT := by
  intro m S H xs v S' us Q R ru e q
  unfold gMinT at e
  split at e
  · next n =>
    obtain ⟨u, rfl, r1⟩ := ru.one_of
    cases r1 with
    | ref hm =>
      split at e
      · next a l en =>
        split at e
        · next hok =>
          cases e
          obtain ⟨xs, hx, rx⟩ := R.ob _ _ _ en hm
          obtain ⟨ok1, _⟩ := okMin_all hok
          refine ⟨_, xs, a :: l, rfl, SqL.of hx, rx.len, by simp, hok, fun i u b h1 h2 => ?_, fun i u b h1 h2 h3 => ?_⟩
          · obtain ⟨u', h4, h5⟩ := rx.get h2
            rw [h1] at h4
            cases h4
            exact dV_dp _ _ h5 (ok1 b (List.mem_of_getElem? h2)).1
          · obtain ⟨u', h4, h5⟩ := rx.get h2
            rw [h1] at h4
            cases h4
            have e : b = minT a l := min_uniq (List.mem_of_getElem? h2) (minT_mem a l) (ok1 b (List.mem_of_getElem? h2)).1 (ok1 _ (minT_mem a l)).1 h3 (minT_le a l)
            rw [← e] at q
            exact q m _ H (.refl _ _) R h5
        · cases e
      · cases e
  · cases e
/-- min: of ints (two, a list), of texts (two), of a list of tuples or texts -/
def gMinG : List Val → Sto → Option (Val × Sto) := fun xs S => (gMinB xs S).or (gMinT xs S)
def rMinG (K : PySem.W.Frag) : List V → Hp → VK → Prop := fun x H Q => (((∃ i j, x = [.int i, .int j] ∧ Q (.int (if j < i then j else i)) H) ∨ rMin K x H Q) ∨ ∃ a b : Str, x = [.str a, .str b] ∧ Q (.str (if b.cps.toList < a.cps.toList then b else a)) H) ∨ rMinT K x H Q
theorem call_minG (hc : X.calm = true) (hu : X.A.units + 64 < cLine) : CallR X (.builtin "min") (rMinG X.K) := CallR.or (call_minB hc) (cr_minT hc hu)
theorem cMinG : CaA K (rMinG K) gMinG := cMinB.or cMinT
end
end AL
namespace AL
open PySem PySem.Spec PyProof.Rows L2 G Th
variable [TT]
/-- a def as it stands, whatever its defaults are -/
structure FunW (K : PySem.W.Frag) (x qual : Str) (st : Stmt) (f : Addr) (fd : FuncData) : Prop where
  ex : ∃ (oc : Value) (od : Option Addr) (dV kV doc pm : Value) (an : Option Addr) (cdv ct : Value) (osl : Array (Option Value)),
    fd = PySem.W.fnOf x qual (defArgs st) (defBody st) (defScope st) dV kV doc pm an cdv ct ∧ K.lookup f = some ⟨oc, od, .func fd, osl⟩ ∧ PySem.W.codeIn K cdv qual = true
omit [TT] in
theorem FunW.of {K : PySem.W.Frag} {x qual : Str} {st : Stmt} {f : Addr} {fd : FuncData} {dvs : List V} {kws : List (Str × V)} (F : FunD K x qual (defArgs st) (defBody st) (defScope st) dvs kws f fd) : FunW K x qual st f fd := by
  obtain ⟨oc, od, dV, kV, doc, pm, an, cdv, ct, osl, e, lk, hcd, _, _⟩ := F.ex
  exact ⟨oc, od, dV, kV, doc, pm, an, cdv, ct, osl, e, lk, hcd⟩
end AL
namespace K57
open PySem PySem.Spec PyProof.Rows L2 G Th AL
noncomputable def other_ends_B : SF := (sRet (eLc (.tp [(.nm 2), (.nm 3)]) (iSeq (eV 0)) (eT (eB (gIn false) (eV 1) (eTup (aCons (eV 2) (aCons (eV 3) aNil))))) (eIf (eT (eB gEq (eV 2) (eV 1))) (eV 3) (eV 2)) [2, 3]))
noncomputable def other_ends_ : FA := runF 4 other_ends_B
noncomputable def own_best_B : SF := (sSeq (sAsg (.tp [(.nm 1), (.nm 2), (.nm 3)]) (eV 0))
    (sRet (eTup (aCons (eTup (aCons (eV 2) (aCons (eV 3) (aCons (eV 1) aNil)))) (aCons (eC (.int 0)) (aCons (eV 1) aNil))))))
noncomputable def own_best_ : FA := runF 4 own_best_B
noncomputable def row_behind_B : SF := (sSeq (sAsg (.nm 5) (eLc (.nm 9) (iSeq (eV 1)) bYes (eB gIxA (eV 9) (eC (.int 0))) [9]))
    (sSeq (sAsg (.nm 6) (eLc (.tp [(.nm 10), (.nm 11), (.nm 12), (.nm 13)]) (iSeq (eV 2)) (bAnd (eT (eB (gIn true) (eV 10) (eV 5))) (eT (eB gLt (eV 13) (eV 4)))) (eTup (aCons (eV 10) (aCons (eV 11) (aCons (eV 12) (aCons (eB gAdd (eV 13) (eC (.int 1))) aNil))))) [10, 11, 12, 13]))
    (sSeq (sAsg (.nm 7) (eCall gTuple (aCons (eCall gSortedG (aCons (eB gAdd (eV 1) (eV 6)) aNil)) aNil)))
    (sSeq (sAsg (.nm 8) (eLc (.tp [(.nm 10), (.nm 11), (.nm 12), (.nm 13)]) (iSeq (eV 7)) (eT (eB gLt (eV 12) (eV 3))) (eTup (aCons (eV 11) (aCons (eB gAdd (eV 12) (eC (.int 1))) (aCons (eV 10) aNil)))) [10, 11, 12, 13]))
    (sRet (eTup (aCons (eB gIxA (eV 0) (eC (.int 0))) (aCons (eCall gMinG (aCons (eB gAdd (eLst (aCons (eDef own_best_ 1 (aCons (eV 0) aNil)) aNil)) (eV 8)) aNil)) (aCons (eV 7) aNil)))))))))
noncomputable def row_behind_ : FA := runF 14 row_behind_B
noncomputable def state_round_B : SF := (sSeq (sAsg (.nm 5) (eIf (eT (eB gIs (eV 2) (eC .non))) (eB gIxA (eV 0) (eC (.int 1))) (eV 2)))
    (sSeq (sAsg (.nm 6) (eDc (.tp [(.nm 12), (.nm 13), (.nm 14)]) (iSeq (eV 1)) (eT (eB gIsN (eV 13) (eC .non))) (eV 12) (eV 13) [12, 13, 14]))
    (sSeq (sAsg (.nm 7) (eLst aNil))
    (sSeq (sFor (.tp [(.nm 8), (.nm 9)]) (iZp (aCons (eB gIxA (eV 0) (eC (.int 0))) (aCons (eV 1) aNil))) (sSeq (sAsg (.nm 10) (eLc (.nm 15) (iSeq (eDef other_ends_ 2 (aCons (eV 5) (aCons (eB gIxA (eV 9) (eC (.int 0))) aNil)))) (eT (eB (gIn false) (eV 15) (eV 6))) (eV 15) [15]))
    (sSeq (sAsg (.nm 11) (eLc (.nm 15) (iSeq (eV 10)) bYes (eTup (aCons (eV 15) (aCons (eB gIxA (eB gIxA (eV 6) (eV 15)) (eC (.int 0))) (aCons (eB gIxA (eB gIxA (eV 6) (eV 15)) (eC (.int 1))) (aCons (eC (.int 0)) aNil))))) [15]))
    (sExpr (eMt isL gApp (eV 7) (aCons (eIf (eT (eB gIs (eB gIxA (eV 9) (eC (.int 1))) (eC .non))) (eV 9) (eDef row_behind_ 5 (aCons (eV 8) (aCons (eV 11) (aCons (eB gIxA (eV 9) (eC (.int 2))) (aCons (eV 3) (aCons (eV 4) aNil))))))) aNil))))))
    (sRet (eCall gTuple (aCons (eV 7) aNil)))))))
noncomputable def state_round_ : FA := runF 16 state_round_B
noncomputable def state_behind_B : SF := (sSeq (sAsg (.nm 6) (eV 1))
    (sSeq (sFor (.nm 7) (iRg1 (aCons (eV 2) aNil)) (sAsg (.nm 6) (eDefK state_round_ 3 2 (fun as bs => as ++ ([] ++ ([] ++ bs))) (aCons (eV 0) (aCons (eV 6) (aCons (eV 3) aNil))) (aCons (eV 4) (aCons (eV 5) aNil)))))
    (sRet (eV 6))))
noncomputable def state_behind_ : FA := runF 8 state_behind_B
noncomputable def feedL_B : SF := (sRet (eDsp (aCons (eC (.str "cells")) (aCons (eCall gList (aCons (eSl gSl (eV 0) oN (oS (eC (.int 63)))) aNil)) (aCons (eC (.str "at")) (aCons (eC (.int 0)) (aCons (eC (.str "left")) (aCons (eC (.int 0)) (aCons (eC (.str "turn")) (aCons (eC (.int 0)) aNil))))))))))
noncomputable def feedL_ : FA := runF 1 feedL_B
noncomputable def drawL_B : SF := (sSeq (sAsg (.nm 2) (eB gAdd (eB gIxA (eV 0) (eC (.str "turn"))) (eC (.int 1))))
    (sSeq (sSub gSetA (eV 0) (eC (.str "turn")) (eV 2))
    (sSeq (sIf (eT (eB gGt (eB gIxA (eV 0) (eC (.str "left"))) (eC (.int 0)))) (sSeq (sAsg (.nm 6) (eB gMod (eB gIxA (eV 0) (eC (.str "left"))) (eV 1)))
    (sSeq (sSub gSetA (eV 0) (eC (.str "left")) (eB gDiv (eB gIxA (eV 0) (eC (.str "left"))) (eV 1)))
    (sRet (eV 6)))) sNil)
    (sSeq (sAsg (.nm 3) (eB gIxA (eV 0) (eC (.str "at"))))
    (sSeq (sSub gSetA (eV 0) (eC (.str "at")) (eB gAdd (eV 3) (eC (.int 1))))
    (sSeq (sAsg (.nm 4) (eC (.int 0)))
    (sSeq (sIf (eT (eB gNe (eB gIxA (eV 0) (eC (.str "cells"))) (eLst aNil))) (sAsg (.nm 4) (eB gIxA (eB gIxA (eV 0) (eC (.str "cells"))) (eB gMod (eV 3) (eCall gLen (aCons (eB gIxA (eV 0) (eC (.str "cells"))) aNil))))) sNil)
    (sSeq (sIf (bAnd (eT (eB gGe (eV 4) (eB gPow (eC (.int 10)) (eC (.int 18))))) (eT (eB gLt (eV 3) (eCall gLen (aCons (eB gIxA (eV 0) (eC (.str "cells"))) aNil))))) (sSeq (sSub gSetA (eV 0) (eC (.str "left")) (eB gDiv (eV 4) (eV 1)))
    (sRet (eB gMod (eV 4) (eV 1)))) sNil)
    (sSeq (sAsg (.nm 5) (eB gMod (eB gPow (eB gAdd (eB gAdd (eB gMod (eV 4) (eC (.int 2147483629))) (eB gMul (eC (.int 7919)) (eV 2))) (eC (.int 1))) (eC (.int 5))) (eC (.int 2147483647))))
    (sSeq (sAsg (.nm 5) (eB gMod (eB gPow (eB gAdd (eV 5) (eB gMul (eC (.int 104729)) (eV 2))) (eC (.int 5))) (eC (.int 2147483587))))
    (sRet (eB gMod (eB gDiv (eV 5) (eC (.int 64))) (eV 1)))))))))))))
noncomputable def drawL_ : FA := runF 7 drawL_B
noncomputable def netL_B : SF := (sSeq (sAsg (.nm 2) (eLst (aCons (eC (.str "a")) (aCons (eC (.str "ab")) (aCons (eC (.str "b")) (aCons (eC (.str "c")) (aCons (eC (.str "d")) (aCons (eC (.str "yy")) (aCons (eC (.str "z")) (aCons (eC (.str "zzzzzzzz")) aNil))))))))))
    (sSeq (sPar [9, 10] (aCons (eB gAdd (eC (.int 1)) (eDef drawL_ 2 (aCons (eV 0) (aCons (eV 1) aNil)))) (aCons (eDef drawL_ 2 (aCons (eV 0) (aCons (eC (.int 5)) aNil))) aNil)))
    (sSeq (sAsg (.nm 3) (eCall gSortedG (aCons (eLc (.nm 8) (iRg1 (aCons (eV 9) aNil)) bYes (eMt isL gPop (eV 2) (aCons (eDef drawL_ 2 (aCons (eV 0) (aCons (eCall gLen (aCons (eV 2) aNil)) aNil))) aNil)) [8]) aNil)))
    (sSeq (sAsg (.nm 4) (eB gEq (eDef drawL_ 2 (aCons (eV 0) (aCons (eC (.int 3)) aNil))) (eC (.int 0))))
    (sSeq (sAsg (.nm 5) (eCall gTuple (aCons (eLc (.nm 13) (iSeq (eV 3)) bYes (eTup (aCons (eV 13) (aCons (eIf (eT (eV 4)) (eC (.int 0)) (eDef drawL_ 2 (aCons (eV 0) (aCons (eC (.int 4)) aNil)))) (aCons (eDef drawL_ 2 (aCons (eV 0) (aCons (eC (.int 2)) aNil))) aNil)))) [13]) aNil)))
    (sSeq (sAsg (.nm 6) (eLc (.nm 8) (iRg1 (aCons (eV 9) aNil)) bYes (eMt isL gPop (eV 3) (aCons (eDef drawL_ 2 (aCons (eV 0) (aCons (eCall gLen (aCons (eV 3) aNil)) aNil))) aNil)) [8]))
    (sSeq (sAsg (.nm 7) (eLst aNil))
    (sSeq (sFor (.nm 8) (iRg1 (aCons (eV 9) aNil)) (sFor (.nm 11) (iRg1 (aCons (eV 8) aNil)) (sSeq (sAsg (.nm 12) (eB gIxA (eLst (aCons (eB gEq (eB gSub (eV 8) (eV 11)) (eC (.int 1))) (aCons (eOr (eB gEq (eB gSub (eV 8) (eV 11)) (eC (.int 1))) (eB gEq (eB gSub (eV 8) (eV 11)) (eB gSub (eV 9) (eC (.int 1))))) (aCons (eB gEq (eV 11) (eC (.int 0))) (aCons (eB gEq (eDef drawL_ 2 (aCons (eV 0) (aCons (eC (.int 2)) aNil))) (eC (.int 0))) (aCons (eB gLt (eB gSub (eV 8) (eV 11)) (eC (.int 3))) aNil)))))) (eV 10)))
    (sIf (bAnd (eT (eV 12)) (eT (eB gLt (eCall gLen (aCons (eV 7) aNil)) (eC (.int 12))))) (sExpr (eMt isL gApp (eV 7) (aCons (eTup (aCons (eCall gMinG (aCons (eB gIxA (eV 6) (eV 11)) (aCons (eB gIxA (eV 6) (eV 8)) aNil))) (aCons (eCall gMaxB (aCons (eB gIxA (eV 6) (eV 11)) (aCons (eB gIxA (eV 6) (eV 8)) aNil))) aNil))) aNil))) sNil))))
    (sRet (eTup (aCons (eV 5) (aCons (eCall gTuple (aCons (eCall gSortedG (aCons (eV 7) aNil)) aNil)) aNil))))))))))))
noncomputable def netL_ : FA := runF 14 netL_B
noncomputable def some_wiresL_B : SF := (sSeq (sAsg (.nm 2) (eDef drawL_ 2 (aCons (eV 0) (aCons (eC (.int 4)) aNil))))
    (sRet (eCall gTuple (aCons (eLc (.nm 3) (iSeq (eB gIxA (eV 1) (eC (.int 1)))) (bOr (eT (eB gGt (eV 2) (eC (.int 1)))) (eT (eB gGt (eDef drawL_ 2 (aCons (eV 0) (aCons (eC (.int 3)) aNil))) (eC (.int 0))))) (eV 3) [3]) aNil))))
noncomputable def some_wiresL_ : FA := runF 4 some_wiresL_B
noncomputable def keyL_B : SF := (sRet (eTup (aCons (eB gIxA (eV 0) (eC (.int 1))) (aCons (eB gIxA (eV 0) (eC (.int 2))) (aCons (eB gIxA (eV 0) (eC (.int 0))) aNil)))))
noncomputable def keyL_ : FA := runF 1 keyL_B
noncomputable def any_keyL_B : SF := (sSeq (sIf (eT (eB gGt (eDef drawL_ 2 (aCons (eV 0) (aCons (eC (.int 3)) aNil))) (eC (.int 0)))) (sRet (eDef keyL_ 1 (aCons (eB gIxA (eB gIxA (eV 1) (eC (.int 0))) (eDef drawL_ 2 (aCons (eV 0) (aCons (eCall gLen (aCons (eB gIxA (eV 1) (eC (.int 0))) aNil)) aNil)))) aNil))) sNil)
    (sRet (eTup (aCons (eDef drawL_ 2 (aCons (eV 0) (aCons (eC (.int 3)) aNil))) (aCons (eDef drawL_ 2 (aCons (eV 0) (aCons (eC (.int 2)) aNil))) (aCons (eB gIxA (eLst (aCons (eC (.str "ghost")) (aCons (eC (.str "a")) (aCons (eC (.str "zz")) aNil)))) (eDef drawL_ 2 (aCons (eV 0) (aCons (eC (.int 3)) aNil)))) aNil))))))
noncomputable def any_keyL_ : FA := runF 2 any_keyL_B
noncomputable def endsL_B : SF := (sSeq (sAsg (.nm 2) (eB gAdd (eLc (.tp [(.nm 3), (.nm 4)]) (iSeq (eV 0)) (eT (eB gEq (eV 4) (eV 1))) (eV 3) [3, 4]) (eLc (.tp [(.nm 3), (.nm 4)]) (iSeq (eV 0)) (eT (eB gEq (eV 3) (eV 1))) (eV 4) [3, 4])))
    (sRet (eCall gSortedG (aCons (eV 2) aNil))))
noncomputable def endsL_ : FA := runF 5 endsL_B
noncomputable def stateL_B : SF := (sSeq (sAsg (.nm 2) (eLst aNil))
    (sSeq (sFor (.nm 3) (iSeq (eB gIxA (eV 1) (eC (.int 0)))) (sSeq (sPar [4, 5] (aCons (eC .non) (aCons (eLst aNil) aNil)))
    (sSeq (sIf (eT (eB gGt (eDef drawL_ 2 (aCons (eV 0) (aCons (eC (.int 6)) aNil))) (eC (.int 0)))) (sSeq (sAsg (.nm 6) (eB gIxA (eB gIxA (eB gIxA (eV 1) (eC (.int 0))) (eDef drawL_ 2 (aCons (eV 0) (aCons (eCall gLen (aCons (eB gIxA (eV 1) (eC (.int 0))) aNil)) aNil)))) (eC (.int 0))))
    (sSeq (sAsg (.nm 4) (eTup (aCons (eDef any_keyL_ 2 (aCons (eV 0) (aCons (eV 1) aNil))) (aCons (eDef drawL_ 2 (aCons (eV 0) (aCons (eC (.int 7)) aNil))) (aCons (eV 6) aNil)))))
    (sFor (.nm 7) (iSeq (eDef endsL_ 2 (aCons (eB gIxA (eV 1) (eC (.int 1))) (aCons (eB gIxA (eV 3) (eC (.int 0))) aNil)))) (sIf (eT (eB gGt (eDef drawL_ 2 (aCons (eV 0) (aCons (eC (.int 3)) aNil))) (eC (.int 0)))) (sExpr (eMt isL gApp (eV 5) (aCons (eTup (aCons (eV 7) (aCons (eDef any_keyL_ 2 (aCons (eV 0) (aCons (eV 1) aNil))) (aCons (eDef drawL_ 2 (aCons (eV 0) (aCons (eC (.int 6)) aNil))) (aCons (eDef drawL_ 2 (aCons (eV 0) (aCons (eC (.int 4)) aNil))) aNil))))) aNil))) sNil)))) sNil)
    (sExpr (eMt isL gApp (eV 2) (aCons (eTup (aCons (eB gIxA (eV 3) (eC (.int 0))) (aCons (eV 4) (aCons (eCall gTuple (aCons (eV 5) aNil)) aNil)))) aNil))))))
    (sRet (eCall gTuple (aCons (eV 2) aNil)))))
noncomputable def stateL_ : FA := runF 8 stateL_B
noncomputable def two_numbersL_B : SF := (sRet (eTup (aCons (eB gIxA (eLst (aCons (eC (.int 4)) (aCons (eC (.int 1)) (aCons (eC (.int 2)) (aCons (eC (.int 9)) (aCons (eC (.int 3)) aNil)))))) (eDef drawL_ 2 (aCons (eV 0) (aCons (eC (.int 5)) aNil)))) (aCons (eB gIxA (eLst (aCons (eC (.int 1)) (aCons (eC (.int 0)) (aCons (eC (.int 2)) (aCons (eC (.int 4)) aNil))))) (eDef drawL_ 2 (aCons (eV 0) (aCons (eC (.int 4)) aNil)))) aNil))))
noncomputable def two_numbersL_ : FA := runF 1 two_numbersL_B
noncomputable def turnedL_B : SF := (sSeq (sAsg (.nm 5) (eCall gDict (aCons (eLc (.tp [(.nm 8), (.nm 9), (.nm 10)]) (iSeq (eV 1)) bYes (eTup (aCons (eV 8) (aCons (eV 9) aNil))) [8, 9, 10]) aNil)))
    (sSeq (sAsg (.nm 6) (eLst aNil))
    (sSeq (sFor (.nm 7) (iRg1 (aCons (eCall gLen (aCons (eB gIxA (eV 0) (eC (.int 0))) aNil)) aNil)) (sSeq (sAsg (.tp [(.nm 8), (.nm 9), (.nm 10)]) (eB gIxA (eV 1) (eV 7)))
    (sSeq (sIf (eT (eB gIsN (eV 9) (eC .non))) (sSeq (sAsg (.nm 11) (eCall gDict (aCons (eLc (.tp [(.nm 13), (.nm 14), (.nm 15), (.nm 16)]) (iSeq (eV 10)) (eT (eB gLt (eV 16) (eV 4))) (eTup (aCons (eV 13) (aCons (eTup (aCons (eV 13) (aCons (eV 14) (aCons (eV 15) (aCons (eB gAdd (eV 16) (eC (.int 1))) aNil))))) aNil))) [13, 14, 15, 16]) aNil)))
    (sSeq (sFor (.nm 12) (iSeq (eDef endsL_ 2 (aCons (eV 2) (aCons (eV 8) aNil)))) (sIf (eT (eB gIsN (eB gIxA (eV 5) (eV 12)) (eC .non))) (sSub gSetA (eV 11) (eV 12) (eTup (aCons (eV 12) (aCons (eB gIxA (eB gIxA (eV 5) (eV 12)) (eC (.int 0))) (aCons (eB gIxA (eB gIxA (eV 5) (eV 12)) (eC (.int 1))) (aCons (eC (.int 0)) aNil)))))) sNil))
    (sSeq (sAsg (.nm 10) (eCall gTuple (aCons (eLc (.nm 13) (iSeq (eCall gSortedG (aCons (eV 11) aNil))) bYes (eB gIxA (eV 11) (eV 13)) [13]) aNil)))
    (sSeq (sAsg (.nm 9) (eTup (aCons (eDef keyL_ 1 (aCons (eB gIxA (eB gIxA (eV 0) (eC (.int 0))) (eV 7)) aNil)) (aCons (eC (.int 0)) (aCons (eV 8) aNil)))))
    (sFor (.tp [(.nm 13), (.nm 14), (.nm 15), (.nm 16)]) (iSeq (eV 10)) (sIf (bAnd (eT (eB gLt (eV 15) (eV 3))) (eT (eB gLtD (eTup (aCons (eV 14) (aCons (eB gAdd (eV 15) (eC (.int 1))) (aCons (eV 13) aNil)))) (eV 9)))) (sAsg (.nm 9) (eTup (aCons (eV 14) (aCons (eB gAdd (eV 15) (eC (.int 1))) (aCons (eV 13) aNil))))) sNil)))))) sNil)
    (sExpr (eMt isL gApp (eV 6) (aCons (eTup (aCons (eV 8) (aCons (eV 9) (aCons (eV 10) aNil)))) aNil))))))
    (sRet (eCall gTuple (aCons (eV 6) aNil))))))
noncomputable def turnedL_ : FA := runF 17 turnedL_B
noncomputable def behindL_B : SF := (sSeq (sFor (.nm 6) (iRg1 (aCons (eV 3) aNil)) (sAsg (.nm 1) (eDef turnedL_ 5 (aCons (eV 0) (aCons (eV 1) (aCons (eV 2) (aCons (eV 4) (aCons (eV 5) aNil))))))))
    (sRet (eV 1)))
noncomputable def behindL_ : FA := runF 7 behindL_B
noncomputable def law_B : SF := (sSeq (sAsg (.nm 1) (eDef feedL_ 1 (aCons (eV 0) aNil)))
    (sSeq (sFor (.nm 2) (iRg1 (aCons (eC (.int 6)) aNil)) (sSeq (sAsg (.tp [(.nm 7), (.tp [(.nm 10), (.nm 11)])]) (eTup (aCons (eDef netL_ 2 (aCons (eV 1) (aCons (eC (.int 8)) aNil))) (aCons (eDef two_numbersL_ 1 (aCons (eV 1) aNil)) aNil))))
    (sSeq (sPar [8, 9] (aCons (eDef stateL_ 2 (aCons (eV 1) (aCons (eV 7) aNil))) (aCons (eDef some_wiresL_ 2 (aCons (eV 1) (aCons (eV 7) aNil))) aNil)))
    (sSeq (sAsg (.nm 3) (eCall gRepr (aCons (eTup (aCons (eV 7) (aCons (eV 8) (aCons (eV 9) aNil)))) aNil)))
    (sSeq (sAsg (.nm 4) (eDef turnedL_ 5 (aCons (eV 7) (aCons (eV 8) (aCons (eV 9) (aCons (eV 10) (aCons (eV 11) aNil)))))))
    (sSeq (sIf (eT (eB gNe (eCall gRepr (aCons (eDefK state_round_ 3 2 (fun as bs => as ++ ([] ++ ([] ++ bs))) (aCons (eV 7) (aCons (eV 8) (aCons (eV 9) aNil))) (aCons (eV 10) (aCons (eV 11) aNil))) aNil)) (eCall gRepr (aCons (eV 4) aNil)))) (sRet (eC (.bl false))) sNil)
    (sSeq (sAsg (.nm 5) (eLst (aCons (eDefK state_round_ 2 0 (fun as bs => as ++ ([.non] ++ ([.int 4, .int 1] ++ bs))) (aCons (eV 7) (aCons (eV 8) aNil)) aNil) (aCons (eDefK state_round_ 3 1 (fun as bs => as ++ ([] ++ ([.int 4] ++ bs))) (aCons (eV 7) (aCons (eV 8) (aCons (eC .non) aNil))) (aCons (eV 11) aNil)) aNil))))
    (sSeq (sExpr (eMt isL gApp (eV 5) (aCons (eDefK state_round_ 3 1 (fun as bs => as ++ ([] ++ (bs ++ [.int 1]))) (aCons (eV 7) (aCons (eV 8) (aCons (eTup aNil) aNil))) (aCons (eV 10) aNil)) aNil)))
    (sSeq (sAsg (.nm 4) (eLst (aCons (eDef turnedL_ 5 (aCons (eV 7) (aCons (eV 8) (aCons (eB gIxA (eV 7) (eC (.int 1))) (aCons (eC (.int 4)) (aCons (eC (.int 1)) aNil)))))) (aCons (eDef turnedL_ 5 (aCons (eV 7) (aCons (eV 8) (aCons (eB gIxA (eV 7) (eC (.int 1))) (aCons (eC (.int 4)) (aCons (eV 11) aNil)))))) aNil))))
    (sSeq (sExpr (eMt isL gApp (eV 4) (aCons (eDef turnedL_ 5 (aCons (eV 7) (aCons (eV 8) (aCons (eTup aNil) (aCons (eV 10) (aCons (eC (.int 1)) aNil)))))) aNil)))
    (sSeq (sAsg (.nm 6) (eDef drawL_ 2 (aCons (eV 1) (aCons (eC (.int 7)) aNil))))
    (sSeq (sExpr (eMt isL gApp (eV 5) (aCons (eDefK state_behind_ 4 2 (fun as bs => as ++ ([] ++ ([] ++ bs))) (aCons (eV 7) (aCons (eV 8) (aCons (eV 6) (aCons (eV 9) aNil)))) (aCons (eV 10) (aCons (eV 11) aNil))) aNil)))
    (sSeq (sExpr (eMt isL gApp (eV 4) (aCons (eDef behindL_ 6 (aCons (eV 7) (aCons (eV 8) (aCons (eV 9) (aCons (eV 6) (aCons (eV 10) (aCons (eV 11) aNil))))))) aNil)))
    (sSeq (sExpr (eMt isL gApp (eV 5) (aCons (eDefK state_behind_ 3 0 (fun as bs => as ++ ([.non] ++ ([.int 4, .int 1] ++ bs))) (aCons (eV 7) (aCons (eV 8) (aCons (eC (.int 2)) aNil))) aNil) aNil)))
    (sSeq (sExpr (eMt isL gApp (eV 4) (aCons (eDef behindL_ 6 (aCons (eV 7) (aCons (eV 8) (aCons (eB gIxA (eV 7) (eC (.int 1))) (aCons (eC (.int 2)) (aCons (eC (.int 4)) (aCons (eC (.int 1)) aNil))))))) aNil)))
    (sIf (bOr (eT (eB gNe (eCall gRepr (aCons (eV 5) aNil)) (eCall gRepr (aCons (eV 4) aNil)))) (eT (eB gNe (eCall gRepr (aCons (eTup (aCons (eV 7) (aCons (eV 8) (aCons (eV 9) aNil)))) aNil)) (eV 3)))) (sRet (eC (.bl false))) sNil))))))))))))))))
    (sRet (eC (.bl true)))))
noncomputable def law_ : FA := runF 12 law_B
end K57
namespace Od
open PySem PySem.Spec PyProof.Rows L2 SeqAt
end Od
namespace AL
open PySem PySem.Spec PyProof.Rows L2 G Th Od
end AL
namespace Od
open PySem PySem.Spec PyProof.Rows L2 SeqAt
def rT3 (l m : List Tr) (j : Nat) : Bool := match l[j]?, m[j]? with
  | some x, some y => !lt x y
  | _, _ => false
theorem lexAt_ges : ∀ l m : List Tr, Ob.lexAt (eT l m) (rT3 l m) (decide (l.length ≥ m.length)) 0 (min l.length m.length) = !lts l m
  | [], [] => by rfl
  | [], _ :: _ => by simp [lts, Ob.lexAt_zero]
  | _ :: _, [] => by simp [lts, Ob.lexAt_zero]
  | x :: l, y :: m => by
    have e : min (x :: l).length (y :: m).length = min l.length m.length + 1 := by simp only [List.length_cons]; omega
    rw [e, Ob.lexAt_succ, lexAt_up, show (decide ((x :: l).length ≥ (y :: m).length)) = decide (l.length ≥ m.length) by simp]
    have ih := lexAt_ges l m
    show (if bq x y = true then Ob.lexAt (eT l m) (rT3 l m) _ 0 _ else !lt x y) = _
    rw [ih, lts]
    split <;> rfl
mutual
theorem rc_ge : ∀ (d e : PyData) (A : Around) (s : Shared) (a b : Value) (as bs : List Addr), Reads s.heap a d as → Reads s.heap b e bs → sm d e = true → d.canLay0 = true → e.canLay0 = true → A.units + d.depth + 1 < cLine → Ob.RcOp .GtE A s a b (!lt (toT d) (toT e))
  | .int x, .int y, A, s, _, _, _, _, ra, rb, _, _, _, _ => by
    cases ra
    cases rb
    rw [toT, toT, lt]
    rw [show (!decide (x < y)) = decide (y ≤ x) by rw [Bool.eq_iff_iff]; simp]
    exact Ob.RcOp.ge_int _ _ _ _
  | .str x, .str y, A, s, _, _, _, _, ra, rb, _, _, _, _ => by
    cases ra
    cases rb
    rw [toT, toT, lt]
    exact fun prog w E Q h => P.ge_str h
  | .tuple xs, .tuple ys, A, s, _, _, _, _, ra, rb, h, ha, hb, hu => by
    obtain ⟨a, o, vs, n, as, rfl, ho, hc, hd, r1⟩ := reads_tup ra
    obtain ⟨b, o2, ws, n2, bs, rfl, ho2, hc2, hd2, r2⟩ := reads_tup rb
    simp only [PyData.depth] at hu
    simp only [PyData.canLay0] at ha hb
    simp only [sm] at h
    have I := rc_ges xs ys A.in1 s vs.toList ws.toList as bs r1 r2 h ha hb (by show A.units + 1 + PyData.depthAll xs + 1 < cLine; omega)
    have l1 := ReadsAll.length xs vs.toList as r1
    have l2 := ReadsAll.length ys ws.toList bs r2
    have t := Ob.RcOp.tuples_ge (A := A) (s := s) (l := a) (b := b) (items := vs) (items2 := ws) (e := eT (toTs xs) (toTs ys)) (r := rT3 (toTs xs) (toTs ys)) ⟨o, ho, hc, n, hd⟩ ⟨o2, ho2, hc2, n2, hd2⟩ (by omega) (fun j h1 h2 => ?_) (fun j h1 h2 _ => ?_)
    · rw [toT, toT, lt, ← lexAt_ges, toTs_len, toTs_len, ← l1, ← l2, Array.length_toList, Array.length_toList]
      exact t
    · obtain ⟨x, y, hx, hy, q, _⟩ := I j (by simpa using h1) (by simpa using h2)
      unfold eT
      rw [toTs_get _ _ _ hx, toTs_get _ _ _ hy]
      simpa using q
    · obtain ⟨x, y, hx, hy, _, q⟩ := I j (by simpa using h1) (by simpa using h2)
      unfold rT3
      rw [toTs_get _ _ _ hx, toTs_get _ _ _ hy]
      simpa using q
  | .none, _, _, _, _, _, _, _, _, _, h, _, _, _ => by simp [sm] at h
  | .bool _, _, _, _, _, _, _, _, _, _, h, _, _, _ => by simp [sm] at h
  | .list _, _, _, _, _, _, _, _, _, _, h, _, _, _ => by simp [sm] at h
  | .dict _, _, _, _, _, _, _, _, _, _, h, _, _, _ => by simp [sm] at h
  | .int _, .none, _, _, _, _, _, _, _, _, h, _, _, _ => by simp [sm] at h
  | .int _, .bool _, _, _, _, _, _, _, _, _, h, _, _, _ => by simp [sm] at h
  | .int _, .str _, _, _, _, _, _, _, _, _, h, _, _, _ => by simp [sm] at h
  | .int _, .list _, _, _, _, _, _, _, _, _, h, _, _, _ => by simp [sm] at h
  | .int _, .tuple _, _, _, _, _, _, _, _, _, h, _, _, _ => by simp [sm] at h
  | .int _, .dict _, _, _, _, _, _, _, _, _, h, _, _, _ => by simp [sm] at h
  | .str _, .none, _, _, _, _, _, _, _, _, h, _, _, _ => by simp [sm] at h
  | .str _, .bool _, _, _, _, _, _, _, _, _, h, _, _, _ => by simp [sm] at h
  | .str _, .int _, _, _, _, _, _, _, _, _, h, _, _, _ => by simp [sm] at h
  | .str _, .list _, _, _, _, _, _, _, _, _, h, _, _, _ => by simp [sm] at h
  | .str _, .tuple _, _, _, _, _, _, _, _, _, h, _, _, _ => by simp [sm] at h
  | .str _, .dict _, _, _, _, _, _, _, _, _, h, _, _, _ => by simp [sm] at h
  | .tuple _, .none, _, _, _, _, _, _, _, _, h, _, _, _ => by simp [sm] at h
  | .tuple _, .bool _, _, _, _, _, _, _, _, _, h, _, _, _ => by simp [sm] at h
  | .tuple _, .int _, _, _, _, _, _, _, _, _, h, _, _, _ => by simp [sm] at h
  | .tuple _, .str _, _, _, _, _, _, _, _, _, h, _, _, _ => by simp [sm] at h
  | .tuple _, .list _, _, _, _, _, _, _, _, _, h, _, _, _ => by simp [sm] at h
  | .tuple _, .dict _, _, _, _, _, _, _, _, _, h, _, _, _ => by simp [sm] at h
theorem rc_ges : ∀ (xs ys : List PyData) (A : Around) (s : Shared) (vs ws : List Value) (as bs : List Addr), ReadsAll s.heap vs xs as → ReadsAll s.heap ws ys bs → sms xs ys = true → PyData.canLayAll0 xs = true → PyData.canLayAll0 ys = true → A.units + PyData.depthAll xs + 1 < cLine →
    ∀ j (h1 : j < vs.length) (h2 : j < ws.length), ∃ x y, xs[j]? = some x ∧ ys[j]? = some y ∧ EqAt A s vs[j] ws[j] (bq (toT x) (toT y)) ∧ Ob.RcOp .GtE A s vs[j] ws[j] (!lt (toT x) (toT y))
  | [], _, _, _, _, _, _, _, ra, _, _, _, _, _, j, h1, _ => by cases ra; exact absurd h1 (Nat.not_lt_zero _)
  | _ :: _, [], _, _, _, _, _, _, _, rb, _, _, _, _, j, _, h2 => by cases rb; exact absurd h2 (Nat.not_lt_zero _)
  | x :: xs, y :: ys, A, s, _, _, _, _, ra, rb, h, ha, hb, hu, j, h1, h2 => by
    obtain ⟨v, vs, a1, a2, rfl, r1, r2⟩ := reads_cons ra
    obtain ⟨w, ws, b1, b2, rfl, q1, q2⟩ := reads_cons rb
    simp only [PyData.depthAll] at hu
    simp only [PyData.canLayAll0, Bool.and_eq_true] at ha hb
    simp only [sms, Bool.and_eq_true] at h
    cases j with
    | zero =>
      refine ⟨x, y, rfl, rfl, ?_, ?_⟩
      · have z := eqAt_reads x y A s v w a1 b1 r1 q1 ha.1 hb.1 (by omega)
        rw [bq_eqv h.1] at z
        exact z
      · exact rc_ge x y A s v w a1 b1 r1 q1 h.1 ha.1 hb.1 (by omega)
    | succ j =>
      exact rc_ges xs ys A s vs ws a2 b2 r2 q2 h.2 ha.2 hb.2 (by omega) j (Nat.lt_of_succ_lt_succ h1) (Nat.lt_of_succ_lt_succ h2)
end
end Od
namespace AL
open PySem PySem.Spec PyProof.Rows L2 G Th Od
variable [TT]
section
variable {X : Cx} {K : PySem.W.Frag}
def rGeD (K : PySem.W.Frag) : R2 := fun x y H Q => ∃ d e, Dp K H x d ∧ Dp K H y e ∧ sm d e = true ∧ d.canLay0 = true ∧ e.canLay0 = true ∧ d.depth ≤ 50 ∧ Q (.bl (!lt (toT d) (toT e))) H
omit [TT] in
theorem op_geD (hu : X.A.units + 64 < cLine) : OpR X (compareOp .GtE) (rGeD X.K) := by
  intro pins s σ H x y v u Q I rx ry h
  obtain ⟨d, e, h1, h2, h3, h4, h5, h6, q⟩ := h
  obtain ⟨as, r1⟩ := Dp.reads I _ _ _ h1 rx
  obtain ⟨bs, r2⟩ := Dp.reads I _ _ _ h2 ry
  exact rc_ge d e X.A s v u as bs r1 r2 h3 h4 h5 (by omega) X.prog X.w _ _ ⟨.bl _, H, I, rfl, q⟩
def gGeD : Val → Val → Sto → Option (Val × Sto) := fun x y S => if okV x = true ∧ okV y = true ∧ smV x y = true then some (.bl (!ltV x y), S) else none
theorem oGeD : OpA K (rGeD K) gGeD := by
  intro m S H x y v S' u w Q R ru rw_ e q
  unfold gGeD at e
  split at e
  · next hc =>
    cases e
    have a := okV_all hc.1
    have b := okV_all hc.2.1
    exact ⟨dV x, dV y, dV_dp _ _ ru a.1, dV_dp _ _ rw_ b.1, hc.2.2, a.2.1, b.2.1, a.2.2, q m _ H (.refl _ _) R (.bl _)⟩
  · cases e
end
theorem vGeD {S : Sto} {Q : Val → Sto → Prop} {x y : Val} (h1 : okV x = true) (h2 : okV y = true) (h3 : smV x y = true) (q : Q (.bl (!ltV x y)) S) : Wp (gGeD x y S) Q := ⟨_, _, if_pos ⟨h1, h2, h3⟩, q⟩
end AL
namespace AL
open PySem PySem.Spec PyProof.Rows L2 G Th
variable [TT]
def isX : Val → Option (Str × List Val)
  | .tup (.scr _ :: .str c :: vs) => some (c, vs)
  | _ => none
structure XR (K : PySem.W.Frag) (mg : Str → Option Value) (H : Hp) (m : List Addr) (c : Str) (vs : List Val) (cls : Value) (d : Option Addr) : Prop where
  cl : mg c = some cls
  fl : ∃ (dd : Addr) (fs : List (Str × V)), d = some dd ∧ H dd = some (.xd fs) ∧ ∀ (i : Nat) (n : Str) (v : Val), (xfs c)[i]? = some n → vs[i]? = some v → ∃ u, fs.lookup n = some u ∧ VR K H m u v
def PX (K : PySem.W.Frag) (mg : Str → Option Value) (m : List Addr) (H : Hp) (Q : VK) (Ek : XK) (v : Val) (S : Sto) : Prop := match isX v with
  | some (c, vs) => ∀ m' H' cls d, Ext m H m' H' → Rel K m' S H' → XR K mg H' m' c vs cls d → Ek cls d H'
  | none => ∀ m' u H', Ext m H m' H' → Rel K m' S H' → VR K H' m' u v → Q u H'
def PostX (K : PySem.W.Frag) (mg : Str → Option Value) (m : List Addr) (H : Hp) (D : Ends) (Ek : XK) : Res → Prop
  | .stuck => False
  | .nx ρ S => ∀ m' σ' H', Ext m H m' H' → Rel K m' S H' → RhoR K H' m' ρ σ' → D.nx σ' H'
  | .rt v S => PX K mg m H D.rt Ek v S
  | .bk ρ S => ∀ m' σ' H', Ext m H m' H' → Rel K m' S H' → RhoR K H' m' ρ σ' → D.bk σ' H'
  | .ct ρ S => ∀ m' σ' H', Ext m H m' H' → Rel K m' S H' → RhoR K H' m' ρ σ' → D.ct σ' H'
section
variable {K : PySem.W.Frag} {mg : Str → Option Value} {m m1 : List Addr} {H H1 : Hp} {Q Q' : VK} {Ek : XK} {v : Val} {S : Sto} {D : Ends}
theorem PX.ext (h : PX K mg m H Q Ek v S) (E : Ext m H m1 H1) : PX K mg m1 H1 Q Ek v S := by
  unfold PX at h ⊢
  split
  · next c vs e =>
    rw [e] at h
    exact fun m' H' cls d E' R x => h m' H' cls d (E.trans E') R x
  · next e =>
    rw [e] at h
    exact fun m' u H' E' R x => h m' u H' (E.trans E') R x
theorem PX.no (hx : isX v = none) : PX K mg m H Q Ek v S ↔ ∀ m' u H', Ext m H m' H' → Rel K m' S H' → VR K H' m' u v → Q u H' := by
  unfold PX
  rw [hx]
theorem PX.yes {c : Str} {vs : List Val} (hx : isX v = some (c, vs)) : PX K mg m H Q Ek v S ↔ ∀ m' H' cls d, Ext m H m' H' → Rel K m' S H' → XR K mg H' m' c vs cls d → Ek cls d H' := by
  unfold PX
  rw [hx]
theorem PostX.ext {r : Res} (h : PostX K mg m H D Ek r) (E : Ext m H m1 H1) : PostX K mg m1 H1 D Ek r := by
  cases r with
  | stuck => exact h
  | nx ρ S => exact fun m' σ' H' E' => h m' σ' H' (E.trans E')
  | rt ρ S => exact PX.ext h E
  | bk ρ S => exact fun m' σ' H' E' => h m' σ' H' (E.trans E')
  | ct ρ S => exact fun m' σ' H' E' => h m' σ' H' (E.trans E')
end
structure FnX (P : Program) (w : World) (K : PySem.W.Frag) (mg : Str → Option Value) (base : Heap) (k : Nat) (f : Addr) (fd : FuncData) (ps : List Str) (sp : Sp) : Prop where
  len : ∀ vs H Q E, sp vs H Q E → vs.length = ps.length
  run : ∀ (A : Around) (outer : List Env) (s : Shared) (H : Hp) (args : Args) (us : List Value) (vs : List V) (Q : VK) (E : XK),
    A.guards = some [] → Room k A → Env0 P w K mg base A outer s H → BindsTo s fd args (ps.zip us) → Vals vs us → sp vs H Q E →
      codeAny (model P w) A (.call (.ref f) args) (CR (CX P w) outer P w H s Q E) s
def spX (K : PySem.W.Frag) (mg : Str → Option Value) (n : Nat) (F : FA) : Sp := fun us H Q Ek => us.length = n ∧ ∃ m S vs v S', Rel K m S H ∧ VRs K H m us vs ∧ F vs S = some (v, S') ∧ PX K mg m H Q Ek v S'
structure DefX (P : Program) (w : World) (K : PySem.W.Frag) (mg : Str → Option Value) (base : Heap) (k : Nat) (x : Str) (ps : List Str) (F : FA) : Prop where
  ex : ∃ f fd, FnX P w K mg base k f fd ps (spX K mg ps.length F) ∧ Binds K fd ps [] ∧ mg x = some (.ref f) ∧ PySem.W.keepIn K (.ref f) = true
end AL
namespace AL
open PySem PySem.Spec PyProof.Rows L2 G Th
/-- what is asked of such a class -/
structure OexA (K : PySem.W.Frag) (C : Addr) : Prop where
  cls : ∃ (B newId initId : String) (bmB : List Value) (nm q : Str) (N : Addr) (bs bm : List Value) (sn : List Str) (sub : List Value) (ab : Bool) (col : Option Bool) (dd : Option Addr) (k0 k1 k2 k3 k5 : Option Value),
    K.lookup C = some (excClassObj nm q C N bs bm true sn sub ab col dd k0 k1 k2 k3 k5 newId) ∧ PySem.W.excTail bmB bm = true ∧ ExcBaseFacts B newId initId bmB ∧ StoreFacts B bmB "object.__setattr__" "object"
  saC : PySem.W.findIn K (.ref C) "__setattr__" = some (some (.builtin "object.__setattr__"))
  beC : PySem.W.subIn K (.ref C) (.type "BaseException") = some true
  ttC : PySem.W.typeIn K (.ref C) = some (.type "type")
  keC : PySem.W.keepIn K (.ref C) = true
/-- over LookupError -/
structure OexL (K : PySem.W.Frag) (C : Addr) : Prop where
  cls : ∃ (nm q : Str) (N : Addr) (bs bm : List Value) (sn : List Str) (sub : List Value) (ab : Bool) (col : Option Bool) (dd : Option Addr) (k0 k1 k2 k3 k5 : Option Value),
    K.lookup C = some (excClassObj nm q C N bs bm true sn sub ab col dd k0 k1 k2 k3 k5 "LookupError.__new__") ∧ PySem.W.excTail [.type "LookupError", .type "Exception", .type "BaseException", .type "object"] bm = true
  sa : PySem.W.findIn K (.ref C) "__setattr__" = some (some (.builtin "object.__setattr__"))
  be : PySem.W.subIn K (.ref C) (.type "BaseException") = some true
  tt : PySem.W.typeIn K (.ref C) = some (.type "type")
  ke : PySem.W.keepIn K (.ref C) = true
theorem OexL.a {K : PySem.W.Frag} {C : Addr} (T : OexL K C) : OexA K C := by
  obtain ⟨⟨nm, q, N, bs, bm, sn, sub, ab, col, dd, k0, k1, k2, k3, k5, e, t⟩, h1, h2, h3, h4⟩ := T
  exact ⟨⟨_, _, _, _, nm, q, N, bs, bm, sn, sub, ab, col, dd, k0, k1, k2, k3, k5, e, t, F.excBase_LookupError, F.store_LookupError⟩, h1, h2, h3, h4⟩
theorem tail_VE : ∀ l : List Value, PySem.HandSPX.refsVE l = true → PySem.W.excTail PySem.HandSPX.veTail l = true
  | [], z => by cases z
  | a :: r, z => by
    rcases PySem.HandSPX.refsVE_cases _ z with ⟨c, r2, e, z2⟩ | e
    · cases e
      exact tail_VE r z2
    · rw [e]
      decide +kernel
theorem oexA_VE {K : PySem.W.Frag} {C : Addr} (T : OexC K C) : OexA K C := by
  obtain ⟨⟨nm, q, N, bs, bm, sn, sub, ab, col, dd, k0, k1, k2, k3, k5, e, t⟩, h1, h2, h3, h4⟩ := T
  exact ⟨⟨_, _, _, _, nm, q, N, bs, bm, sn, sub, ab, col, dd, k0, k1, k2, k3, k5, e, tail_VE _ t, F.excBase_ValueError, F.store_ValueError⟩, h1, h2, h3, h4⟩
instance {K : PySem.W.Frag} {C : Addr} : Coe (OexC K C) (OexA K C) := ⟨oexA_VE⟩
instance {K : PySem.W.Frag} {C : Addr} : Coe (OexL K C) (OexA K C) := ⟨OexL.a⟩
end AL
namespace AL
open PySem PySem.Spec PyProof.Rows L2 G Th
variable [TT]
/-- a raising def, asked where it raises nothing: as any other -/
def noX (F : FA) : FA := fun vs S => (F vs S).bind fun p => match isX p.1 with
  | none => some p
  | some _ => none
theorem fnx_g {P : Program} {w : World} {K : PySem.W.Frag} {mg : Str → Option Value} {base : Heap} {k : Nat} {f : Addr} {fd : FuncData} {ps : List Str} {F : FA} (G : FnX P w K mg base k f fd ps (spX K mg ps.length F)) :
    FnG P w K mg base k f fd ps (spA K ps.length (noX F)) := by
  refine ⟨fun vs H Q E h => h.1, fun A outer s H args us vs Q E hg hr e0 hb r h => ?_⟩
  obtain ⟨hl, m, S, ws, v, S', R, rv, e, q⟩ := h
  obtain ⟨⟨v1, S1⟩, e1, e⟩ := Option.bind_eq_some_iff.mp e
  dsimp only at e
  split at e
  · next hx =>
    cases e
    refine codeAny_mono (G.run A outer s H args us vs Q (fun _ _ _ => False) hg hr e0 hb r ⟨hl, m, S, ws, v, S', R, rv, e1, (PX.no hx).mpr q⟩) ?_
    intro res s' c
    match res, c with
    | .error _, c =>
      obtain ⟨_, _, _, _, _, _, _, _, _, _, _, _, z⟩ := c
      exact z.elim
    | .ok (.ret _), c => exact c
    | .ok .next, c => exact c
    | .ok .brk, c => exact c
    | .ok .cont, c => exact c
  · cases e
theorem DefX.no {P : Program} {w : World} {K : PySem.W.Frag} {mg : Str → Option Value} {base : Heap} {k : Nat} {x : Str} {ps : List Str} {F : FA} (D : DefX P w K mg base k x ps F) : Def P w K mg base k x ps (noX F) := by
  obtain ⟨f, fd, h1, h2, h3, h4⟩ := D.ex
  exact ⟨f, fd, fnx_g h1, h2, h3, h4⟩
def Xs (v : Val) (A B : Prop) : Prop := (isX v = none ∧ A) ∨ (∃ c vs, isX v = some (c, vs) ∧ B)
theorem Xs.no {v : Val} {A B : Prop} (h : isX v = none) (a : A) : Xs v A B := .inl ⟨h, a⟩
theorem Xs.yes {v : Val} {A B : Prop} {c : Str} {vs : List Val} (h : isX v = some (c, vs)) (b : B) : Xs v A B := .inr ⟨c, vs, h, b⟩
end AL
namespace AL
open PySem PySem.Spec PyProof.Rows L2 G Th
variable [TT]
section
variable {X : Cx} {K : PySem.W.Frag}
noncomputable def gSlA : Val → Option Int → Option Int → Sto → Option (Val × Sto) := fun x lo hi S => match x with
  | .tup vs => some (.tup (cutL vs lo hi), S)
  | _ => gSl x lo hi S
def rSlB (K : PySem.W.Frag) : V → Option Int → Option Int → Hp → VK → Prop := fun x lo hi H Q => L2.rSlA K x lo hi H Q ∨ AL.rSlA K x lo hi H Q
theorem sl_B : SlR X (rSlB X.K) := sl_tupA.or sl_A
theorem cut_whole {α : Type} {vs : List α} {lo hi : Option Int} (h : HT.sIx vs.length 0 lo = 0 ∧ HT.sIx vs.length vs.length hi = vs.length) : cutL vs lo hi = vs := by
  unfold cutL
  rw [h.1, h.2, List.drop_zero, Nat.sub_zero, List.take_of_length_le (Nat.le_refl _)]
theorem oSlA : SlA K (rSlB K) gSlA := by
  intro m S H x lo hi v S' u Q R ru e q
  cases x with
  | tup vs =>
    simp only [gSlA] at e
    cases e
    cases ru with
    | tup ha ra =>
      refine .inl ⟨_, _, rfl, ha.sq, fun hw => ?_, fun hw => newTup R (ra.cut lo hi) q⟩
      rw [ra.len] at hw
      rw [cut_whole hw] at q
      exact q m _ H (.refl _ _) R (.tup ha ra)
  | _ => exact .inr (oSl m S H _ lo hi v S' u Q R ru e q)
theorem vSlA {S : Sto} {Q : Val → Sto → Prop} {x : Val} {vs : List Val} {lo hi : Option Int} (hx : x = .tup vs) (q : Q (.tup (cutL vs lo hi)) S) : Wp (gSlA x lo hi S) Q := by
  subst hx
  exact ⟨_, _, rfl, q⟩
end
theorem ws_cut' {r : Res} {N N' : Rho → Sto → Prop} {R R' : Val → Sto → Prop} (h : Ws r N' R') (i : ∀ ρ S, N' ρ S → N ρ S) (j : ∀ v S, R' v S → R v S) : Ws r N R := by
  obtain ⟨h⟩ := h
  constructor
  cases r with
  | nx ρ S => exact i ρ S h
  | rt v S => exact j v S h
  | stuck => exact h
  | bk ρ S => exact h
  | ct ρ S => exact h
end AL
namespace AL
open PySem PySem.Spec PyProof.Rows L2 G
variable [TT]
theorem def_none {P : Program} {w : World} {K : PySem.W.Frag} {mg : Str → Option Value} {base : Heap} {x qual : Str} {st : Stmt} {f : Addr} {fd : FuncData} {ps : List Str} {k : Nat}
    (F : Fun K x qual st f fd) (hb : Binds K fd ps []) (hm : mg x = some (.ref f)) : Def P w K mg base k x ps (fun _ _ => none) :=
  ⟨f, fd, ⟨fun _ _ _ _ h => h.1, fun _ _ _ _ _ _ _ _ _ _ _ _ _ _ h => by
    obtain ⟨_, _, _, _, _, _, _, _, e, _⟩ := h
    cases e⟩, hb, hm, F.kp⟩
end AL
namespace AL
open PySem PySem.Spec PyProof.Rows L2 G Th
end AL
namespace AL
open PySem PySem.Spec PyProof.Rows L2 G Th
variable [TT]
section
variable {pg : Program} {wd : World} {ar : Around} {X0 : Value → Shared → Prop} {t0 : Shared}
/-- the places of [::-1] -/
theorem adj_rev (n : Nat) : Builtin.Slice.sliceAdjust none none (-1) (n : Int) = ((n : Int) - 1, -1) := rfl
theorem pla_rev (n : Nat) : Builtin.Slice.slicePlaces ((n : Int) - 1) (-1) (-1) = n := by
  have neg : ¬ (-1 : Int) > 0 := by decide
  have one : (- -1 : Int) = 1 := by decide
  simp only [Builtin.Slice.slicePlaces, neg, if_false, one, Int.ediv_one]
  split <;> omega
theorem fm_congr {f g : Nat → Option Value} : ∀ (l : List Nat), (∀ x ∈ l, f x = g x) → l.filterMap f = l.filterMap g
  | [], _ => rfl
  | a :: l, h => by rw [List.filterMap_cons, List.filterMap_cons, h a (by simp), fm_congr l fun x hx => h x (List.mem_cons_of_mem _ hx)]
theorem pick_rev (xs : Array Value) : ((List.range xs.size).filterMap fun (m : Nat) => xs[(((xs.size : Int) - 1) + (m : Int) * (-1)).toNat]?).toArray = xs.toList.reverse.toArray := by
  have e : (List.range xs.size).filterMap (fun (m : Nat) => xs[(((xs.size : Int) - 1) + (m : Int) * (-1)).toNat]?) = ((List.range xs.size).map fun k => xs.size - 1 - k).filterMap (xs[·]?) := by
    rw [List.filterMap_map]
    refine fm_congr _ fun m hm => ?_
    have := List.mem_range.mp hm
    show _ = xs[xs.size - 1 - m]?
    congr 1
    omega
  rw [e, PySem.W.krv_range, List.filterMap_reverse, PySem.W.krv_all]
/-- what a slice [::-1] of n things tells: start, step, number -/
theorem app_rev {sl : Addr} {v1 v2 v3 : Value} {n : Nat} {Q : Int × Int × Nat → Shared → Prop} (hs : t0.heap.IsSliceOf sl v1 v2 v3) (q1 : IsPart v1 none) (q2 : IsPart v2 none) (q3 : IsPart v3 (some (-1))) (h : Q ((n : Int) - 1, -1, n) t0) :
    wpAny (model pg wd) ar (Builtin.Slice.sliceApplied (.ref sl) (pure (n : Int))) Q X0 t0 := by
  obtain ⟨so, g1, _, g3⟩ := id hs
  simp only [Builtin.Slice.sliceApplied, Builtin.Slice.sliceFields]
  have fin : wpAny (model pg wd) ar (pure ((n : Int) - 1, (-1 : Int), Builtin.Slice.slicePlaces ((n : Int) - 1) (-1) (-1)) : Sem (Int × Int × Nat)) Q X0 t0 := by rw [pla_rev]; exact wpAny_pure h
  have mid : wpAny (model pg wd) ar (match Builtin.Slice.sliceAdjust none none (-1) (n : Int) with | (a, b) => (pure (a, (-1 : Int), Builtin.Slice.slicePlaces a b (-1)) : Sem (Int × Int × Nat))) Q X0 t0 := by rw [adj_rev n]; exact fin
  refine wpAny_bind (wpAny_bind (wpAny_field g1 g3 (x := v1) rfl (wpAny_bind (wpAny_field g1 g3 (x := v2) rfl (wpAny_bind (wpAny_field g1 g3 (x := v3) rfl (wpAny_pure (wpAny_bind (HT.slicePart_ q3 ?_)))))))))
  show wpAny _ _ (if ((-1 : Int) == 0) = true then _ else _) _ _ t0
  rw [if_neg (by decide)]
  exact wpAny_bind (HT.slicePart_ q1 (wpAny_bind (HT.slicePart_ q2 (wpAny_bind (wpAny_pure mid)))))
/-- a tuple, the other way about -/
theorem tup_rev {tt sl : Addr} {its : Array Value} {v1 v2 v3 : Value} {Q : Value → Shared → Prop} (ht : IsTup t0.heap tt its) (hs : t0.heap.IsSliceOf sl v1 v2 v3) (q1 : IsPart v1 none) (q2 : IsPart v2 none) (q3 : IsPart v3 (some (-1)))
    (h : Q (.ref t0.heap.objs.size) { t0 with heap := t0.heap.push { cls := .type "tuple", data := .seq its.toList.reverse.toArray } }) (room : its.size ≤ sizeLine) : wpAny (model pg wd) ar (getItem (.ref tt) (.ref sl)) Q X0 t0 := by
  have fits : sizeOk (.seq its.toList.reverse.toArray) := show its.toList.reverse.toArray.size ≤ sizeLine by rw [List.size_toArray, List.length_reverse, Array.length_toList]; exact room
  obtain ⟨so, g1, g2, _⟩ := id hs
  have ty : t0.TypeIs (.ref sl) "slice" := ⟨so, g1, g2⟩
  have ends : ¬ ((((its.size : Int) - 1) == 0 && (-1 : Int) == 1 && its.size == its.size) = true) := fun q => absurd ((Bool.and_eq_true_iff.mp ((Bool.and_eq_true_iff.mp q).1)).2) (by decide)
  unfold getItem; (try with_reducible refine wpAny_holding ?_); (first | refine wpAny_bind (wpAny_pure ?_) | skip)
  refine wpAny_bind (wpAny_sequenceKey ht.typeIs (by decide) (wpAny_bind (wpAny_callSpecial?_slot (name := Str.ofString "__getitem__") ht.typeIs PyProof.Rows.slot_tuple_getitem (wpAny_call_entry PyProof.Rows.slot_tuple_getitem ht.typeIs PyProof.Rows.entry_tuple_getitem ?_ (PyProof.Rows.args_tuple_getitem _ _)))))
  show wpAny _ _ (Builtin.Tuple.tupleItemsOf (.ref tt) >>= _) _ _ t0
  refine wpAny_bind (PyProof.Rows.tupleItemsOf_ ht (wpAny_bind (wpAny_typeOf ty ?_)))
  rw [if_pos (by decide)]
  refine wpAny_bind (app_rev hs q1 q2 q3 ?_)
  show wpAny _ _ (if (((its.size : Int) - 1) == 0 && (-1 : Int) == 1 && its.size == its.size) = true then _ else _) _ _ t0
  rw [if_neg ends, pick_rev]
  first | exact wpAny_bind (m := Builtin.Tuple.tupleExact _) (wpAny_newObj_type (wpAny_pure ⟨_, rfl, wpAny_pure h⟩) fits) | exact wpAny_bind (m := Builtin.Tuple.tupleExact _) (wpAny_newObj_type (wpAny_bind (wpAny_pure (wpAny_pure ⟨_, rfl, wpAny_pure h⟩))) fits) | exact wpAny_bind (wpAny_bind (m := Builtin.Tuple.tupleExact _) (wpAny_newObj_type (wpAny_pure (wpAny_pure ⟨_, rfl, wpAny_pure h⟩)) fits)) | exact wpAny_bind (wpAny_bind (m := Builtin.Tuple.tupleExact _) (wpAny_newObj_type (wpAny_pure ⟨_, rfl, wpAny_pure h⟩) fits))
end
section
variable {X : Cx} {K : PySem.W.Frag} {pos : Pos} {e : Expr} {f : EF}
def tRevT (K : PySem.W.Frag) (te : TE) : TE := fun σ H Q => te σ H fun x H1 => ∃ a xs, x = .ref a ∧ SqT K H1 a xs ∧ ∀ p, H1 p = none → Q (.ref p) (upd H1 p (.tup xs.reverse))
theorem pe_revT {te : TE} {k : Nat} {p1 p2 p3 : Pos} (he : PE X e te) : PE X (.Subscript e (.Slice none none (some (.UnaryOp .USub (.Constant (.int 1) k p1) p2)) p3) pos) (tRevT X.K te) := by
  constructor
  intro ps st si hp Q inv h
  refine Subscript_ (thn (he.run ps st si hp _ inv h) ?_)
  rintro v s1 ⟨x, H1, i1, r1, a, xs, rfl, hx, q⟩
  cases r1
  have minus : PO X (some (.UnaryOp .USub (.Constant (.int 1) k p1) p2)) _ := po_some (pe_un un_neg pe_int)
  refine wpAny_Slice (thn (po_none.run ps s1 si H1 (fun o K' => o = none ∧ K' = H1) i1 ⟨rfl, rfl⟩) ?_)
  rintro v1 s2 ⟨_, _, i2, c1, rfl, rfl⟩
  refine thn (po_none.run ps s2 si _ (fun o K' => o = none ∧ K' = _) i2 ⟨rfl, rfl⟩) ?_
  rintro v2 s3 ⟨_, _, i3, c2, rfl, rfl⟩
  refine thn (minus.run ps s3 si _ (fun o K' => o = some (-1) ∧ K' = _) i3 ⟨1, rfl, -1, rfl, rfl, rfl⟩) ?_
  rintro v3 s4 ⟨_, _, i4, c3, rfl, rfl⟩
  have i5 := i4.kept (h' := s4.heap.push { cls := .type "slice", data := .fields #[v1, v2, v3] }) (t' := s4.toks) fun b ob z => Heap.get?_push_of_some _ z
  obtain ⟨its, rv, tp, room⟩ := i5.tuple hx
  have ln := rv.length
  refine tail_any (ops := [.ref a, .ref s4.heap.objs.size]) tp.typeIs PyProof.Rows.slot_tuple_getitem.lookup (tup_rev tp (Heap.IsSliceOf.new _ v1 v2 v3) c1 c2 c3 ?_ (by rw [List.size_toArray]; omega)) (by with_unfolding_all rfl)
  have lay := i5.laid (h' := (s4.heap.push { cls := .type "slice", data := .fields #[v1, v2, v3] }).push { cls := .type "tuple", data := .seq its.reverse.toArray }) (t' := s4.toks) (o := .tup xs.reverse) (fun b ob z => Heap.get?_push_of_some _ z) (Nat.le_refl _) ⟨by rw [List.length_reverse]; exact room, _, rv.reverse, IsTup.new _ _⟩
  exact ⟨.ref _, _, lay, rfl, q _ (i5.hok.fresh (Nat.le_refl _))⟩
def gRevT : Val → Sto → Option (Val × Sto) := fun x S => match x with
  | .tup vs => some (.tup vs.reverse, S)
  | _ => none
theorem arevT {k : Nat} {p1 p2 p3 : Pos} (he : AE X e f) : AE X (.Subscript e (.Slice none none (some (.UnaryOp .USub (.Constant (.int 1) k p1) p2)) p3) pos) (eU gRevT f) := by
  refine pe_w (pe_revT he) fun σ H Q h => ?_
  obtain ⟨m, ρ, S, v, S', R, r, e, q⟩ := h
  obtain ⟨⟨x1, S1⟩, e1, e⟩ := Option.bind_eq_some_iff.mp e
  cases x1 with
  | tup vs =>
    cases e
    refine ⟨m, ρ, S, .tup vs, S1, R, r, e1, fun m1 u H1 E1 R1 r1 => ?_⟩
    cases r1 with
    | tup ha ra => exact ⟨_, _, rfl, ha.sq, newTup R1 ra.rev fun m2 z H2 E2 R2 r2 => q m2 z H2 (E1.trans E2) R2 r2⟩
  | non => cases e
  | bl _ => cases e
  | int _ => cases e
  | str _ => cases e
  | ref _ => cases e
  | scr _ => cases e
  | lam _ _ _ _ _ => cases e
  | exc _ _ _ _ => cases e
theorem vRevT {S : Sto} {Q : Val → Sto → Prop} {x : Val} {vs : List Val} (hx : x = .tup vs) (q : Q (.tup vs.reverse) S) : Wp (gRevT x S) Q := by
  subst hx
  exact ⟨_, _, rfl, q⟩
/-- + of any tuples -/
def gAddT : Val → Val → Sto → Option (Val × Sto) := fun x y S => match x, y with
  | .tup a, .tup b => if a.length + b.length ≤ sizeLine then some (.tup (a ++ b), S) else none
  | x, y => gAdd x y S
def rAddT (K : PySem.W.Frag) : R2 := fun x y H Q => rCatA K x y H Q ∨ rAddA K x y H Q
theorem op_addT : OpR X (binaryOp .Add) (rAddT X.K) := op_catA.or op_addA
theorem oAddT : OpA K (rAddT K) gAddT := by
  intro m S H x y v S' u w Q R ru rw_ e q
  unfold gAddT at e
  split at e
  · next a b =>
    split at e
    · next h =>
      cases e
      cases ru with
      | tup ha ra =>
        rename_i ad xs
        cases rw_ with
        | tup hb rb =>
          rename_i bd ys
          have l1 := ra.len
          have l2 := rb.len
          refine .inl ⟨ad, bd, xs, ys, rfl, rfl, ha.sq, hb.sq, by omega, fun z => ?_, fun z1 z => ?_, fun z1 z2 p hp => ?_⟩
          · subst z
            have : a = [] := by
              cases a with
              | nil => rfl
              | cons _ _ => simp at l1
            subst this
            exact q m _ H (.refl _ _) R (.tup hb rb)
          · subst z
            have : b = [] := by
              cases b with
              | nil => rfl
              | cons _ _ => simp at l2
            subst this
            rw [List.append_nil] at q
            exact q m _ H (.refl _ _) R (.tup ha ra)
          · obtain ⟨R2, E2⟩ := R.tmp (o := .tup (xs ++ ys)) hp
            exact q m _ _ E2 R2 (.tup (.inl upd_same) ((ra.app rb).kp (E2.kp R)))
    · cases e
  · exact .inr (oAdd m S H _ _ v S' u w Q R ru rw_ e q)
theorem vAddT {S : Sto} {Q : Val → Sto → Prop} {x y : Val} {a b : List Val} (hx : x = .tup a) (hy : y = .tup b) (hl : a.length + b.length ≤ 1000000) (q : Q (.tup (a ++ b)) S) : Wp (gAddT x y S) Q := by
  subst hx hy
  exact ⟨_, _, if_pos (mill hl), q⟩
end
end AL
namespace AL
open PySem PySem.Spec PyProof.Rows L2 G Th
end AL
namespace AL
open PySem PySem.Spec PyProof.Rows L2 G Th
end AL
namespace AL
open PySem PySem.Spec PyProof.Rows L2 G Th
end AL
namespace AL
open PySem PySem.Spec PyProof.Rows L2 G Th
def chV (x : Str) : List Val := x.cps.toList.map fun c => .str ⟨#[c]⟩
def iChr (f : EF) : IF := fun ρ S => (f ρ S).bind fun p => match p.1 with
  | .str x => some (chV x, fun _ => True, p.2)
  | _ => none
section
variable [TT] {X : Cx} {K : PySem.W.Frag}
theorem it_chr {x : Str} {m0 : List Addr} {H0 : Hp} : ItA K (Its x) m0 H0 (chV x) (fun _ => True) := by
  refine ⟨fun i m S H E R _ v hv => ?_, fun m S H E R _ => ?_⟩
  · unfold chV at hv
    rw [List.getElem?_map] at hv
    obtain ⟨c, hc, rfl⟩ := Option.map_eq_some_iff.mp hv
    rw [Array.getElem?_toList] at hc
    refine ⟨(Array.getElem?_eq_some_iff.mp hc).1, fun y H' hy => ?_⟩
    obtain ⟨rfl, c', hc', rfl⟩ := hy
    rw [hc] at hc'
    cases hc'
    exact ⟨R, .refl _ _, .str _⟩
  · show x.cps.size ≤ (chV x).length
    simp [chV]
theorem aichr {tg e : Expr} {f : EF} (he : AE X e f) : AI X tg e (iChr f) := pi_w (pi_str he) fun σ H W h => by
  obtain ⟨m, ρ, S, vs, ok, S', R, r, e, q⟩ := h
  obtain ⟨⟨x, S1⟩, e1, e⟩ := Option.bind_eq_some_iff.mp e
  dsimp only at e
  split at e
  · cases e
    refine ⟨m, ρ, S, _, _, R, r, e1, fun m1 u H1 E1 R1 r1 => ?_⟩
    cases r1
    exact ⟨_, rfl, q m1 H1 _ E1 R1 it_chr⟩
  · cases e
def inTx (i j : Str) : Bool := !(Builtin.Str.occurrences j i 0 j.length 1).isEmpty
def gInT (neg : Bool) : Val → Val → Sto → Option (Val × Sto) := fun x y S => match x, y with
  | .str i, .str j => some (.bl (if neg then !inTx i j else inTx i j), S)
  | _, _ => none
def rInT (neg : Bool) : R2 := fun x y H Q => ∃ i j, x = .str i ∧ y = .str j ∧ Q (.bl (if neg then !inTx i j else inTx i j)) H
theorem oInT {neg : Bool} : OpA K (rInT neg) (gInT neg) := by
  intro m S H x y v S' u w Q R ru rw_ e q
  unfold gInT at e
  split at e
  · cases e
    cases ru
    cases rw_
    exact ⟨_, _, rfl, rfl, q m _ H (.refl _ _) R (.bl _)⟩
  · cases e
theorem opInT : OpR X (compareOp .In) (rInT false) := op_in_str
theorem opNInT : OpR X (compareOp .NotIn) (rInT true) := op_notin_str
end
section
variable {ρ : Rho} {S : Sto}
theorem wiC {X : List Val → (Sto → Prop) → Sto → Prop} {f : EF} (h : Wp (f ρ S) fun v S1 => ∃ x, v = .str x ∧ X (chV x) (fun _ => True) S1) : Wi (iChr f ρ S) X := by
  obtain ⟨v, S1, e, x, rfl, h⟩ := h
  exact ⟨_, _, _, by unfold iChr; rw [e]; rfl, h⟩
variable {x y : Val} {i j : Str} {Q : Val → Sto → Prop}
theorem vInT {neg : Bool} (hx : x = .str i) (hy : y = .str j) (q : Q (.bl (if neg then !inTx i j else inTx i j)) S) : Wp (gInT neg x y S) Q := by
  subst hx hy
  exact ⟨_, _, rfl, q⟩
end
end AL
namespace K55
open PySem PySem.Spec PyProof.Rows L2 G Th AL
open K57 (other_ends_ other_ends_B feedL_ feedL_B drawL_ drawL_B netL_ netL_B keyL_ keyL_B any_keyL_ any_keyL_B endsL_ endsL_B stateL_ stateL_B)
noncomputable def is_number_B : SF := (sRet (eAnd (eU (gIsi "int") (eV 0)) (eNot (eU (gIsi "bool") (eV 0)))))
noncomputable def is_number_ : FA := runF 1 is_number_B
noncomputable def is_word_B : SF := (sSeq (sIf (bOr (bNot (eT (eU (gIsi "str") (eV 0)))) (bNot (eT (eCh gLe gLe (eC (.int 1)) (eCall gLen (aCons (eV 0) aNil)) (eC (.int 8)))))) (sRet (eC (.bl false))) sNil)
    (sRet (eCall gAll (aCons (eLc (.nm 1) (iChr (eV 0)) bYes (eB (gInT false) (eV 1) (eC (.str "abcdefghijklmnopqrstuvwxyz"))) [1]) aNil))))
noncomputable def is_word_ : FA := runF 2 is_word_B
noncomputable def is_count_B : SF := (sRet (eAnd (eDef is_number_ 1 (aCons (eV 0) aNil)) (eB gGe (eV 0) (eC (.int 0)))))
noncomputable def is_count_ : FA := runF 1 is_count_B
noncomputable def rises_B : SF := (sRet (eCall gAll (aCons (eLc (.tp [(.nm 1), (.nm 2)]) (iZp (aCons (eV 0) (aCons (eSl gSlA (eV 0) (oS (eC (.int 1))) oN) aNil))) bYes (eB gLtD (eV 1) (eV 2)) [1, 2]) aNil)))
noncomputable def rises_ : FA := runF 3 rises_B
noncomputable def is_member_B : SF := (sSeq (sIf (bOr (bNot (eT (eU (gIsi "tuple") (eV 0)))) (eT (eB gNe (eCall gLen (aCons (eV 0) aNil)) (eC (.int 3))))) (sRet (eC (.bl false))) sNil)
    (sRet (eAnd (eDef is_word_ 1 (aCons (eB gIxA (eV 0) (eC (.int 0))) aNil)) (eAnd (eDef is_count_ 1 (aCons (eB gIxA (eV 0) (eC (.int 1))) aNil)) (eDef is_count_ 1 (aCons (eB gIxA (eV 0) (eC (.int 2))) aNil))))))
noncomputable def is_member_ : FA := runF 1 is_member_B
noncomputable def are_members_B : SF := (sSeq (sIf (bOr (bNot (eT (eU (gIsi "tuple") (eV 0)))) (bNot (eT (eCall gAll (aCons (eLc (.nm 1) (iSeq (eV 0)) bYes (eDef is_member_ 1 (aCons (eV 1) aNil)) [1]) aNil))))) (sRet (eC (.bl false))) sNil)
    (sRet (eDef rises_ 1 (aCons (eLc (.nm 1) (iSeq (eV 0)) bYes (eB gIxA (eV 1) (eC (.int 0))) [1]) aNil))))
noncomputable def are_members_ : FA := runF 2 are_members_B
noncomputable def is_wire_B : SF := (sSeq (sIf (bOr (bNot (eT (eU (gIsi "tuple") (eV 0)))) (eT (eB gNe (eCall gLen (aCons (eV 0) aNil)) (eC (.int 2))))) (sRet (eC (.bl false))) sNil)
    (sSeq (sAsg (.tp [(.nm 2), (.nm 3)]) (eV 0))
    (sRet (eAnd (eB (gInD false) (eV 2) (eV 1)) (eAnd (eB (gInD false) (eV 3) (eV 1)) (eB gLtD (eV 2) (eV 3)))))))
noncomputable def is_wire_ : FA := runF 4 is_wire_B
noncomputable def are_wires_B : SF := (sSeq (sIf (bOr (bNot (eT (eU (gIsi "tuple") (eV 0)))) (bNot (eT (eCall gAll (aCons (eLc (.nm 2) (iSeq (eV 0)) bYes (eDef is_wire_ 2 (aCons (eV 2) (aCons (eV 1) aNil))) [2]) aNil))))) (sRet (eC (.bl false))) sNil)
    (sRet (eDef rises_ 1 (aCons (eV 0) aNil))))
noncomputable def are_wires_ : FA := runF 3 are_wires_B
noncomputable def is_net_B : SF := (sSeq (sIf (bOr (bNot (eT (eU (gIsi "tuple") (eV 0)))) (eT (eB gNe (eCall gLen (aCons (eV 0) aNil)) (eC (.int 2))))) (sRet (eC (.bl false))) sNil)
    (sSeq (sAsg (.tp [(.nm 1), (.nm 2)]) (eV 0))
    (sRet (eAnd (eDef are_members_ 1 (aCons (eV 1) aNil)) (eDef are_wires_ 2 (aCons (eV 2) (aCons (eLc (.nm 3) (iSeq (eV 1)) bYes (eB gIxA (eV 3) (eC (.int 0))) [3]) aNil)))))))
noncomputable def is_net_ : FA := runF 4 is_net_B
noncomputable def is_key_B : SF := (sSeq (sIf (bOr (bNot (eT (eU (gIsi "tuple") (eV 0)))) (eT (eB gNe (eCall gLen (aCons (eV 0) aNil)) (eC (.int 3))))) (sRet (eC (.bl false))) sNil)
    (sRet (eAnd (eDef is_count_ 1 (aCons (eB gIxA (eV 0) (eC (.int 0))) aNil)) (eAnd (eDef is_count_ 1 (aCons (eB gIxA (eV 0) (eC (.int 1))) aNil)) (eDef is_word_ 1 (aCons (eB gIxA (eV 0) (eC (.int 2))) aNil))))))
noncomputable def is_key_ : FA := runF 1 is_key_B
noncomputable def is_saying_B : SF := (sSeq (sIf (bOr (bNot (eT (eU (gIsi "tuple") (eV 1)))) (eT (eB gNe (eCall gLen (aCons (eV 1) aNil)) (eC (.int 3))))) (sRet (eC (.bl false))) sNil)
    (sSeq (sAsg (.tp [(.nm 2), (.nm 3), (.nm 4)]) (eV 1))
    (sRet (eAnd (eDef is_key_ 1 (aCons (eV 2) aNil)) (eAnd (eDef is_count_ 1 (aCons (eV 3) aNil)) (eB (gInD false) (eV 4) (eLc (.nm 5) (iSeq (eB gIxA (eV 0) (eC (.int 0)))) bYes (eB gIxA (eV 5) (eC (.int 0))) [5])))))))
noncomputable def is_saying_ : FA := runF 6 is_saying_B
noncomputable def is_heard_row_B : SF := (sSeq (sIf (bOr (bNot (eT (eU (gIsi "tuple") (eV 1)))) (eT (eB gNe (eCall gLen (aCons (eV 1) aNil)) (eC (.int 4))))) (sRet (eC (.bl false))) sNil)
    (sSeq (sAsg (.tp [(.nm 2), (.nm 3), (.nm 4), (.nm 5)]) (eV 1))
    (sRet (eAnd (eB (gInD false) (eV 2) (eV 0)) (eAnd (eDef is_key_ 1 (aCons (eV 3) aNil)) (eAnd (eDef is_count_ 1 (aCons (eV 4) aNil)) (eDef is_count_ 1 (aCons (eV 5) aNil))))))))
noncomputable def is_heard_row_ : FA := runF 6 is_heard_row_B
noncomputable def is_heard_B : SF := (sSeq (sIf (bOr (bNot (eT (eU (gIsi "tuple") (eV 1)))) (bNot (eT (eCall gAll (aCons (eLc (.nm 2) (iSeq (eV 1)) bYes (eDef is_heard_row_ 2 (aCons (eV 0) (aCons (eV 2) aNil))) [2]) aNil))))) (sRet (eC (.bl false))) sNil)
    (sRet (eDef rises_ 1 (aCons (eLc (.nm 2) (iSeq (eV 1)) bYes (eB gIxA (eV 2) (eC (.int 0))) [2]) aNil))))
noncomputable def is_heard_ : FA := runF 3 is_heard_B
noncomputable def is_state_row_B : SF := (sSeq (sIf (bOr (bNot (eT (eU (gIsi "tuple") (eV 2)))) (bOr (eT (eB gNe (eCall gLen (aCons (eV 2) aNil)) (eC (.int 3)))) (eT (eB gNe (eB gIxA (eV 2) (eC (.int 0))) (eV 1))))) (sRet (eC (.bl false))) sNil)
    (sSeq (sAsg (.tp [(.nm 3), (.nm 4)]) (eSl gSlA (eV 2) (oS (eC (.int 1))) oN))
    (sSeq (sIf (eT (eB gIs (eV 3) (eC .non))) (sRet (eAnd (eU (gIsi "tuple") (eV 4)) (eB gEq (eCall gLen (aCons (eV 4) aNil)) (eC (.int 0))))) sNil)
    (sRet (eAnd (eDef is_saying_ 2 (aCons (eV 0) (aCons (eV 3) aNil))) (eDef is_heard_ 2 (aCons (eDef other_ends_ 2 (aCons (eB gIxA (eV 0) (eC (.int 1))) (aCons (eV 1) aNil))) (aCons (eV 4) aNil))))))))
noncomputable def is_state_row_ : FA := runF 5 is_state_row_B
noncomputable def is_state_B : SF := (sSeq (sAsg (.tp [(.nm 2), (.nm 3)]) (eV 0))
    (sSeq (sIf (bOr (bNot (eT (eU (gIsi "tuple") (eV 1)))) (eT (eB gNe (eCall gLen (aCons (eV 1) aNil)) (eCall gLen (aCons (eV 2) aNil))))) (sRet (eC (.bl false))) sNil)
    (sRet (eCall gAll (aCons (eLc (.tp [(.nm 4), (.nm 5)]) (iZp (aCons (eV 2) (aCons (eV 1) aNil))) bYes (eDef is_state_row_ 3 (aCons (eV 0) (aCons (eB gIxA (eV 4) (eC (.int 0))) (aCons (eV 5) aNil)))) [4, 5]) aNil)))))
noncomputable def is_state_ : FA := runF 6 is_state_B
noncomputable def bentL_B (rc : FA) : SF := (sSeq (sIf (bAnd (eT (eU (gIsi "tuple") (eV 1))) (bAnd (eT (eB gNe (eV 1) (eTup aNil))) (eT (eB gGt (eDef drawL_ 2 (aCons (eV 0) (aCons (eC (.int 8)) aNil))) (eC (.int 0)))))) (sSeq (sPar [3, 4] (aCons (eDef drawL_ 2 (aCons (eV 0) (aCons (eCall gLen (aCons (eV 1) aNil)) aNil))) (aCons (eDef drawL_ 2 (aCons (eV 0) (aCons (eC (.int 8)) aNil))) aNil)))
    (sSeq (sAsg (.nm 2) (eLst (aCons (eB gAddT (eSl gSlA (eV 1) oN (oS (eV 3))) (eSl gSlA (eV 1) (oS (eB gAddT (eV 3) (eC (.int 1)))) oN)) (aCons (eB gAddT (eB gAddT (eSl gSlA (eV 1) oN (oS (eV 3))) (eSl gSlA (eV 1) (oS (eV 3)) (oS (eB gAddT (eV 3) (eC (.int 1)))))) (eSl gSlA (eV 1) (oS (eV 3)) oN)) (aCons (eU gRevT (eV 1)) (aCons (eCall gList (aCons (eV 1) aNil)) aNil))))))
    (sSeq (sIf (eT (eB gLt (eV 4) (eC (.int 4)))) (sRet (eB gIxA (eV 2) (eV 4))) sNil)
    (sRet (eB gAddT (eB gAddT (eSl gSlA (eV 1) oN (oS (eV 3))) (eTup (aCons (eDef rc 2 (aCons (eV 0) (aCons (eB gIxA (eV 1) (eV 3)) aNil))) aNil))) (eSl gSlA (eV 1) (oS (eB gAddT (eV 3) (eC (.int 1)))) oN)))))) sNil)
    (sSeq (sIf (bAnd (eT (eU (gIsi "int") (eV 1))) (bAnd (bNot (eT (eU (gIsi "bool") (eV 1)))) (eT (eB gGt (eDef drawL_ 2 (aCons (eV 0) (aCons (eC (.int 3)) aNil))) (eC (.int 0)))))) (sRet (eB gAddT (eV 1) (eB gIxA (eLst (aCons (eC (.int 1)) (aCons (eU gNeg (eC (.int 1))) (aCons (eC (.int 3)) aNil)))) (eDef drawL_ 2 (aCons (eV 0) (aCons (eC (.int 3)) aNil)))))) sNil)
    (sRet (eB gIxA (eLst (aCons (eC .non) (aCons (eC (.str "")) (aCons (eC (.str "a")) (aCons (eC (.str "zzz")) (aCons (eC (.int 0)) (aCons (eU gNeg (eC (.int 1))) (aCons (eC (.bl true)) (aCons (eC (.bl false)) (aCons (eB gPow (eC (.int 10)) (eC (.int 59))) (aCons (eTup aNil) (aCons (eLst aNil) (aCons (eTup (aCons (eC (.str "a")) (aCons (eC (.str "b")) aNil))) (aCons (eC (.str "toolongword")) aNil)))))))))))))) (eDef drawL_ 2 (aCons (eV 0) (aCons (eC (.int 13)) aNil)))))))
noncomputable def bentL_n : Nat → FA
  | 0 => fun _ _ => none
  | k + 1 => runF 5 (bentL_B (bentL_n k))
noncomputable def bentL_ : FA := bentL_n 8
noncomputable def is_wordL_B : SF := (sSeq (sIf (bOr (bNot (eT (eU (gIsi "str") (eV 0)))) (bNot (eT (eCh gLe gLe (eC (.int 1)) (eCall gLen (aCons (eV 0) aNil)) (eC (.int 8)))))) (sRet (eC (.bl false))) sNil)
    (sRet (eB gEq (eLc (.nm 1) (iChr (eV 0)) (eT (eB (gInT true) (eV 1) (eC (.str "abcdefghijklmnopqrstuvwxyz")))) (eV 1) [1]) (eLst aNil))))
noncomputable def is_wordL_ : FA := runF 2 is_wordL_B
noncomputable def is_fromL_B : SF := (sRet (eAnd (eU (gIsi "int") (eV 0)) (eAnd (eNot (eU (gIsi "bool") (eV 0))) (eB gGe (eV 0) (eC (.int 0))))))
noncomputable def is_fromL_ : FA := runF 1 is_fromL_B
noncomputable def is_keyL_B : SF := (sSeq (sIf (bOr (bNot (eT (eU (gIsi "tuple") (eV 0)))) (eT (eB gNe (eCall gLen (aCons (eV 0) aNil)) (eC (.int 3))))) (sRet (eC (.bl false))) sNil)
    (sRet (eAnd (eDef is_fromL_ 1 (aCons (eB gIxA (eV 0) (eC (.int 0))) aNil)) (eAnd (eDef is_fromL_ 1 (aCons (eB gIxA (eV 0) (eC (.int 1))) aNil)) (eDef is_wordL_ 1 (aCons (eB gIxA (eV 0) (eC (.int 2))) aNil))))))
noncomputable def is_keyL_ : FA := runF 1 is_keyL_B
noncomputable def risesL_B : SF := (sRet (eB gEq (eLc (.nm 1) (iRg2 (aCons (eC (.int 1)) (aCons (eCall gLen (aCons (eV 0) aNil)) aNil))) (eT (eB gGeD (eB gIxA (eV 0) (eB gSub (eV 1) (eC (.int 1)))) (eB gIxA (eV 0) (eV 1)))) (eV 1) [1]) (eLst aNil)))
noncomputable def risesL_ : FA := runF 2 risesL_B
noncomputable def is_netL_B : SF := (sSeq (sIf (bOr (bNot (eT (eU (gIsi "tuple") (eV 0)))) (bOr (eT (eB gNe (eCall gLen (aCons (eV 0) aNil)) (eC (.int 2)))) (bNot (eT (eU (gIsi "tuple") (eB gIxA (eV 0) (eC (.int 0)))))))) (sRet (eC (.bl false))) sNil)
    (sSeq (sFor (.nm 1) (iSeq (eB gIxA (eV 0) (eC (.int 0)))) (sIf (bOr (bNot (eT (eU (gIsi "tuple") (eV 1)))) (bOr (eT (eB gNe (eCall gLen (aCons (eV 1) aNil)) (eC (.int 3)))) (bNot (eT (eDef is_keyL_ 1 (aCons (eB gAddT (eSl gSlA (eV 1) (oS (eC (.int 1))) oN) (eSl gSlA (eV 1) oN (oS (eC (.int 1))))) aNil)))))) (sRet (eC (.bl false))) sNil))
    (sSeq (sAsg (.nm 2) (eLc (.nm 1) (iSeq (eB gIxA (eV 0) (eC (.int 0)))) bYes (eB gIxA (eV 1) (eC (.int 0))) [1]))
    (sSeq (sIf (bOr (bNot (eT (eDef risesL_ 1 (aCons (eV 2) aNil)))) (bNot (eT (eU (gIsi "tuple") (eB gIxA (eV 0) (eC (.int 1))))))) (sRet (eC (.bl false))) sNil)
    (sSeq (sFor (.nm 3) (iSeq (eB gIxA (eV 0) (eC (.int 1)))) (sSeq (sIf (bOr (bNot (eT (eU (gIsi "tuple") (eV 3)))) (bOr (eT (eB gNe (eCall gLen (aCons (eV 3) aNil)) (eC (.int 2)))) (bOr (eT (eB (gInD true) (eB gIxA (eV 3) (eC (.int 0))) (eV 2))) (eT (eB (gInD true) (eB gIxA (eV 3) (eC (.int 1))) (eV 2)))))) (sRet (eC (.bl false))) sNil)
    (sIf (eT (eB gGeD (eB gIxA (eV 3) (eC (.int 0))) (eB gIxA (eV 3) (eC (.int 1))))) (sRet (eC (.bl false))) sNil)))
    (sRet (eDef risesL_ 1 (aCons (eB gIxA (eV 0) (eC (.int 1))) aNil))))))))
noncomputable def is_netL_ : FA := runF 4 is_netL_B
noncomputable def is_rowL_B : SF := (sSeq (sIf (bOr (bNot (eT (eU (gIsi "tuple") (eV 2)))) (bOr (eT (eB gNe (eCall gLen (aCons (eV 2) aNil)) (eC (.int 3)))) (bOr (eT (eB gNe (eB gIxA (eV 2) (eC (.int 0))) (eB gIxA (eV 1) (eC (.int 0))))) (bNot (eT (eU (gIsi "tuple") (eB gIxA (eV 2) (eC (.int 2))))))))) (sRet (eC (.bl false))) sNil)
    (sSeq (sIf (eT (eB gIs (eB gIxA (eV 2) (eC (.int 1))) (eC .non))) (sRet (eB gEq (eB gIxA (eV 2) (eC (.int 2))) (eTup aNil))) sNil)
    (sSeq (sAsg (.nm 3) (eB gIxA (eV 2) (eC (.int 1))))
    (sSeq (sIf (bOr (bNot (eT (eU (gIsi "tuple") (eV 3)))) (bOr (eT (eB gNe (eCall gLen (aCons (eV 3) aNil)) (eC (.int 3)))) (bOr (bNot (eT (eDef is_keyL_ 1 (aCons (eB gIxA (eV 3) (eC (.int 0))) aNil)))) (bNot (eT (eDef is_fromL_ 1 (aCons (eB gIxA (eV 3) (eC (.int 1))) aNil))))))) (sRet (eC (.bl false))) sNil)
    (sSeq (sIf (eT (eB (gInD true) (eB gIxA (eV 3) (eC (.int 2))) (eLc (.nm 4) (iSeq (eB gIxA (eV 0) (eC (.int 0)))) bYes (eB gIxA (eV 4) (eC (.int 0))) [4]))) (sRet (eC (.bl false))) sNil)
    (sSeq (sFor (.nm 4) (iSeq (eB gIxA (eV 2) (eC (.int 2)))) (sSeq (sIf (bOr (bNot (eT (eU (gIsi "tuple") (eV 4)))) (bOr (eT (eB gNe (eCall gLen (aCons (eV 4) aNil)) (eC (.int 4)))) (eT (eB (gInD true) (eB gIxA (eV 4) (eC (.int 0))) (eDef endsL_ 2 (aCons (eB gIxA (eV 0) (eC (.int 1))) (aCons (eB gIxA (eV 1) (eC (.int 0))) aNil))))))) (sRet (eC (.bl false))) sNil)
    (sIf (bOr (bNot (eT (eDef is_keyL_ 1 (aCons (eB gIxA (eV 4) (eC (.int 1))) aNil)))) (bOr (bNot (eT (eDef is_fromL_ 1 (aCons (eB gIxA (eV 4) (eC (.int 2))) aNil)))) (bNot (eT (eDef is_fromL_ 1 (aCons (eB gIxA (eV 4) (eC (.int 3))) aNil)))))) (sRet (eC (.bl false))) sNil)))
    (sRet (eDef risesL_ 1 (aCons (eLc (.nm 4) (iSeq (eB gIxA (eV 2) (eC (.int 2)))) bYes (eB gIxA (eV 4) (eC (.int 0))) [4]) aNil)))))))))
noncomputable def is_rowL_ : FA := runF 5 is_rowL_B
noncomputable def is_stateL_B : SF := (sSeq (sIf (bOr (bNot (eT (eU (gIsi "tuple") (eV 1)))) (eT (eB gNe (eCall gLen (aCons (eV 1) aNil)) (eCall gLen (aCons (eB gIxA (eV 0) (eC (.int 0))) aNil))))) (sRet (eC (.bl false))) sNil)
    (sRet (eB gEq (eLc (.nm 2) (iRg1 (aCons (eCall gLen (aCons (eV 1) aNil)) aNil)) (bNot (eT (eDef is_rowL_ 3 (aCons (eV 0) (aCons (eB gIxA (eB gIxA (eV 0) (eC (.int 0))) (eV 2)) (aCons (eB gIxA (eV 1) (eV 2)) aNil)))))) (eV 2) [2]) (eLst aNil))))
noncomputable def is_stateL_ : FA := runF 3 is_stateL_B
noncomputable def law_B : SF := (sSeq (sAsg (.nm 1) (eDef feedL_ 1 (aCons (eV 0) aNil)))
    (sSeq (sAsg (.nm 2) (eC (.str "abcdefghijklmnopqrstuvwxyz")))
    (sSeq (sAsg (.nm 3) (eCall gTuple (aCons (eLc (.nm 8) (iRg1 (aCons (eC (.int 50)) aNil)) bYes (eTup (aCons (eB gAddT (eB gAddT (eC (.str "q")) (eB gIxA (eV 2) (eB gDiv (eV 8) (eC (.int 26))))) (eB gIxA (eV 2) (eB gMod (eV 8) (eC (.int 26))))) (aCons (eV 8) (aCons (eB gPow (eC (.int 10)) (eC (.int 40))) aNil)))) [8]) aNil)))
    (sSeq (sAsg (.nm 4) (eLst (aCons (eTup (aCons (eV 3) (aCons (eTup aNil) aNil))) (aCons (eTup (aCons (eV 3) (aCons (eTup (aCons (eTup (aCons (eB gIxA (eB gIxA (eV 3) (eC (.int 0))) (eC (.int 0))) (aCons (eB gIxA (eB gIxA (eV 3) (eC (.int 49))) (eC (.int 0))) aNil))) aNil)) aNil))) (aCons (eTup (aCons (eU gRevT (eV 3)) (aCons (eTup aNil) aNil))) (aCons (eTup (aCons (eTup aNil) (aCons (eTup aNil) aNil))) (aCons (eTup (aCons (eTup aNil) (aCons (eTup (aCons (eTup (aCons (eC (.str "a")) (aCons (eC (.str "b")) aNil))) aNil)) aNil))) (aCons (eC .non) (aCons (eTup aNil) aNil)))))))))
    (sSeq (sFor (.nm 5) (iRg1 (aCons (eC (.int 3)) aNil)) (sSeq (sAsg (.nm 6) (eDef netL_ 2 (aCons (eV 1) (aCons (eC (.int 8)) aNil))))
    (sSeq (sAsg (.nm 7) (eDef stateL_ 2 (aCons (eV 1) (aCons (eV 6) aNil))))
    (sSeq (sAsg (.nm 4) (eB gAdd (eV 4) (eLst (aCons (eV 6) (aCons (eCall gList (aCons (eV 6) aNil)) (aCons (eU gRevT (eV 6)) (aCons (eSl gSlA (eV 6) oN (oS (eC (.int 1)))) (aCons (eB gAddT (eV 6) (eTup (aCons (eTup aNil) aNil))) aNil))))))))
    (sSeq (sFor (.nm 8) (iRg1 (aCons (eC (.int 12)) aNil)) (sSeq (sAsg (.nm 10) (eDef bentL_ 2 (aCons (eV 1) (aCons (eV 6) aNil))))
    (sExpr (eMt isL gApp (eV 4) (aCons (eIf (eT (eB gEq (eDef drawL_ 2 (aCons (eV 1) (aCons (eC (.int 3)) aNil))) (eC (.int 0)))) (eDef bentL_ 2 (aCons (eV 1) (aCons (eV 10) aNil))) (eV 10)) aNil)))))
    (sSeq (sAsg (.nm 9) (eLst (aCons (eV 7) (aCons (eSl gSlA (eV 7) oN (oS (eU gNeg (eC (.int 1))))) (aCons (eB gAddT (eV 7) (eSl gSlA (eV 7) (oS (eU gNeg (eC (.int 1)))) oN)) (aCons (eCall gList (aCons (eV 7) aNil)) (aCons (eDef stateL_ 2 (aCons (eV 1) (aCons (eDef netL_ 2 (aCons (eV 1) (aCons (eC (.int 8)) aNil))) aNil))) (aCons (eTup aNil) (aCons (eC .non) aNil)))))))))
    (sSeq (sFor (.nm 8) (iRg1 (aCons (eC (.int 12)) aNil)) (sSeq (sAsg (.nm 10) (eDef bentL_ 2 (aCons (eV 1) (aCons (eV 7) aNil))))
    (sExpr (eMt isL gApp (eV 9) (aCons (eIf (eT (eB gEq (eDef drawL_ 2 (aCons (eV 1) (aCons (eC (.int 3)) aNil))) (eC (.int 0)))) (eDef bentL_ 2 (aCons (eV 1) (aCons (eV 10) aNil))) (eV 10)) aNil)))))
    (sSeq (sFor (.nm 10) (iSeq (eV 4)) (sSeq (sAsg (.nm 11) (eCall gRepr (aCons (eV 10) aNil)))
    (sIf (bOr (eT (eB gNe (eCall gRepr (aCons (eDef is_net_ 1 (aCons (eV 10) aNil)) aNil)) (eCall gRepr (aCons (eDef is_netL_ 1 (aCons (eV 10) aNil)) aNil)))) (eT (eB gNe (eCall gRepr (aCons (eV 10) aNil)) (eV 11)))) (sRet (eC (.bl false))) sNil)))
    (sSeq (sFor (.nm 10) (iSeq (eV 9)) (sSeq (sAsg (.nm 11) (eCall gRepr (aCons (eV 10) aNil)))
    (sIf (bOr (eT (eB gNe (eCall gRepr (aCons (eDef is_state_ 2 (aCons (eV 6) (aCons (eV 10) aNil))) aNil)) (eCall gRepr (aCons (eDef is_stateL_ 2 (aCons (eV 6) (aCons (eV 10) aNil))) aNil)))) (eT (eB gNe (eCall gRepr (aCons (eV 10) aNil)) (eV 11)))) (sRet (eC (.bl false))) sNil)))
    (sAsg (.nm 4) (eLst aNil)))))))))))
    (sRet (eC (.bl true))))))))
noncomputable def law_ : FA := runF 12 law_B
end K55
namespace K55
open PySem PySem.Spec PyProof.Rows L2 G Th AL
open K57 (other_ends_ other_ends_B feedL_ feedL_B drawL_ drawL_B netL_ netL_B keyL_ keyL_B any_keyL_ any_keyL_B endsL_ endsL_B stateL_ stateL_B)
def topS (i : Nat) : Stmt := PySem.Challenge.pw_ledclocks_k55_nets_by_kind.main.body.getD i (.Pass ⟨0, 0, 0, 0⟩)
section
variable {P : Program} {w : World} {K : PySem.W.Frag} {mg : Str → Option Value} {base : Heap}
def ss_is_number_ : {s : Stmt // topS 3 = s} := by
  refine ⟨?l, ?h⟩
  case h =>
    conv => lhs; whnf
abbrev st_is_number_ : Stmt := ss_is_number_.1
theorem sc_is_number_ : FnScope ["thing"] ["thing"] (defScope st_is_number_) := ⟨rfl, rfl, rfl, by decide +kernel, rfl, by decide +kernel, by decide +kernel⟩
theorem ok_is_number_ {f : Addr} {fd : FuncData} (F : Fun K "is_number" "is_number" st_is_number_ f fd) (hb : Binds K fd ["thing"] []) (hm : mg "is_number" = some (.ref f)) (m_isinstance : mg "isinstance" = none) (m_int : mg "int" = none) (m_bool : mg "bool" = none) : Def P w K mg base 1 "is_number" ["thing"] is_number_ :=
  fn_a F sc_is_number_ hb hm (g := is_number_B) fun cdv A outer s H E hg hr => (as1 (asr (aand (aisi (by rfl) m_isinstance (by rfl) m_int (by decide +kernel) (av 0)) (ae1 (anot (aisi (by rfl) m_isinstance (by rfl) m_bool (by decide +kernel) (av 0)))))))
def ss_is_word_ : {s : Stmt // topS 4 = s} := by
  refine ⟨?l, ?h⟩
  case h =>
    conv => lhs; whnf
abbrev st_is_word_ : Stmt := ss_is_word_.1
abbrev sc_is_word_N : List Str := ["thing", "sign"]
abbrev sc_is_word_S : Scope := defScope st_is_word_
theorem sc_is_word_ : FnScope ["thing", "sign"] ["thing"] (defScope st_is_word_) := ⟨rfl, rfl, rfl, by decide +kernel, rfl, by decide +kernel, by decide +kernel⟩
theorem ok_is_word_ {f : Addr} {fd : FuncData} (F : Fun K "is_word" "is_word" st_is_word_ f fd) (hb : Binds K fd ["thing"] []) (hm : mg "is_word" = some (.ref f)) (c_LONGEST_WORD : Cst K mg "LONGEST_WORD" (.int 8)) (c_SMALL_LETTERS : Cst K mg "SMALL_LETTERS" (.str "abcdefghijklmnopqrstuvwxyz")) (m_all : mg "all" = none) (m_isinstance : mg "isinstance" = none) (m_str : mg "str" = none) (m_len : mg "len" = none) : Def P w K mg base 1 "is_word" ["thing"] is_word_ :=
  fn_a F sc_is_word_ hb hm (g := is_word_B) fun cdv A outer s H E hg hr => (asq (asi (atw (awo (atn (atv (aisi (by rfl) m_isinstance (by rfl) m_str (by decide +kernel) (av 0)))) (awo1 (atn (atch op_le oLe op_le oLe ai (acb call_lenA cLen (by rfl) m_len PySem.boot_len (aac (av 0) aan)) (aglb c_LONGEST_WORD (by rfl))))))) (as1 (asr abl)) asn)
    (as1 (asr (acb (cr_all rfl) cAll (by rfl) m_all (by decide +kernel) (aac (alc (own := [("sign", 1)]) rfl sc_is_word_.nd (aichr (av 0)) (blkOk_by (own := [("sign", 1)]) (N := sc_is_word_N) (sc := sc_is_word_S) (by decide +kernel)) (by simp [Pat.slots, Pat.slotss]) (fun _ _ _ _ _ => (agn (i := 1) sc_is_word_.nd rfl (.inl rfl))) (fun _ _ _ _ _ => ats0) (fun _ _ _ _ _ => (acm opInT oInT (av 1) (aglb c_SMALL_LETTERS (by rfl)) (by rfl)))) aan)))))
def ss_is_count_ : {s : Stmt // topS 5 = s} := by
  refine ⟨?l, ?h⟩
  case h =>
    conv => lhs; whnf
abbrev st_is_count_ : Stmt := ss_is_count_.1
theorem sc_is_count_ : FnScope ["thing"] ["thing"] (defScope st_is_count_) := ⟨rfl, rfl, rfl, by decide +kernel, rfl, by decide +kernel, by decide +kernel⟩
theorem ok_is_count_ {f : Addr} {fd : FuncData} (F : Fun K "is_count" "is_count" st_is_count_ f fd) (hb : Binds K fd ["thing"] []) (hm : mg "is_count" = some (.ref f)) (d_is_number_ : Def P w K mg base 1 "is_number" ["thing"] is_number_) : Def P w K mg base 2 "is_count" ["thing"] is_count_ :=
  fn_a F sc_is_count_ hb hm (g := is_count_B) fun cdv A outer s H E hg hr => (as1 (asr (aand (acd d_is_number_ hg (hr.mono (by decide)) (by rfl) (aac (av 0) aan)) (ae1 (acm op_ge oGe (av 0) ai (nomark _))))))
def ss_rises_ : {s : Stmt // topS 6 = s} := by
  refine ⟨?l, ?h⟩
  case h =>
    conv => lhs; whnf
abbrev st_rises_ : Stmt := ss_rises_.1
abbrev sc_rises_N : List Str := ["things", "one", "other"]
abbrev sc_rises_S : Scope := defScope st_rises_
theorem sc_rises_ : FnScope ["things", "one", "other"] ["things"] (defScope st_rises_) := ⟨rfl, rfl, rfl, by decide +kernel, rfl, by decide +kernel, by decide +kernel⟩
theorem ok_rises_ {f : Addr} {fd : FuncData} (F : Fun K "rises" "rises" st_rises_ f fd) (hb : Binds K fd ["things"] []) (hm : mg "rises" = some (.ref f)) (m_all : mg "all" = none) (m_zip : mg "zip" = none) : Def P w K mg base 1 "rises" ["things"] rises_ :=
  fn_a F sc_rises_ hb hm (g := rises_B) fun cdv A outer s H E hg hr => (as1 (asr (acb (cr_all rfl) cAll (by rfl) m_all (by decide +kernel) (aac (alc (own := [("one", 1), ("other", 2)]) rfl sc_rises_.nd (aiz (by rfl) m_zip (aac (av 0) (aac (asl sl_B oSlA (av 0) (aos ai) aon) aan))) (blkOk_by (own := [("one", 1), ("other", 2)]) (N := sc_rises_N) (sc := sc_rises_S) (by decide +kernel)) (by simp [Pat.slots, Pat.slotss]) (fun _ _ _ _ _ => (agt rfl (agl (agn (i := 1) sc_rises_.nd rfl (.inl rfl)) (agl (agn (i := 2) sc_rises_.nd rfl (.inl rfl)) agl0)))) (fun _ _ _ _ _ => ats0) (fun _ _ _ _ _ => (acm (op_ltD hr.units) oLtD (av 1) (av 2) (nomark _)))) aan))))
def ss_is_member_ : {s : Stmt // topS 10 = s} := by
  refine ⟨?l, ?h⟩
  case h =>
    conv => lhs; whnf
abbrev st_is_member_ : Stmt := ss_is_member_.1
theorem sc_is_member_ : FnScope ["thing"] ["thing"] (defScope st_is_member_) := ⟨rfl, rfl, rfl, by decide +kernel, rfl, by decide +kernel, by decide +kernel⟩
theorem ok_is_member_ {f : Addr} {fd : FuncData} (F : Fun K "is_member" "is_member" st_is_member_ f fd) (hb : Binds K fd ["thing"] []) (hm : mg "is_member" = some (.ref f)) (d_is_word_ : Def P w K mg base 1 "is_word" ["thing"] is_word_) (d_is_count_ : Def P w K mg base 2 "is_count" ["thing"] is_count_) (m_isinstance : mg "isinstance" = none) (m_tuple : mg "tuple" = none) (m_len : mg "len" = none) : Def P w K mg base 3 "is_member" ["thing"] is_member_ :=
  fn_a F sc_is_member_ hb hm (g := is_member_B) fun cdv A outer s H E hg hr => (asq (asi (atw (awo (atn (atv (aisi (by rfl) m_isinstance (by rfl) m_tuple (by decide +kernel) (av 0)))) (awo1 (atc (op_neA hr.units) oNe (acb call_lenA cLen (by rfl) m_len PySem.boot_len (aac (av 0) aan)) ai (nomark _))))) (as1 (asr abl)) asn)
    (as1 (asr (aand (acd d_is_word_ hg (hr.mono (by decide)) (by rfl) (aac (aixA (hu_of hr) (av 0) ai (fun _ _ => rfl) (fun _ _ => rfl)) aan)) (aand (acd d_is_count_ hg (hr.mono (by decide)) (by rfl) (aac (aixA (hu_of hr) (av 0) ai (fun _ _ => rfl) (fun _ _ => rfl)) aan)) (ae1 (acd d_is_count_ hg (hr.mono (by decide)) (by rfl) (aac (aixA (hu_of hr) (av 0) ai (fun _ _ => rfl) (fun _ _ => rfl)) aan))))))))
def ss_are_members_ : {s : Stmt // topS 9 = s} := by
  refine ⟨?l, ?h⟩
  case h =>
    conv => lhs; whnf
abbrev st_are_members_ : Stmt := ss_are_members_.1
abbrev sc_are_members_N : List Str := ["thing", "member"]
abbrev sc_are_members_S : Scope := defScope st_are_members_
theorem sc_are_members_ : FnScope ["thing", "member"] ["thing"] (defScope st_are_members_) := ⟨rfl, rfl, rfl, by decide +kernel, rfl, by decide +kernel, by decide +kernel⟩
theorem ok_are_members_ {f : Addr} {fd : FuncData} (F : Fun K "are_members" "are_members" st_are_members_ f fd) (hb : Binds K fd ["thing"] []) (hm : mg "are_members" = some (.ref f)) (d_rises_ : Def P w K mg base 1 "rises" ["things"] rises_) (d_is_member_ : Def P w K mg base 3 "is_member" ["thing"] is_member_) (m_isinstance : mg "isinstance" = none) (m_tuple : mg "tuple" = none) (m_all : mg "all" = none) : Def P w K mg base 4 "are_members" ["thing"] are_members_ :=
  fn_a F sc_are_members_ hb hm (g := are_members_B) fun cdv A outer s H E hg hr => (asq (asi (atw (awo (atn (atv (aisi (by rfl) m_isinstance (by rfl) m_tuple (by decide +kernel) (av 0)))) (awo1 (atn (atv (acb (cr_all rfl) cAll (by rfl) m_all (by decide +kernel) (aac (alc (own := [("member", 1)]) rfl sc_are_members_.nd (ais (av 0)) (blkOk_by (own := [("member", 1)]) (N := sc_are_members_N) (sc := sc_are_members_S) (by decide +kernel)) (by simp [Pat.slots, Pat.slotss]) (fun _ _ _ _ _ => (agn (i := 1) sc_are_members_.nd rfl (.inl rfl))) (fun _ _ _ _ _ => ats0) (fun _ _ _ _ _ => (acd d_is_member_ hg (hr.mono (by decide)) (by rfl) (aac (av 1) aan)))) aan))))))) (as1 (asr abl)) asn)
    (as1 (asr (acd d_rises_ hg (hr.mono (by decide)) (by rfl) (aac (alc (own := [("member", 1)]) rfl sc_are_members_.nd (ais (av 0)) (blkOk_by (own := [("member", 1)]) (N := sc_are_members_N) (sc := sc_are_members_S) (by decide +kernel)) (by simp [Pat.slots, Pat.slotss]) (fun _ _ _ _ _ => (agn (i := 1) sc_are_members_.nd rfl (.inl rfl))) (fun _ _ _ _ _ => ats0) (fun _ _ _ _ _ => (aixA (hu_of hr) (av 1) ai (fun _ _ => rfl) (fun _ _ => rfl)))) aan)))))
def ss_is_wire_ : {s : Stmt // topS 12 = s} := by
  refine ⟨?l, ?h⟩
  case h =>
    conv => lhs; whnf
abbrev st_is_wire_ : Stmt := ss_is_wire_.1
theorem sc_is_wire_ : FnScope ["thing", "names", "one", "other"] ["thing", "names"] (defScope st_is_wire_) := ⟨rfl, rfl, rfl, by decide +kernel, rfl, by decide +kernel, by decide +kernel⟩
theorem ok_is_wire_ {f : Addr} {fd : FuncData} (F : Fun K "is_wire" "is_wire" st_is_wire_ f fd) (hb : Binds K fd ["thing", "names"] []) (hm : mg "is_wire" = some (.ref f)) (m_isinstance : mg "isinstance" = none) (m_tuple : mg "tuple" = none) (m_len : mg "len" = none) : Def P w K mg base 1 "is_wire" ["thing", "names"] is_wire_ :=
  fn_a F sc_is_wire_ hb hm (g := is_wire_B) fun cdv A outer s H E hg hr => (asq (asi (atw (awo (atn (atv (aisi (by rfl) m_isinstance (by rfl) m_tuple (by decide +kernel) (av 0)))) (awo1 (atc (op_neA hr.units) oNe (acb call_lenA cLen (by rfl) m_len PySem.boot_len (aac (av 0) aan)) ai (nomark _))))) (as1 (asr abl)) asn)
    (asq (asa (av 0) (agt rfl (agl (agn (i := 2) sc_is_wire_.nd rfl (.inl rfl)) (agl (agn (i := 3) sc_is_wire_.nd rfl (.inl rfl)) agl0))))
    (as1 (asr (aand (acm (op_inD (hu65 hr)) oInD (av 2) (av 1) (by rfl)) (aand (acm (op_inD (hu65 hr)) oInD (av 3) (av 1) (by rfl)) (ae1 (acm (op_ltD hr.units) oLtD (av 2) (av 3) (nomark _)))))))))
def ss_are_wires_ : {s : Stmt // topS 11 = s} := by
  refine ⟨?l, ?h⟩
  case h =>
    conv => lhs; whnf
abbrev st_are_wires_ : Stmt := ss_are_wires_.1
abbrev sc_are_wires_N : List Str := ["thing", "names", "wire"]
abbrev sc_are_wires_S : Scope := defScope st_are_wires_
theorem sc_are_wires_ : FnScope ["thing", "names", "wire"] ["thing", "names"] (defScope st_are_wires_) := ⟨rfl, rfl, rfl, by decide +kernel, rfl, by decide +kernel, by decide +kernel⟩
theorem ok_are_wires_ {f : Addr} {fd : FuncData} (F : Fun K "are_wires" "are_wires" st_are_wires_ f fd) (hb : Binds K fd ["thing", "names"] []) (hm : mg "are_wires" = some (.ref f)) (d_rises_ : Def P w K mg base 1 "rises" ["things"] rises_) (d_is_wire_ : Def P w K mg base 1 "is_wire" ["thing", "names"] is_wire_) (m_isinstance : mg "isinstance" = none) (m_tuple : mg "tuple" = none) (m_all : mg "all" = none) : Def P w K mg base 2 "are_wires" ["thing", "names"] are_wires_ :=
  fn_a F sc_are_wires_ hb hm (g := are_wires_B) fun cdv A outer s H E hg hr => (asq (asi (atw (awo (atn (atv (aisi (by rfl) m_isinstance (by rfl) m_tuple (by decide +kernel) (av 0)))) (awo1 (atn (atv (acb (cr_all rfl) cAll (by rfl) m_all (by decide +kernel) (aac (alc (own := [("wire", 2)]) rfl sc_are_wires_.nd (ais (av 0)) (blkOk_by (own := [("wire", 2)]) (N := sc_are_wires_N) (sc := sc_are_wires_S) (by decide +kernel)) (by simp [Pat.slots, Pat.slotss]) (fun _ _ _ _ _ => (agn (i := 2) sc_are_wires_.nd rfl (.inl rfl))) (fun _ _ _ _ _ => ats0) (fun _ _ _ _ _ => (acd d_is_wire_ hg (hr.mono (by decide)) (by rfl) (aac (av 2) (aac (av 1) aan))))) aan))))))) (as1 (asr abl)) asn)
    (as1 (asr (acd d_rises_ hg (hr.mono (by decide)) (by rfl) (aac (av 0) aan)))))
def ss_is_net_ : {s : Stmt // topS 8 = s} := by
  refine ⟨?l, ?h⟩
  case h =>
    conv => lhs; whnf
abbrev st_is_net_ : Stmt := ss_is_net_.1
abbrev sc_is_net_N : List Str := ["thing", "members", "wires", "member"]
abbrev sc_is_net_S : Scope := defScope st_is_net_
theorem sc_is_net_ : FnScope ["thing", "members", "wires", "member"] ["thing"] (defScope st_is_net_) := ⟨rfl, rfl, rfl, by decide +kernel, rfl, by decide +kernel, by decide +kernel⟩
theorem ok_is_net_ {f : Addr} {fd : FuncData} (F : Fun K "is_net" "is_net" st_is_net_ f fd) (hb : Binds K fd ["thing"] []) (hm : mg "is_net" = some (.ref f)) (d_are_members_ : Def P w K mg base 4 "are_members" ["thing"] are_members_) (d_are_wires_ : Def P w K mg base 2 "are_wires" ["thing", "names"] are_wires_) (m_isinstance : mg "isinstance" = none) (m_tuple : mg "tuple" = none) (m_len : mg "len" = none) : Def P w K mg base 5 "is_net" ["thing"] is_net_ :=
  fn_a F sc_is_net_ hb hm (g := is_net_B) fun cdv A outer s H E hg hr => (asq (asi (atw (awo (atn (atv (aisi (by rfl) m_isinstance (by rfl) m_tuple (by decide +kernel) (av 0)))) (awo1 (atc (op_neA hr.units) oNe (acb call_lenA cLen (by rfl) m_len PySem.boot_len (aac (av 0) aan)) ai (nomark _))))) (as1 (asr abl)) asn)
    (asq (asa (av 0) (agt rfl (agl (agn (i := 1) sc_is_net_.nd rfl (.inl rfl)) (agl (agn (i := 2) sc_is_net_.nd rfl (.inl rfl)) agl0))))
    (as1 (asr (aand (acd d_are_members_ hg (hr.mono (by decide)) (by rfl) (aac (av 1) aan)) (ae1 (acd d_are_wires_ hg (hr.mono (by decide)) (by rfl) (aac (av 2) (aac (alc (own := [("member", 3)]) rfl sc_is_net_.nd (ais (av 1)) (blkOk_by (own := [("member", 3)]) (N := sc_is_net_N) (sc := sc_is_net_S) (by decide +kernel)) (by simp [Pat.slots, Pat.slotss]) (fun _ _ _ _ _ => (agn (i := 3) sc_is_net_.nd rfl (.inl rfl))) (fun _ _ _ _ _ => ats0) (fun _ _ _ _ _ => (aixA (hu_of hr) (av 3) ai (fun _ _ => rfl) (fun _ _ => rfl)))) aan)))))))))
def ss_is_key_ : {s : Stmt // topS 16 = s} := by
  refine ⟨?l, ?h⟩
  case h =>
    conv => lhs; whnf
abbrev st_is_key_ : Stmt := ss_is_key_.1
theorem sc_is_key_ : FnScope ["thing"] ["thing"] (defScope st_is_key_) := ⟨rfl, rfl, rfl, by decide +kernel, rfl, by decide +kernel, by decide +kernel⟩
theorem ok_is_key_ {f : Addr} {fd : FuncData} (F : Fun K "is_key" "is_key" st_is_key_ f fd) (hb : Binds K fd ["thing"] []) (hm : mg "is_key" = some (.ref f)) (d_is_count_ : Def P w K mg base 2 "is_count" ["thing"] is_count_) (d_is_word_ : Def P w K mg base 1 "is_word" ["thing"] is_word_) (m_isinstance : mg "isinstance" = none) (m_tuple : mg "tuple" = none) (m_len : mg "len" = none) : Def P w K mg base 3 "is_key" ["thing"] is_key_ :=
  fn_a F sc_is_key_ hb hm (g := is_key_B) fun cdv A outer s H E hg hr => (asq (asi (atw (awo (atn (atv (aisi (by rfl) m_isinstance (by rfl) m_tuple (by decide +kernel) (av 0)))) (awo1 (atc (op_neA hr.units) oNe (acb call_lenA cLen (by rfl) m_len PySem.boot_len (aac (av 0) aan)) ai (nomark _))))) (as1 (asr abl)) asn)
    (as1 (asr (aand (acd d_is_count_ hg (hr.mono (by decide)) (by rfl) (aac (aixA (hu_of hr) (av 0) ai (fun _ _ => rfl) (fun _ _ => rfl)) aan)) (aand (acd d_is_count_ hg (hr.mono (by decide)) (by rfl) (aac (aixA (hu_of hr) (av 0) ai (fun _ _ => rfl) (fun _ _ => rfl)) aan)) (ae1 (acd d_is_word_ hg (hr.mono (by decide)) (by rfl) (aac (aixA (hu_of hr) (av 0) ai (fun _ _ => rfl) (fun _ _ => rfl)) aan))))))))
def ss_is_saying_ : {s : Stmt // topS 15 = s} := by
  refine ⟨?l, ?h⟩
  case h =>
    conv => lhs; whnf
abbrev st_is_saying_ : Stmt := ss_is_saying_.1
abbrev sc_is_saying_N : List Str := ["net", "thing", "key", "steps", "who", "member"]
abbrev sc_is_saying_S : Scope := defScope st_is_saying_
theorem sc_is_saying_ : FnScope ["net", "thing", "key", "steps", "who", "member"] ["net", "thing"] (defScope st_is_saying_) := ⟨rfl, rfl, rfl, by decide +kernel, rfl, by decide +kernel, by decide +kernel⟩
theorem ok_is_saying_ {f : Addr} {fd : FuncData} (F : Fun K "is_saying" "is_saying" st_is_saying_ f fd) (hb : Binds K fd ["net", "thing"] []) (hm : mg "is_saying" = some (.ref f)) (d_is_key_ : Def P w K mg base 3 "is_key" ["thing"] is_key_) (d_is_count_ : Def P w K mg base 2 "is_count" ["thing"] is_count_) (m_isinstance : mg "isinstance" = none) (m_tuple : mg "tuple" = none) (m_len : mg "len" = none) : Def P w K mg base 4 "is_saying" ["net", "thing"] is_saying_ :=
  fn_a F sc_is_saying_ hb hm (g := is_saying_B) fun cdv A outer s H E hg hr => (asq (asi (atw (awo (atn (atv (aisi (by rfl) m_isinstance (by rfl) m_tuple (by decide +kernel) (av 1)))) (awo1 (atc (op_neA hr.units) oNe (acb call_lenA cLen (by rfl) m_len PySem.boot_len (aac (av 1) aan)) ai (nomark _))))) (as1 (asr abl)) asn)
    (asq (asa (av 1) (agt rfl (agl (agn (i := 2) sc_is_saying_.nd rfl (.inl rfl)) (agl (agn (i := 3) sc_is_saying_.nd rfl (.inl rfl)) (agl (agn (i := 4) sc_is_saying_.nd rfl (.inl rfl)) agl0)))))
    (as1 (asr (aand (acd d_is_key_ hg (hr.mono (by decide)) (by rfl) (aac (av 2) aan)) (aand (acd d_is_count_ hg (hr.mono (by decide)) (by rfl) (aac (av 3) aan)) (ae1 (acm (op_inD (hu65 hr)) oInD (av 4) (alc (own := [("member", 5)]) rfl sc_is_saying_.nd (ais (aixA (hu_of hr) (av 0) ai (fun _ _ => rfl) (fun _ _ => rfl))) (blkOk_by (own := [("member", 5)]) (N := sc_is_saying_N) (sc := sc_is_saying_S) (by decide +kernel)) (by simp [Pat.slots, Pat.slotss]) (fun _ _ _ _ _ => (agn (i := 5) sc_is_saying_.nd rfl (.inl rfl))) (fun _ _ _ _ _ => ats0) (fun _ _ _ _ _ => (aixA (hu_of hr) (av 5) ai (fun _ _ => rfl) (fun _ _ => rfl)))) (by rfl)))))))))
def ss_is_heard_row_ : {s : Stmt // topS 18 = s} := by
  refine ⟨?l, ?h⟩
  case h =>
    conv => lhs; whnf
abbrev st_is_heard_row_ : Stmt := ss_is_heard_row_.1
theorem sc_is_heard_row_ : FnScope ["ends", "thing", "who", "key", "steps", "age"] ["ends", "thing"] (defScope st_is_heard_row_) := ⟨rfl, rfl, rfl, by decide +kernel, rfl, by decide +kernel, by decide +kernel⟩
theorem ok_is_heard_row_ {f : Addr} {fd : FuncData} (F : Fun K "is_heard_row" "is_heard_row" st_is_heard_row_ f fd) (hb : Binds K fd ["ends", "thing"] []) (hm : mg "is_heard_row" = some (.ref f)) (d_is_key_ : Def P w K mg base 3 "is_key" ["thing"] is_key_) (d_is_count_ : Def P w K mg base 2 "is_count" ["thing"] is_count_) (m_isinstance : mg "isinstance" = none) (m_tuple : mg "tuple" = none) (m_len : mg "len" = none) : Def P w K mg base 4 "is_heard_row" ["ends", "thing"] is_heard_row_ :=
  fn_a F sc_is_heard_row_ hb hm (g := is_heard_row_B) fun cdv A outer s H E hg hr => (asq (asi (atw (awo (atn (atv (aisi (by rfl) m_isinstance (by rfl) m_tuple (by decide +kernel) (av 1)))) (awo1 (atc (op_neA hr.units) oNe (acb call_lenA cLen (by rfl) m_len PySem.boot_len (aac (av 1) aan)) ai (nomark _))))) (as1 (asr abl)) asn)
    (asq (asa (av 1) (agt rfl (agl (agn (i := 2) sc_is_heard_row_.nd rfl (.inl rfl)) (agl (agn (i := 3) sc_is_heard_row_.nd rfl (.inl rfl)) (agl (agn (i := 4) sc_is_heard_row_.nd rfl (.inl rfl)) (agl (agn (i := 5) sc_is_heard_row_.nd rfl (.inl rfl)) agl0))))))
    (as1 (asr (aand (acm (op_inD (hu65 hr)) oInD (av 2) (av 0) (by rfl)) (aand (acd d_is_key_ hg (hr.mono (by decide)) (by rfl) (aac (av 3) aan)) (aand (acd d_is_count_ hg (hr.mono (by decide)) (by rfl) (aac (av 4) aan)) (ae1 (acd d_is_count_ hg (hr.mono (by decide)) (by rfl) (aac (av 5) aan))))))))))
def ss_is_heard_ : {s : Stmt // topS 17 = s} := by
  refine ⟨?l, ?h⟩
  case h =>
    conv => lhs; whnf
abbrev st_is_heard_ : Stmt := ss_is_heard_.1
abbrev sc_is_heard_N : List Str := ["ends", "thing", "row"]
abbrev sc_is_heard_S : Scope := defScope st_is_heard_
theorem sc_is_heard_ : FnScope ["ends", "thing", "row"] ["ends", "thing"] (defScope st_is_heard_) := ⟨rfl, rfl, rfl, by decide +kernel, rfl, by decide +kernel, by decide +kernel⟩
theorem ok_is_heard_ {f : Addr} {fd : FuncData} (F : Fun K "is_heard" "is_heard" st_is_heard_ f fd) (hb : Binds K fd ["ends", "thing"] []) (hm : mg "is_heard" = some (.ref f)) (d_rises_ : Def P w K mg base 1 "rises" ["things"] rises_) (d_is_heard_row_ : Def P w K mg base 4 "is_heard_row" ["ends", "thing"] is_heard_row_) (m_isinstance : mg "isinstance" = none) (m_tuple : mg "tuple" = none) (m_all : mg "all" = none) : Def P w K mg base 5 "is_heard" ["ends", "thing"] is_heard_ :=
  fn_a F sc_is_heard_ hb hm (g := is_heard_B) fun cdv A outer s H E hg hr => (asq (asi (atw (awo (atn (atv (aisi (by rfl) m_isinstance (by rfl) m_tuple (by decide +kernel) (av 1)))) (awo1 (atn (atv (acb (cr_all rfl) cAll (by rfl) m_all (by decide +kernel) (aac (alc (own := [("row", 2)]) rfl sc_is_heard_.nd (ais (av 1)) (blkOk_by (own := [("row", 2)]) (N := sc_is_heard_N) (sc := sc_is_heard_S) (by decide +kernel)) (by simp [Pat.slots, Pat.slotss]) (fun _ _ _ _ _ => (agn (i := 2) sc_is_heard_.nd rfl (.inl rfl))) (fun _ _ _ _ _ => ats0) (fun _ _ _ _ _ => (acd d_is_heard_row_ hg (hr.mono (by decide)) (by rfl) (aac (av 0) (aac (av 2) aan))))) aan))))))) (as1 (asr abl)) asn)
    (as1 (asr (acd d_rises_ hg (hr.mono (by decide)) (by rfl) (aac (alc (own := [("row", 2)]) rfl sc_is_heard_.nd (ais (av 1)) (blkOk_by (own := [("row", 2)]) (N := sc_is_heard_N) (sc := sc_is_heard_S) (by decide +kernel)) (by simp [Pat.slots, Pat.slotss]) (fun _ _ _ _ _ => (agn (i := 2) sc_is_heard_.nd rfl (.inl rfl))) (fun _ _ _ _ _ => ats0) (fun _ _ _ _ _ => (aixA (hu_of hr) (av 2) ai (fun _ _ => rfl) (fun _ _ => rfl)))) aan)))))
def ss_other_ends_ : {s : Stmt // topS 19 = s} := by
  refine ⟨?l, ?h⟩
  case h =>
    conv => lhs; whnf
abbrev st_other_ends_ : Stmt := ss_other_ends_.1
abbrev sc_other_ends_N : List Str := ["wires", "name", "one", "other"]
abbrev sc_other_ends_S : Scope := defScope st_other_ends_
theorem sc_other_ends_ : FnScope ["wires", "name", "one", "other"] ["wires", "name"] (defScope st_other_ends_) := ⟨rfl, rfl, rfl, by decide +kernel, rfl, by decide +kernel, by decide +kernel⟩
theorem ok_other_ends_ {f : Addr} {fd : FuncData} (F : Fun K "other_ends" "other_ends" st_other_ends_ f fd) (hb : Binds K fd ["wires", "name"] []) (hm : mg "other_ends" = some (.ref f)) : Def P w K mg base 1 "other_ends" ["wires", "name"] other_ends_ :=
  fn_a F sc_other_ends_ hb hm (g := other_ends_B) fun cdv A outer s H E hg hr => (as1 (asr (alc (own := [("one", 2), ("other", 3)]) rfl sc_other_ends_.nd (ais (av 0)) (blkOk_by (own := [("one", 2), ("other", 3)]) (N := sc_other_ends_N) (sc := sc_other_ends_S) (by decide +kernel)) (by simp [Pat.slots, Pat.slotss]) (fun _ _ _ _ _ => (agt rfl (agl (agn (i := 2) sc_other_ends_.nd rfl (.inl rfl)) (agl (agn (i := 3) sc_other_ends_.nd rfl (.inl rfl)) agl0)))) (fun _ _ _ _ _ => (pts_one (atin (hu_of hr) (av 1) (atup (aac (av 2) (aac (av 3) aan)))))) (fun _ _ _ _ _ => (aif (atc (op_eqA hr.units) oEq (av 2) (av 1) (nomark _)) (av 3) (av 2))))))
def ss_is_state_row_ : {s : Stmt // topS 14 = s} := by
  refine ⟨?l, ?h⟩
  case h =>
    conv => lhs; whnf
abbrev st_is_state_row_ : Stmt := ss_is_state_row_.1
theorem sc_is_state_row_ : FnScope ["net", "name", "thing", "best", "heard"] ["net", "name", "thing"] (defScope st_is_state_row_) := ⟨rfl, rfl, rfl, by decide +kernel, rfl, by decide +kernel, by decide +kernel⟩
theorem ok_is_state_row_ {f : Addr} {fd : FuncData} (F : Fun K "is_state_row" "is_state_row" st_is_state_row_ f fd) (hb : Binds K fd ["net", "name", "thing"] []) (hm : mg "is_state_row" = some (.ref f)) (d_is_saying_ : Def P w K mg base 4 "is_saying" ["net", "thing"] is_saying_) (d_is_heard_ : Def P w K mg base 5 "is_heard" ["ends", "thing"] is_heard_) (d_other_ends_ : Def P w K mg base 1 "other_ends" ["wires", "name"] other_ends_) (m_isinstance : mg "isinstance" = none) (m_tuple : mg "tuple" = none) (m_len : mg "len" = none) : Def P w K mg base 6 "is_state_row" ["net", "name", "thing"] is_state_row_ :=
  fn_a F sc_is_state_row_ hb hm (g := is_state_row_B) fun cdv A outer s H E hg hr => (asq (asi (atw (awo (atn (atv (aisi (by rfl) m_isinstance (by rfl) m_tuple (by decide +kernel) (av 2)))) (awo (atc (op_neA hr.units) oNe (acb call_lenA cLen (by rfl) m_len PySem.boot_len (aac (av 2) aan)) ai (nomark _)) (awo1 (atc (op_neA hr.units) oNe (aixA (hu_of hr) (av 2) ai (fun _ _ => rfl) (fun _ _ => rfl)) (av 1) (nomark _)))))) (as1 (asr abl)) asn)
    (asq (asa (asl sl_B oSlA (av 2) (aos ai) aon) (agt rfl (agl (agn (i := 3) sc_is_state_row_.nd rfl (.inl rfl)) (agl (agn (i := 4) sc_is_state_row_.nd rfl (.inl rfl)) agl0))))
    (asq (asi (atc op_isN oIs (av 3) an (nomark _)) (as1 (asr (aand (aisi (by rfl) m_isinstance (by rfl) m_tuple (by decide +kernel) (av 4)) (ae1 (acm (op_eqA hr.units) oEq (acb call_lenA cLen (by rfl) m_len PySem.boot_len (aac (av 4) aan)) ai (nomark _)))))) asn)
    (as1 (asr (aand (acd d_is_saying_ hg (hr.mono (by decide)) (by rfl) (aac (av 0) (aac (av 3) aan))) (ae1 (acd d_is_heard_ hg (hr.mono (by decide)) (by rfl) (aac (acd d_other_ends_ hg (hr.mono (by decide)) (by rfl) (aac (aixA (hu_of hr) (av 0) ai (fun _ _ => rfl) (fun _ _ => rfl)) (aac (av 1) aan))) (aac (av 4) aan))))))))))
def ss_is_state_ : {s : Stmt // topS 13 = s} := by
  refine ⟨?l, ?h⟩
  case h =>
    conv => lhs; whnf
abbrev st_is_state_ : Stmt := ss_is_state_.1
abbrev sc_is_state_N : List Str := ["net", "thing", "members", "wires", "member", "row"]
abbrev sc_is_state_S : Scope := defScope st_is_state_
theorem sc_is_state_ : FnScope ["net", "thing", "members", "wires", "member", "row"] ["net", "thing"] (defScope st_is_state_) := ⟨rfl, rfl, rfl, by decide +kernel, rfl, by decide +kernel, by decide +kernel⟩
theorem ok_is_state_ {f : Addr} {fd : FuncData} (F : Fun K "is_state" "is_state" st_is_state_ f fd) (hb : Binds K fd ["net", "thing"] []) (hm : mg "is_state" = some (.ref f)) (d_is_state_row_ : Def P w K mg base 6 "is_state_row" ["net", "name", "thing"] is_state_row_) (m_all : mg "all" = none) (m_isinstance : mg "isinstance" = none) (m_tuple : mg "tuple" = none) (m_len : mg "len" = none) (m_zip : mg "zip" = none) : Def P w K mg base 7 "is_state" ["net", "thing"] is_state_ :=
  fn_a F sc_is_state_ hb hm (g := is_state_B) fun cdv A outer s H E hg hr => (asq (asa (av 0) (agt rfl (agl (agn (i := 2) sc_is_state_.nd rfl (.inl rfl)) (agl (agn (i := 3) sc_is_state_.nd rfl (.inl rfl)) agl0))))
    (asq (asi (atw (awo (atn (atv (aisi (by rfl) m_isinstance (by rfl) m_tuple (by decide +kernel) (av 1)))) (awo1 (atc (op_neA hr.units) oNe (acb call_lenA cLen (by rfl) m_len PySem.boot_len (aac (av 1) aan)) (acb call_lenA cLen (by rfl) m_len PySem.boot_len (aac (av 2) aan)) (nomark _))))) (as1 (asr abl)) asn)
    (as1 (asr (acb (cr_all rfl) cAll (by rfl) m_all (by decide +kernel) (aac (alc (own := [("member", 4), ("row", 5)]) rfl sc_is_state_.nd (aiz (by rfl) m_zip (aac (av 2) (aac (av 1) aan))) (blkOk_by (own := [("member", 4), ("row", 5)]) (N := sc_is_state_N) (sc := sc_is_state_S) (by decide +kernel)) (by simp [Pat.slots, Pat.slotss]) (fun _ _ _ _ _ => (agt rfl (agl (agn (i := 4) sc_is_state_.nd rfl (.inl rfl)) (agl (agn (i := 5) sc_is_state_.nd rfl (.inl rfl)) agl0)))) (fun _ _ _ _ _ => ats0) (fun _ _ _ _ _ => (acd d_is_state_row_ hg (hr.mono (by decide)) (by rfl) (aac (av 0) (aac (aixA (hu_of hr) (av 4) ai (fun _ _ => rfl) (fun _ _ => rfl)) (aac (av 5) aan)))))) aan))))))
def ss_feedL_ : {s : Stmt // topS 21 = s} := by
  refine ⟨?l, ?h⟩
  case h =>
    conv => lhs; whnf
abbrev st_feedL_ : Stmt := ss_feedL_.1
theorem sc_feedL_ : FnScope ["_law_script"] ["_law_script"] (defScope st_feedL_) := ⟨rfl, rfl, rfl, by decide +kernel, rfl, by decide +kernel, by decide +kernel⟩
theorem ok_feedL_ {f : Addr} {fd : FuncData} (F : Fun K "_law_feed" "_law_feed" st_feedL_ f fd) (hb : Binds K fd ["_law_script"] []) (hm : mg "_law_feed" = some (.ref f)) (m_list : mg "list" = none) : Def P w K mg base 1 "_law_feed" ["_law_script"] feedL_ :=
  fn_a F sc_feedL_ hb hm (g := feedL_B) fun cdv A outer s H E hg hr => (as1 (asr (adsp (adp1 astr (act call_list_of cList (by rfl) m_list (by decide +kernel) (aac (asl sl_A oSl (av 0) aon (aos ai)) aan)) (adp1 astr ai (adp1 astr ai (adp1 astr ai adp0)))))))
def ss_drawL_ : {s : Stmt // topS 22 = s} := by
  refine ⟨?l, ?h⟩
  case h =>
    conv => lhs; whnf
abbrev st_drawL_ : Stmt := ss_drawL_.1
theorem sc_drawL_ : FnScope ["_law_feed_here", "_law_many", "_law_turn", "_law_at", "_law_cell", "_law_mixed", "_law_found"] ["_law_feed_here", "_law_many"] (defScope st_drawL_) := ⟨rfl, rfl, rfl, by decide +kernel, rfl, by decide +kernel, by decide +kernel⟩
theorem ok_drawL_ {f : Addr} {fd : FuncData} (F : Fun K "_law_draw" "_law_draw" st_drawL_ f fd) (hb : Binds K fd ["_law_feed_here", "_law_many"] []) (hm : mg "_law_draw" = some (.ref f)) (m_len : mg "len" = none) : Def P w K mg base 1 "_law_draw" ["_law_feed_here", "_law_many"] drawL_ :=
  fn_a F sc_drawL_ hb hm (g := drawL_B) fun cdv A outer s H E hg hr => (asq (ass (i := 2) sc_drawL_.nd rfl (.inl rfl) (aop op_addA oAdd (aixA (hu_of hr) (av 0) astr (fun _ _ => rfl) (fun _ _ => rfl)) ai))
    (asq (asuA (hu_of hr) (av 2) (av 0) astr)
    (asq (asi (atc op_gt oGt (aixA (hu_of hr) (av 0) astr (fun _ _ => rfl) (fun _ _ => rfl)) ai (nomark _)) (asq (ass (i := 6) sc_drawL_.nd rfl (.inl rfl) (aop op_modN oMod (aixA (hu_of hr) (av 0) astr (fun _ _ => rfl) (fun _ _ => rfl)) (av 1)))
    (asq (asuA (hu_of hr) (aop op_fdivW oDiv (aixA (hu_of hr) (av 0) astr (fun _ _ => rfl) (fun _ _ => rfl)) (av 1)) (av 0) astr)
    (as1 (asr (av 6))))) asn)
    (asq (ass (i := 3) sc_drawL_.nd rfl (.inl rfl) (aixA (hu_of hr) (av 0) astr (fun _ _ => rfl) (fun _ _ => rfl)))
    (asq (asuA (hu_of hr) (aop op_addA oAdd (av 3) ai) (av 0) astr)
    (asq (ass (i := 4) sc_drawL_.nd rfl (.inl rfl) ai)
    (asq (asi (atc (op_neA hr.units) oNe (aixA (hu_of hr) (av 0) astr (fun _ _ => rfl) (fun _ _ => rfl)) (alst aan) (nomark _)) (as1 (ass (i := 4) sc_drawL_.nd rfl (.inl rfl) (aixA (hu_of hr) (aixA (hu_of hr) (av 0) astr (fun _ _ => rfl) (fun _ _ => rfl)) (aop op_modN oMod (av 3) (acb call_lenA cLen (by rfl) m_len PySem.boot_len (aac (aixA (hu_of hr) (av 0) astr (fun _ _ => rfl) (fun _ _ => rfl)) aan))) (fun _ _ => rfl) (fun _ _ => rfl)))) asn)
    (asq (asi (atw (aw (atc op_ge oGe (av 4) (aop op_pow oPow ai ai) (nomark _)) (aw1 (atc op_lt oLt (av 3) (acb call_lenA cLen (by rfl) m_len PySem.boot_len (aac (aixA (hu_of hr) (av 0) astr (fun _ _ => rfl) (fun _ _ => rfl)) aan)) (nomark _))))) (asq (asuA (hu_of hr) (aop op_fdivW oDiv (av 4) (av 1)) (av 0) astr)
    (as1 (asr (aop op_modN oMod (av 4) (av 1))))) asn)
    (asq (ass (i := 5) sc_drawL_.nd rfl (.inl rfl) (aop op_modN oMod (aop op_pow oPow (aop op_addA oAdd (aop op_addA oAdd (aop op_modN oMod (av 4) ai) (aop op_mulW oMul ai (av 2))) ai) ai) ai))
    (asq (ass (i := 5) sc_drawL_.nd rfl (.inl rfl) (aop op_modN oMod (aop op_pow oPow (aop op_addA oAdd (av 5) (aop op_mulW oMul ai (av 2))) ai) ai))
    (as1 (asr (aop op_modN oMod (aop op_fdivW oDiv (av 5) ai) (av 1))))))))))))))
def ss_netL_ : {s : Stmt // topS 23 = s} := by
  refine ⟨?l, ?h⟩
  case h =>
    conv => lhs; whnf
abbrev st_netL_ : Stmt := ss_netL_.1
abbrev sc_netL_N : List Str := ["_law_feed_here", "_law_limit", "_law_pool", "_law_names", "_law_flat", "_law_members", "_law_order", "_law_found", "_law_k", "_law_size", "_law_way", "_law_j", "_law_is_near", "_law_name"]
abbrev sc_netL_S : Scope := defScope st_netL_
theorem sc_netL_ : FnScope ["_law_feed_here", "_law_limit", "_law_pool", "_law_names", "_law_flat", "_law_members", "_law_order", "_law_found", "_law_k", "_law_size", "_law_way", "_law_j", "_law_is_near", "_law_name"] ["_law_feed_here", "_law_limit"] (defScope st_netL_) := ⟨rfl, rfl, rfl, by decide +kernel, rfl, by decide +kernel, by decide +kernel⟩
theorem ok_netL_ {f : Addr} {fd : FuncData} (F : Fun K "_law_net" "_law_net" st_netL_ f fd) (hb : Binds K fd ["_law_feed_here", "_law_limit"] []) (hm : mg "_law_net" = some (.ref f)) (d_drawL_ : Def P w K mg base 1 "_law_draw" ["_law_feed_here", "_law_many"] drawL_) (m_sorted : mg "sorted" = none) (m_tuple : mg "tuple" = none) (m_range : mg "range" = none) (m_len : mg "len" = none) (m_min : mg "min" = none) (m_max : mg "max" = none) : Def P w K mg base 2 "_law_net" ["_law_feed_here", "_law_limit"] netL_ :=
  fn_a F sc_netL_ hb hm (g := netL_B) fun cdv A outer s H E hg hr => (asq (ass (i := 2) sc_netL_.nd rfl (.inr rfl) (alst (aac astr (aac astr (aac astr (aac astr (aac astr (aac astr (aac astr (aac astr aan))))))))))
    (asq (asp2' (ps_par (i := 9) (j := 10) (by rfl) sc_netL_.nd rfl rfl (by decide) rfl rfl (aac (aop op_addA oAdd ai (acd d_drawL_ hg (hr.mono (by decide)) (by rfl) (aac (av 0) (aac (av 1) aan)))) (aac (acd d_drawL_ hg (hr.mono (by decide)) (by rfl) (aac (av 0) (aac ai aan))) aan)) (by rfl)))
    (asq (ass (i := 3) sc_netL_.nd rfl (.inr rfl) (acb (call_sortedG rfl hr.units) cSortedG (by rfl) m_sorted (by decide +kernel) (aac (alc (own := [("_law_k", 8)]) rfl sc_netL_.nd (air1 (by rfl) m_range (aac (av 9) aan)) (blkOk_by (own := [("_law_k", 8)]) (N := sc_netL_N) (sc := sc_netL_S) (by decide +kernel)) (by simp [Pat.slots, Pat.slotss]) (fun _ _ _ _ _ => (agn (i := 8) sc_netL_.nd rfl (.inl rfl))) (fun _ _ _ _ _ => ats0) (fun _ _ _ _ _ => (am PySem.F.plainAttrs_list PySem.F.slot_list_pop PySem.F.type_list_pop mt_popAt mPop tyL (av 2) (aac (acd d_drawL_ hg (hr.mono (by decide)) (by rfl) (aac (av 0) (aac (acb call_lenA cLen (by rfl) m_len PySem.boot_len (aac (av 2) aan)) aan))) aan)))) aan)))
    (asq (ass (i := 4) sc_netL_.nd rfl (.inr rfl) (acm (op_eqA hr.units) oEq (acd d_drawL_ hg (hr.mono (by decide)) (by rfl) (aac (av 0) (aac ai aan))) ai (nomark _)))
    (asq (ass (i := 5) sc_netL_.nd rfl (.inl rfl) (act call_tuple_of cTuple (by rfl) m_tuple (by decide +kernel) (aac (alc (own := [("_law_name", 13)]) rfl sc_netL_.nd (ais (av 3)) (blkOk_by (own := [("_law_name", 13)]) (N := sc_netL_N) (sc := sc_netL_S) (by decide +kernel)) (by simp [Pat.slots, Pat.slotss]) (fun _ _ _ _ _ => (agn (i := 13) sc_netL_.nd rfl (.inl rfl))) (fun _ _ _ _ _ => ats0) (fun _ _ _ _ _ => (atup (aac (av 13) (aac (aif (atv (av 4)) ai (acd d_drawL_ hg (hr.mono (by decide)) (by rfl) (aac (av 0) (aac ai aan)))) (aac (acd d_drawL_ hg (hr.mono (by decide)) (by rfl) (aac (av 0) (aac ai aan))) aan)))))) aan)))
    (asq (aslc (own := [("_law_k", 8)]) (i := 6) rfl sc_netL_.nd rfl rfl (sw_true rfl rfl rfl (by decide +kernel)) (air1 (by rfl) m_range (aac (av 9) aan)) (blkOk_by (own := [("_law_k", 8)]) (N := sc_netL_N) (sc := sc_netL_S) (by decide +kernel)) (by simp [Pat.slots, Pat.slotss]) (fun _ _ _ _ _ => (agn (i := 8) sc_netL_.nd rfl (.inl rfl))) (fun _ _ _ _ _ => ats0) (fun _ _ _ _ _ => (am PySem.F.plainAttrs_list PySem.F.slot_list_pop PySem.F.type_list_pop mt_popAt mPop tyL (av 3) (aac (acd d_drawL_ hg (hr.mono (by decide)) (by rfl) (aac (av 0) (aac (acb call_lenA cLen (by rfl) m_len PySem.boot_len (aac (av 3) aan)) aan))) aan))))
    (asq (ass (i := 7) sc_netL_.nd rfl (.inl rfl) (alst aan))
    (asq (asf PassesOwn.never rfl (air1 (by rfl) m_range (aac (av 9) aan)) (agn (i := 8) sc_netL_.nd rfl (.inl rfl)) (as1 (asf PassesOwn.never rfl (air1 (by rfl) m_range (aac (av 8) aan)) (agn (i := 11) sc_netL_.nd rfl (.inl rfl)) (asq (ass (i := 12) sc_netL_.nd rfl (.inl rfl) (aixA (hu_of hr) (alst (aac (acm (op_eqA hr.units) oEq (aop op_sub oSub (av 8) (av 11)) ai (nomark _)) (aac (aor (acm (op_eqA hr.units) oEq (aop op_sub oSub (av 8) (av 11)) ai (nomark _)) (ae1 (acm (op_eqA hr.units) oEq (aop op_sub oSub (av 8) (av 11)) (aop op_sub oSub (av 9) ai) (nomark _)))) (aac (acm (op_eqA hr.units) oEq (av 11) ai (nomark _)) (aac (acm (op_eqA hr.units) oEq (acd d_drawL_ hg (hr.mono (by decide)) (by rfl) (aac (av 0) (aac ai aan))) ai (nomark _)) (aac (acm op_lt oLt (aop op_sub oSub (av 8) (av 11)) ai (nomark _)) aan)))))) (av 10) (fun _ _ => rfl) (fun _ _ => rfl)))
    (as1 (asi (atw (aw (atv (av 12)) (aw1 (atc op_lt oLt (acb call_lenA cLen (by rfl) m_len PySem.boot_len (aac (av 7) aan)) ai (nomark _))))) (as1 (asx (am PySem.F.plainAttrs_list PySem.F.slot_list_append PySem.F.type_list_append mt_append mApp tyL (av 7) (aac (atup (aac (acb (call_minG rfl hr.units) cMinG (by rfl) m_min (by decide +kernel) (aac (aixA (hu_of hr) (av 6) (av 11) (fun _ _ => rfl) (fun _ _ => rfl)) (aac (aixA (hu_of hr) (av 6) (av 8) (fun _ _ => rfl) (fun _ _ => rfl)) aan))) (aac (acb (call_maxB rfl) cMaxB (by rfl) m_max (by decide +kernel) (aac (aixA (hu_of hr) (av 6) (av 11) (fun _ _ => rfl) (fun _ _ => rfl)) (aac (aixA (hu_of hr) (av 6) (av 8) (fun _ _ => rfl) (fun _ _ => rfl)) aan))) aan))) aan)))) asn))))))
    (as1 (asr (atup (aac (av 5) (aac (act call_tuple_of cTuple (by rfl) m_tuple (by decide +kernel) (aac (acb (call_sortedG rfl hr.units) cSortedG (by rfl) m_sorted (by decide +kernel) (aac (av 7) aan)) aan)) aan)))))))))))))
def ss_keyL_ : {s : Stmt // topS 24 = s} := by
  refine ⟨?l, ?h⟩
  case h =>
    conv => lhs; whnf
abbrev st_keyL_ : Stmt := ss_keyL_.1
theorem sc_keyL_ : FnScope ["_law_member"] ["_law_member"] (defScope st_keyL_) := ⟨rfl, rfl, rfl, by decide +kernel, rfl, by decide +kernel, by decide +kernel⟩
theorem ok_keyL_ {f : Addr} {fd : FuncData} (F : Fun K "_law_key" "_law_key" st_keyL_ f fd) (hb : Binds K fd ["_law_member"] []) (hm : mg "_law_key" = some (.ref f)) : Def P w K mg base 1 "_law_key" ["_law_member"] keyL_ :=
  fn_a F sc_keyL_ hb hm (g := keyL_B) fun cdv A outer s H E hg hr => (as1 (asr (atup (aac (aixA (hu_of hr) (av 0) ai (fun _ _ => rfl) (fun _ _ => rfl)) (aac (aixA (hu_of hr) (av 0) ai (fun _ _ => rfl) (fun _ _ => rfl)) (aac (aixA (hu_of hr) (av 0) ai (fun _ _ => rfl) (fun _ _ => rfl)) aan))))))
def ss_any_keyL_ : {s : Stmt // topS 25 = s} := by
  refine ⟨?l, ?h⟩
  case h =>
    conv => lhs; whnf
abbrev st_any_keyL_ : Stmt := ss_any_keyL_.1
theorem sc_any_keyL_ : FnScope ["_law_feed_here", "_law_net_here"] ["_law_feed_here", "_law_net_here"] (defScope st_any_keyL_) := ⟨rfl, rfl, rfl, by decide +kernel, rfl, by decide +kernel, by decide +kernel⟩
theorem ok_any_keyL_ {f : Addr} {fd : FuncData} (F : Fun K "_law_any_key" "_law_any_key" st_any_keyL_ f fd) (hb : Binds K fd ["_law_feed_here", "_law_net_here"] []) (hm : mg "_law_any_key" = some (.ref f)) (d_drawL_ : Def P w K mg base 1 "_law_draw" ["_law_feed_here", "_law_many"] drawL_) (d_keyL_ : Def P w K mg base 1 "_law_key" ["_law_member"] keyL_) (m_len : mg "len" = none) : Def P w K mg base 2 "_law_any_key" ["_law_feed_here", "_law_net_here"] any_keyL_ :=
  fn_a F sc_any_keyL_ hb hm (g := any_keyL_B) fun cdv A outer s H E hg hr => (asq (asi (atc op_gt oGt (acd d_drawL_ hg (hr.mono (by decide)) (by rfl) (aac (av 0) (aac ai aan))) ai (nomark _)) (as1 (asr (acd d_keyL_ hg (hr.mono (by decide)) (by rfl) (aac (aixA (hu_of hr) (aixA (hu_of hr) (av 1) ai (fun _ _ => rfl) (fun _ _ => rfl)) (acd d_drawL_ hg (hr.mono (by decide)) (by rfl) (aac (av 0) (aac (acb call_lenA cLen (by rfl) m_len PySem.boot_len (aac (aixA (hu_of hr) (av 1) ai (fun _ _ => rfl) (fun _ _ => rfl)) aan)) aan))) (fun _ _ => rfl) (fun _ _ => rfl)) aan)))) asn)
    (as1 (asr (atup (aac (acd d_drawL_ hg (hr.mono (by decide)) (by rfl) (aac (av 0) (aac ai aan))) (aac (acd d_drawL_ hg (hr.mono (by decide)) (by rfl) (aac (av 0) (aac ai aan))) (aac (aixA (hu_of hr) (alst (aac astr (aac astr (aac astr aan)))) (acd d_drawL_ hg (hr.mono (by decide)) (by rfl) (aac (av 0) (aac ai aan))) (fun _ _ => rfl) (fun _ _ => rfl)) aan)))))))
def ss_endsL_ : {s : Stmt // topS 26 = s} := by
  refine ⟨?l, ?h⟩
  case h =>
    conv => lhs; whnf
abbrev st_endsL_ : Stmt := ss_endsL_.1
abbrev sc_endsL_N : List Str := ["_law_wires", "_law_name", "_law_found", "_law_one", "_law_other"]
abbrev sc_endsL_S : Scope := defScope st_endsL_
theorem sc_endsL_ : FnScope ["_law_wires", "_law_name", "_law_found", "_law_one", "_law_other"] ["_law_wires", "_law_name"] (defScope st_endsL_) := ⟨rfl, rfl, rfl, by decide +kernel, rfl, by decide +kernel, by decide +kernel⟩
theorem ok_endsL_ {f : Addr} {fd : FuncData} (F : Fun K "_law_ends" "_law_ends" st_endsL_ f fd) (hb : Binds K fd ["_law_wires", "_law_name"] []) (hm : mg "_law_ends" = some (.ref f)) (m_sorted : mg "sorted" = none) : Def P w K mg base 1 "_law_ends" ["_law_wires", "_law_name"] endsL_ :=
  fn_a F sc_endsL_ hb hm (g := endsL_B) fun cdv A outer s H E hg hr => (asq (ass (i := 2) sc_endsL_.nd rfl (.inl rfl) (aop op_addA oAdd (alc (own := [("_law_one", 3), ("_law_other", 4)]) rfl sc_endsL_.nd (ais (av 0)) (blkOk_by (own := [("_law_one", 3), ("_law_other", 4)]) (N := sc_endsL_N) (sc := sc_endsL_S) (by decide +kernel)) (by simp [Pat.slots, Pat.slotss]) (fun _ _ _ _ _ => (agt rfl (agl (agn (i := 3) sc_endsL_.nd rfl (.inl rfl)) (agl (agn (i := 4) sc_endsL_.nd rfl (.inl rfl)) agl0)))) (fun _ _ _ _ _ => (pts_one (atc (op_eqA hr.units) oEq (av 4) (av 1) (nomark _)))) (fun _ _ _ _ _ => (av 3))) (alc (own := [("_law_one", 3), ("_law_other", 4)]) rfl sc_endsL_.nd (ais (av 0)) (blkOk_by (own := [("_law_one", 3), ("_law_other", 4)]) (N := sc_endsL_N) (sc := sc_endsL_S) (by decide +kernel)) (by simp [Pat.slots, Pat.slotss]) (fun _ _ _ _ _ => (agt rfl (agl (agn (i := 3) sc_endsL_.nd rfl (.inl rfl)) (agl (agn (i := 4) sc_endsL_.nd rfl (.inl rfl)) agl0)))) (fun _ _ _ _ _ => (pts_one (atc (op_eqA hr.units) oEq (av 3) (av 1) (nomark _)))) (fun _ _ _ _ _ => (av 4)))))
    (as1 (asr (acb (call_sortedG rfl hr.units) cSortedG (by rfl) m_sorted (by decide +kernel) (aac (av 2) aan)))))
def ss_stateL_ : {s : Stmt // topS 27 = s} := by
  refine ⟨?l, ?h⟩
  case h =>
    conv => lhs; whnf
abbrev st_stateL_ : Stmt := ss_stateL_.1
theorem sc_stateL_ : FnScope ["_law_feed_here", "_law_net_here", "_law_found", "_law_member", "_law_best", "_law_heard", "_law_who", "_law_end"] ["_law_feed_here", "_law_net_here"] (defScope st_stateL_) := ⟨rfl, rfl, rfl, by decide +kernel, rfl, by decide +kernel, by decide +kernel⟩
theorem ok_stateL_ {f : Addr} {fd : FuncData} (F : Fun K "_law_state" "_law_state" st_stateL_ f fd) (hb : Binds K fd ["_law_feed_here", "_law_net_here"] []) (hm : mg "_law_state" = some (.ref f)) (d_drawL_ : Def P w K mg base 1 "_law_draw" ["_law_feed_here", "_law_many"] drawL_) (d_endsL_ : Def P w K mg base 1 "_law_ends" ["_law_wires", "_law_name"] endsL_) (d_any_keyL_ : Def P w K mg base 2 "_law_any_key" ["_law_feed_here", "_law_net_here"] any_keyL_) (m_tuple : mg "tuple" = none) (m_len : mg "len" = none) : Def P w K mg base 3 "_law_state" ["_law_feed_here", "_law_net_here"] stateL_ :=
  fn_a F sc_stateL_ hb hm (g := stateL_B) fun cdv A outer s H E hg hr => (asq (ass (i := 2) sc_stateL_.nd rfl (.inl rfl) (alst aan))
    (asq (asf PassesOwn.never rfl (ais (aixA (hu_of hr) (av 1) ai (fun _ _ => rfl) (fun _ _ => rfl))) (agn (i := 3) sc_stateL_.nd rfl (.inl rfl)) (asq (asp2' (ps_par (i := 4) (j := 5) (by rfl) sc_stateL_.nd rfl rfl (by decide) rfl rfl (aac an (aac (alst aan) aan)) (by rfl)))
    (asq (asi (atc op_gt oGt (acd d_drawL_ hg (hr.mono (by decide)) (by rfl) (aac (av 0) (aac ai aan))) ai (nomark _)) (asq (ass (i := 6) sc_stateL_.nd rfl (.inl rfl) (aixA (hu_of hr) (aixA (hu_of hr) (aixA (hu_of hr) (av 1) ai (fun _ _ => rfl) (fun _ _ => rfl)) (acd d_drawL_ hg (hr.mono (by decide)) (by rfl) (aac (av 0) (aac (acb call_lenA cLen (by rfl) m_len PySem.boot_len (aac (aixA (hu_of hr) (av 1) ai (fun _ _ => rfl) (fun _ _ => rfl)) aan)) aan))) (fun _ _ => rfl) (fun _ _ => rfl)) ai (fun _ _ => rfl) (fun _ _ => rfl)))
    (asq (ass (i := 4) sc_stateL_.nd rfl (.inl rfl) (atup (aac (acd d_any_keyL_ hg (hr.mono (by decide)) (by rfl) (aac (av 0) (aac (av 1) aan))) (aac (acd d_drawL_ hg (hr.mono (by decide)) (by rfl) (aac (av 0) (aac ai aan))) (aac (av 6) aan)))))
    (as1 (asf PassesOwn.never rfl (ais (acd d_endsL_ hg (hr.mono (by decide)) (by rfl) (aac (aixA (hu_of hr) (av 1) ai (fun _ _ => rfl) (fun _ _ => rfl)) (aac (aixA (hu_of hr) (av 3) ai (fun _ _ => rfl) (fun _ _ => rfl)) aan)))) (agn (i := 7) sc_stateL_.nd rfl (.inl rfl)) (as1 (asi (atc op_gt oGt (acd d_drawL_ hg (hr.mono (by decide)) (by rfl) (aac (av 0) (aac ai aan))) ai (nomark _)) (as1 (asx (am PySem.F.plainAttrs_list PySem.F.slot_list_append PySem.F.type_list_append mt_append mApp tyL (av 5) (aac (atup (aac (av 7) (aac (acd d_any_keyL_ hg (hr.mono (by decide)) (by rfl) (aac (av 0) (aac (av 1) aan))) (aac (acd d_drawL_ hg (hr.mono (by decide)) (by rfl) (aac (av 0) (aac ai aan))) (aac (acd d_drawL_ hg (hr.mono (by decide)) (by rfl) (aac (av 0) (aac ai aan))) aan))))) aan)))) asn)))))) asn)
    (as1 (asx (am PySem.F.plainAttrs_list PySem.F.slot_list_append PySem.F.type_list_append mt_append mApp tyL (av 2) (aac (atup (aac (aixA (hu_of hr) (av 3) ai (fun _ _ => rfl) (fun _ _ => rfl)) (aac (av 4) (aac (act call_tuple_of cTuple (by rfl) m_tuple (by decide +kernel) (aac (av 5) aan)) aan)))) aan)))))))
    (as1 (asr (act call_tuple_of cTuple (by rfl) m_tuple (by decide +kernel) (aac (av 2) aan))))))
def ss_bentL_ : {s : Stmt // topS 28 = s} := by
  refine ⟨?l, ?h⟩
  case h =>
    conv => lhs; whnf
abbrev st_bentL_ : Stmt := ss_bentL_.1
theorem sc_bentL_ : FnScope ["_law_feed_here", "_law_thing", "_law_some", "_law_at", "_law_way"] ["_law_feed_here", "_law_thing"] (defScope st_bentL_) := ⟨rfl, rfl, rfl, by decide +kernel, rfl, by decide +kernel, by decide +kernel⟩
theorem ok_bentL_s {rc : FA} {kk : Nat} {f : Addr} {fd : FuncData} (F : Fun K "_law_bent" "_law_bent" st_bentL_ f fd) (hb : Binds K fd ["_law_feed_here", "_law_thing"] []) (hm : mg "_law_bent" = some (.ref f)) (d_drawL_ : Def P w K mg base 1 "_law_draw" ["_law_feed_here", "_law_many"] drawL_) (m_isinstance : mg "isinstance" = none) (m_tuple : mg "tuple" = none) (m_int : mg "int" = none) (m_list : mg "list" = none) (m_bool : mg "bool" = none) (m_len : mg "len" = none) (d_rc : Def P w K mg base (2 + kk) "_law_bent" ["_law_feed_here", "_law_thing"] rc) : Def P w K mg base (2 + kk + 1) "_law_bent" ["_law_feed_here", "_law_thing"] (runF 5 (bentL_B rc)) :=
  fn_a F sc_bentL_ hb hm (g := bentL_B rc) fun cdv A outer s H E hg hr => (asq (asi (atw (aw (atv (aisi (by rfl) m_isinstance (by rfl) m_tuple (by decide +kernel) (av 1))) (aw (atc (op_neA hr.units) oNe (av 1) (atup aan) (nomark _)) (aw1 (atc op_gt oGt (acd d_drawL_ hg (hr.mono (by omega)) (by rfl) (aac (av 0) (aac ai aan))) ai (nomark _)))))) (asq (asp2' (ps_par (i := 3) (j := 4) (by rfl) sc_bentL_.nd rfl rfl (by decide) rfl rfl (aac (acd d_drawL_ hg (hr.mono (by omega)) (by rfl) (aac (av 0) (aac (acb call_lenA cLen (by rfl) m_len PySem.boot_len (aac (av 1) aan)) aan))) (aac (acd d_drawL_ hg (hr.mono (by omega)) (by rfl) (aac (av 0) (aac ai aan))) aan)) (by rfl)))
    (asq (ass (i := 2) sc_bentL_.nd rfl (.inl rfl) (alst (aac (aop op_addT oAddT (asl sl_B oSlA (av 1) aon (aos (av 3))) (asl sl_B oSlA (av 1) (aos (aop op_addT oAddT (av 3) ai)) aon)) (aac (aop op_addT oAddT (aop op_addT oAddT (asl sl_B oSlA (av 1) aon (aos (av 3))) (asl sl_B oSlA (av 1) (aos (av 3)) (aos (aop op_addT oAddT (av 3) ai)))) (asl sl_B oSlA (av 1) (aos (av 3)) aon)) (aac (arevT (av 1)) (aac (act call_list_of cList (by rfl) m_list (by decide +kernel) (aac (av 1) aan)) aan))))))
    (asq (asi (atc op_lt oLt (av 4) ai (nomark _)) (as1 (asr (aixA (hu_of hr) (av 2) (av 4) (fun _ _ => rfl) (fun _ _ => rfl)))) asn)
    (as1 (asr (aop op_addT oAddT (aop op_addT oAddT (asl sl_B oSlA (av 1) aon (aos (av 3))) (atup (aac (acd d_rc hg (hr.mono (by omega)) (by rfl) (aac (av 0) (aac (aixA (hu_of hr) (av 1) (av 3) (fun _ _ => rfl) (fun _ _ => rfl)) aan))) aan))) (asl sl_B oSlA (av 1) (aos (aop op_addT oAddT (av 3) ai)) aon))))))) asn)
    (asq (asi (atw (aw (atv (aisi (by rfl) m_isinstance (by rfl) m_int (by decide +kernel) (av 1))) (aw (atn (atv (aisi (by rfl) m_isinstance (by rfl) m_bool (by decide +kernel) (av 1)))) (aw1 (atc op_gt oGt (acd d_drawL_ hg (hr.mono (by omega)) (by rfl) (aac (av 0) (aac ai aan))) ai (nomark _)))))) (as1 (asr (aop op_addT oAddT (av 1) (aixA (hu_of hr) (alst (aac ai (aac (aun un_neg oNeg ai) (aac ai aan)))) (acd d_drawL_ hg (hr.mono (by omega)) (by rfl) (aac (av 0) (aac ai aan))) (fun _ _ => rfl) (fun _ _ => rfl))))) asn)
    (as1 (asr (aixA (hu_of hr) (alst (aac an (aac astr (aac astr (aac astr (aac ai (aac (aun un_neg oNeg ai) (aac abl (aac abl (aac (aop op_pow oPow ai ai) (aac (atup aan) (aac (alst aan) (aac (atup (aac astr (aac astr aan))) (aac astr aan)))))))))))))) (acd d_drawL_ hg (hr.mono (by omega)) (by rfl) (aac (av 0) (aac ai aan))) (fun _ _ => rfl) (fun _ _ => rfl))))))
theorem ok_bentL_ {f : Addr} {fd : FuncData} (F : Fun K "_law_bent" "_law_bent" st_bentL_ f fd) (hb : Binds K fd ["_law_feed_here", "_law_thing"] []) (hm : mg "_law_bent" = some (.ref f)) (d_drawL_ : Def P w K mg base 1 "_law_draw" ["_law_feed_here", "_law_many"] drawL_) (m_isinstance : mg "isinstance" = none) (m_tuple : mg "tuple" = none) (m_int : mg "int" = none) (m_list : mg "list" = none) (m_bool : mg "bool" = none) (m_len : mg "len" = none) : Def P w K mg base 10 "_law_bent" ["_law_feed_here", "_law_thing"] bentL_ := by
  have z : ∀ k, Def P w K mg base (2 + k) "_law_bent" ["_law_feed_here", "_law_thing"] (bentL_n k) := fun k => by
    induction k with
    | zero => exact def_none F hb hm
    | succ k ih => exact ok_bentL_s F hb hm d_drawL_ m_isinstance m_tuple m_int m_list m_bool m_len ih
  exact z 8
def ss_is_wordL_ : {s : Stmt // topS 29 = s} := by
  refine ⟨?l, ?h⟩
  case h =>
    conv => lhs; whnf
abbrev st_is_wordL_ : Stmt := ss_is_wordL_.1
abbrev sc_is_wordL_N : List Str := ["_law_thing", "_law_sign"]
abbrev sc_is_wordL_S : Scope := defScope st_is_wordL_
theorem sc_is_wordL_ : FnScope ["_law_thing", "_law_sign"] ["_law_thing"] (defScope st_is_wordL_) := ⟨rfl, rfl, rfl, by decide +kernel, rfl, by decide +kernel, by decide +kernel⟩
theorem ok_is_wordL_ {f : Addr} {fd : FuncData} (F : Fun K "_law_is_word" "_law_is_word" st_is_wordL_ f fd) (hb : Binds K fd ["_law_thing"] []) (hm : mg "_law_is_word" = some (.ref f)) (m_isinstance : mg "isinstance" = none) (m_str : mg "str" = none) (m_len : mg "len" = none) : Def P w K mg base 1 "_law_is_word" ["_law_thing"] is_wordL_ :=
  fn_a F sc_is_wordL_ hb hm (g := is_wordL_B) fun cdv A outer s H E hg hr => (asq (asi (atw (awo (atn (atv (aisi (by rfl) m_isinstance (by rfl) m_str (by decide +kernel) (av 0)))) (awo1 (atn (atch op_le oLe op_le oLe ai (acb call_lenA cLen (by rfl) m_len PySem.boot_len (aac (av 0) aan)) ai))))) (as1 (asr abl)) asn)
    (as1 (asr (acm (op_eqA hr.units) oEq (alc (own := [("_law_sign", 1)]) rfl sc_is_wordL_.nd (aichr (av 0)) (blkOk_by (own := [("_law_sign", 1)]) (N := sc_is_wordL_N) (sc := sc_is_wordL_S) (by decide +kernel)) (by simp [Pat.slots, Pat.slotss]) (fun _ _ _ _ _ => (agn (i := 1) sc_is_wordL_.nd rfl (.inl rfl))) (fun _ _ _ _ _ => (pts_one (atc opNInT oInT (av 1) astr (by rfl)))) (fun _ _ _ _ _ => (av 1))) (alst aan) (nomark _)))))
def ss_is_fromL_ : {s : Stmt // topS 30 = s} := by
  refine ⟨?l, ?h⟩
  case h =>
    conv => lhs; whnf
abbrev st_is_fromL_ : Stmt := ss_is_fromL_.1
theorem sc_is_fromL_ : FnScope ["_law_thing"] ["_law_thing"] (defScope st_is_fromL_) := ⟨rfl, rfl, rfl, by decide +kernel, rfl, by decide +kernel, by decide +kernel⟩
theorem ok_is_fromL_ {f : Addr} {fd : FuncData} (F : Fun K "_law_is_from" "_law_is_from" st_is_fromL_ f fd) (hb : Binds K fd ["_law_thing"] []) (hm : mg "_law_is_from" = some (.ref f)) (m_isinstance : mg "isinstance" = none) (m_int : mg "int" = none) (m_bool : mg "bool" = none) : Def P w K mg base 1 "_law_is_from" ["_law_thing"] is_fromL_ :=
  fn_a F sc_is_fromL_ hb hm (g := is_fromL_B) fun cdv A outer s H E hg hr => (as1 (asr (aand (aisi (by rfl) m_isinstance (by rfl) m_int (by decide +kernel) (av 0)) (aand (anot (aisi (by rfl) m_isinstance (by rfl) m_bool (by decide +kernel) (av 0))) (ae1 (acm op_ge oGe (av 0) ai (nomark _)))))))
def ss_is_keyL_ : {s : Stmt // topS 31 = s} := by
  refine ⟨?l, ?h⟩
  case h =>
    conv => lhs; whnf
abbrev st_is_keyL_ : Stmt := ss_is_keyL_.1
theorem sc_is_keyL_ : FnScope ["_law_thing"] ["_law_thing"] (defScope st_is_keyL_) := ⟨rfl, rfl, rfl, by decide +kernel, rfl, by decide +kernel, by decide +kernel⟩
theorem ok_is_keyL_ {f : Addr} {fd : FuncData} (F : Fun K "_law_is_key" "_law_is_key" st_is_keyL_ f fd) (hb : Binds K fd ["_law_thing"] []) (hm : mg "_law_is_key" = some (.ref f)) (d_is_fromL_ : Def P w K mg base 1 "_law_is_from" ["_law_thing"] is_fromL_) (d_is_wordL_ : Def P w K mg base 1 "_law_is_word" ["_law_thing"] is_wordL_) (m_isinstance : mg "isinstance" = none) (m_tuple : mg "tuple" = none) (m_len : mg "len" = none) : Def P w K mg base 2 "_law_is_key" ["_law_thing"] is_keyL_ :=
  fn_a F sc_is_keyL_ hb hm (g := is_keyL_B) fun cdv A outer s H E hg hr => (asq (asi (atw (awo (atn (atv (aisi (by rfl) m_isinstance (by rfl) m_tuple (by decide +kernel) (av 0)))) (awo1 (atc (op_neA hr.units) oNe (acb call_lenA cLen (by rfl) m_len PySem.boot_len (aac (av 0) aan)) ai (nomark _))))) (as1 (asr abl)) asn)
    (as1 (asr (aand (acd d_is_fromL_ hg (hr.mono (by decide)) (by rfl) (aac (aixA (hu_of hr) (av 0) ai (fun _ _ => rfl) (fun _ _ => rfl)) aan)) (aand (acd d_is_fromL_ hg (hr.mono (by decide)) (by rfl) (aac (aixA (hu_of hr) (av 0) ai (fun _ _ => rfl) (fun _ _ => rfl)) aan)) (ae1 (acd d_is_wordL_ hg (hr.mono (by decide)) (by rfl) (aac (aixA (hu_of hr) (av 0) ai (fun _ _ => rfl) (fun _ _ => rfl)) aan))))))))
def ss_risesL_ : {s : Stmt // topS 32 = s} := by
  refine ⟨?l, ?h⟩
  case h =>
    conv => lhs; whnf
abbrev st_risesL_ : Stmt := ss_risesL_.1
abbrev sc_risesL_N : List Str := ["_law_things", "_law_k"]
abbrev sc_risesL_S : Scope := defScope st_risesL_
theorem sc_risesL_ : FnScope ["_law_things", "_law_k"] ["_law_things"] (defScope st_risesL_) := ⟨rfl, rfl, rfl, by decide +kernel, rfl, by decide +kernel, by decide +kernel⟩
theorem ok_risesL_ {f : Addr} {fd : FuncData} (F : Fun K "_law_rises" "_law_rises" st_risesL_ f fd) (hb : Binds K fd ["_law_things"] []) (hm : mg "_law_rises" = some (.ref f)) (m_range : mg "range" = none) (m_len : mg "len" = none) : Def P w K mg base 1 "_law_rises" ["_law_things"] risesL_ :=
  fn_a F sc_risesL_ hb hm (g := risesL_B) fun cdv A outer s H E hg hr => (as1 (asr (acm (op_eqA hr.units) oEq (alc (own := [("_law_k", 1)]) rfl sc_risesL_.nd (air2 (by rfl) m_range (aac ai (aac (acb call_lenA cLen (by rfl) m_len PySem.boot_len (aac (av 0) aan)) aan))) (blkOk_by (own := [("_law_k", 1)]) (N := sc_risesL_N) (sc := sc_risesL_S) (by decide +kernel)) (by simp [Pat.slots, Pat.slotss]) (fun _ _ _ _ _ => (agn (i := 1) sc_risesL_.nd rfl (.inl rfl))) (fun _ _ _ _ _ => (pts_one (atc (op_geD hr.units) oGeD (aixA (hu_of hr) (av 0) (aop op_sub oSub (av 1) ai) (fun _ _ => rfl) (fun _ _ => rfl)) (aixA (hu_of hr) (av 0) (av 1) (fun _ _ => rfl) (fun _ _ => rfl)) (nomark _)))) (fun _ _ _ _ _ => (av 1))) (alst aan) (nomark _))))
def ss_is_netL_ : {s : Stmt // topS 33 = s} := by
  refine ⟨?l, ?h⟩
  case h =>
    conv => lhs; whnf
abbrev st_is_netL_ : Stmt := ss_is_netL_.1
abbrev sc_is_netL_N : List Str := ["_law_thing", "_law_one", "_law_names", "_law_wire"]
abbrev sc_is_netL_S : Scope := defScope st_is_netL_
theorem sc_is_netL_ : FnScope ["_law_thing", "_law_one", "_law_names", "_law_wire"] ["_law_thing"] (defScope st_is_netL_) := ⟨rfl, rfl, rfl, by decide +kernel, rfl, by decide +kernel, by decide +kernel⟩
theorem ok_is_netL_ {f : Addr} {fd : FuncData} (F : Fun K "_law_is_net" "_law_is_net" st_is_netL_ f fd) (hb : Binds K fd ["_law_thing"] []) (hm : mg "_law_is_net" = some (.ref f)) (d_risesL_ : Def P w K mg base 1 "_law_rises" ["_law_things"] risesL_) (d_is_keyL_ : Def P w K mg base 2 "_law_is_key" ["_law_thing"] is_keyL_) (m_isinstance : mg "isinstance" = none) (m_tuple : mg "tuple" = none) (m_len : mg "len" = none) : Def P w K mg base 3 "_law_is_net" ["_law_thing"] is_netL_ :=
  fn_a F sc_is_netL_ hb hm (g := is_netL_B) fun cdv A outer s H E hg hr => (asq (asi (atw (awo (atn (atv (aisi (by rfl) m_isinstance (by rfl) m_tuple (by decide +kernel) (av 0)))) (awo (atc (op_neA hr.units) oNe (acb call_lenA cLen (by rfl) m_len PySem.boot_len (aac (av 0) aan)) ai (nomark _)) (awo1 (atn (atv (aisi (by rfl) m_isinstance (by rfl) m_tuple (by decide +kernel) (aixA (hu_of hr) (av 0) ai (fun _ _ => rfl) (fun _ _ => rfl))))))))) (as1 (asr abl)) asn)
    (asq (asf PassesOwn.never rfl (ais (aixA (hu_of hr) (av 0) ai (fun _ _ => rfl) (fun _ _ => rfl))) (agn (i := 1) sc_is_netL_.nd rfl (.inl rfl)) (as1 (asi (atw (awo (atn (atv (aisi (by rfl) m_isinstance (by rfl) m_tuple (by decide +kernel) (av 1)))) (awo (atc (op_neA hr.units) oNe (acb call_lenA cLen (by rfl) m_len PySem.boot_len (aac (av 1) aan)) ai (nomark _)) (awo1 (atn (atv (acd d_is_keyL_ hg (hr.mono (by decide)) (by rfl) (aac (aop op_addT oAddT (asl sl_B oSlA (av 1) (aos ai) aon) (asl sl_B oSlA (av 1) aon (aos ai))) aan)))))))) (as1 (asr abl)) asn)))
    (asq (aslc (own := [("_law_one", 1)]) (i := 2) rfl sc_is_netL_.nd rfl rfl (sw_true rfl rfl rfl (by decide +kernel)) (ais (aixA (hu_of hr) (av 0) ai (fun _ _ => rfl) (fun _ _ => rfl))) (blkOk_by (own := [("_law_one", 1)]) (N := sc_is_netL_N) (sc := sc_is_netL_S) (by decide +kernel)) (by simp [Pat.slots, Pat.slotss]) (fun _ _ _ _ _ => (agn (i := 1) sc_is_netL_.nd rfl (.inl rfl))) (fun _ _ _ _ _ => ats0) (fun _ _ _ _ _ => (aixA (hu_of hr) (av 1) ai (fun _ _ => rfl) (fun _ _ => rfl))))
    (asq (asi (atw (awo (atn (atv (acd d_risesL_ hg (hr.mono (by decide)) (by rfl) (aac (av 2) aan)))) (awo1 (atn (atv (aisi (by rfl) m_isinstance (by rfl) m_tuple (by decide +kernel) (aixA (hu_of hr) (av 0) ai (fun _ _ => rfl) (fun _ _ => rfl)))))))) (as1 (asr abl)) asn)
    (asq (asf PassesOwn.never rfl (ais (aixA (hu_of hr) (av 0) ai (fun _ _ => rfl) (fun _ _ => rfl))) (agn (i := 3) sc_is_netL_.nd rfl (.inl rfl)) (asq (asi (atw (awo (atn (atv (aisi (by rfl) m_isinstance (by rfl) m_tuple (by decide +kernel) (av 3)))) (awo (atc (op_neA hr.units) oNe (acb call_lenA cLen (by rfl) m_len PySem.boot_len (aac (av 3) aan)) ai (nomark _)) (awo (atc (op_notInD (hu65 hr)) oNInD (aixA (hu_of hr) (av 3) ai (fun _ _ => rfl) (fun _ _ => rfl)) (av 2) (by rfl)) (awo1 (atc (op_notInD (hu65 hr)) oNInD (aixA (hu_of hr) (av 3) ai (fun _ _ => rfl) (fun _ _ => rfl)) (av 2) (by rfl))))))) (as1 (asr abl)) asn)
    (as1 (asi (atc (op_geD hr.units) oGeD (aixA (hu_of hr) (av 3) ai (fun _ _ => rfl) (fun _ _ => rfl)) (aixA (hu_of hr) (av 3) ai (fun _ _ => rfl) (fun _ _ => rfl)) (nomark _)) (as1 (asr abl)) asn))))
    (as1 (asr (acd d_risesL_ hg (hr.mono (by decide)) (by rfl) (aac (aixA (hu_of hr) (av 0) ai (fun _ _ => rfl) (fun _ _ => rfl)) aan)))))))))
def ss_is_rowL_ : {s : Stmt // topS 34 = s} := by
  refine ⟨?l, ?h⟩
  case h =>
    conv => lhs; whnf
abbrev st_is_rowL_ : Stmt := ss_is_rowL_.1
abbrev sc_is_rowL_N : List Str := ["_law_net_here", "_law_member", "_law_thing", "_law_best", "_law_one"]
abbrev sc_is_rowL_S : Scope := defScope st_is_rowL_
theorem sc_is_rowL_ : FnScope ["_law_net_here", "_law_member", "_law_thing", "_law_best", "_law_one"] ["_law_net_here", "_law_member", "_law_thing"] (defScope st_is_rowL_) := ⟨rfl, rfl, rfl, by decide +kernel, rfl, by decide +kernel, by decide +kernel⟩
theorem ok_is_rowL_ {f : Addr} {fd : FuncData} (F : Fun K "_law_is_row" "_law_is_row" st_is_rowL_ f fd) (hb : Binds K fd ["_law_net_here", "_law_member", "_law_thing"] []) (hm : mg "_law_is_row" = some (.ref f)) (d_risesL_ : Def P w K mg base 1 "_law_rises" ["_law_things"] risesL_) (d_is_keyL_ : Def P w K mg base 2 "_law_is_key" ["_law_thing"] is_keyL_) (d_is_fromL_ : Def P w K mg base 1 "_law_is_from" ["_law_thing"] is_fromL_) (d_endsL_ : Def P w K mg base 1 "_law_ends" ["_law_wires", "_law_name"] endsL_) (m_isinstance : mg "isinstance" = none) (m_tuple : mg "tuple" = none) (m_len : mg "len" = none) : Def P w K mg base 3 "_law_is_row" ["_law_net_here", "_law_member", "_law_thing"] is_rowL_ :=
  fn_a F sc_is_rowL_ hb hm (g := is_rowL_B) fun cdv A outer s H E hg hr => (asq (asi (atw (awo (atn (atv (aisi (by rfl) m_isinstance (by rfl) m_tuple (by decide +kernel) (av 2)))) (awo (atc (op_neA hr.units) oNe (acb call_lenA cLen (by rfl) m_len PySem.boot_len (aac (av 2) aan)) ai (nomark _)) (awo (atc (op_neA hr.units) oNe (aixA (hu_of hr) (av 2) ai (fun _ _ => rfl) (fun _ _ => rfl)) (aixA (hu_of hr) (av 1) ai (fun _ _ => rfl) (fun _ _ => rfl)) (nomark _)) (awo1 (atn (atv (aisi (by rfl) m_isinstance (by rfl) m_tuple (by decide +kernel) (aixA (hu_of hr) (av 2) ai (fun _ _ => rfl) (fun _ _ => rfl)))))))))) (as1 (asr abl)) asn)
    (asq (asi (atc op_isN oIs (aixA (hu_of hr) (av 2) ai (fun _ _ => rfl) (fun _ _ => rfl)) an (nomark _)) (as1 (asr (acm (op_eqA hr.units) oEq (aixA (hu_of hr) (av 2) ai (fun _ _ => rfl) (fun _ _ => rfl)) (atup aan) (nomark _)))) asn)
    (asq (ass (i := 3) sc_is_rowL_.nd rfl (.inl rfl) (aixA (hu_of hr) (av 2) ai (fun _ _ => rfl) (fun _ _ => rfl)))
    (asq (asi (atw (awo (atn (atv (aisi (by rfl) m_isinstance (by rfl) m_tuple (by decide +kernel) (av 3)))) (awo (atc (op_neA hr.units) oNe (acb call_lenA cLen (by rfl) m_len PySem.boot_len (aac (av 3) aan)) ai (nomark _)) (awo (atn (atv (acd d_is_keyL_ hg (hr.mono (by decide)) (by rfl) (aac (aixA (hu_of hr) (av 3) ai (fun _ _ => rfl) (fun _ _ => rfl)) aan)))) (awo1 (atn (atv (acd d_is_fromL_ hg (hr.mono (by decide)) (by rfl) (aac (aixA (hu_of hr) (av 3) ai (fun _ _ => rfl) (fun _ _ => rfl)) aan))))))))) (as1 (asr abl)) asn)
    (asq (asi (atc (op_notInD (hu65 hr)) oNInD (aixA (hu_of hr) (av 3) ai (fun _ _ => rfl) (fun _ _ => rfl)) (alc (own := [("_law_one", 4)]) rfl sc_is_rowL_.nd (ais (aixA (hu_of hr) (av 0) ai (fun _ _ => rfl) (fun _ _ => rfl))) (blkOk_by (own := [("_law_one", 4)]) (N := sc_is_rowL_N) (sc := sc_is_rowL_S) (by decide +kernel)) (by simp [Pat.slots, Pat.slotss]) (fun _ _ _ _ _ => (agn (i := 4) sc_is_rowL_.nd rfl (.inl rfl))) (fun _ _ _ _ _ => ats0) (fun _ _ _ _ _ => (aixA (hu_of hr) (av 4) ai (fun _ _ => rfl) (fun _ _ => rfl)))) (by rfl)) (as1 (asr abl)) asn)
    (asq (asf PassesOwn.never rfl (ais (aixA (hu_of hr) (av 2) ai (fun _ _ => rfl) (fun _ _ => rfl))) (agn (i := 4) sc_is_rowL_.nd rfl (.inl rfl)) (asq (asi (atw (awo (atn (atv (aisi (by rfl) m_isinstance (by rfl) m_tuple (by decide +kernel) (av 4)))) (awo (atc (op_neA hr.units) oNe (acb call_lenA cLen (by rfl) m_len PySem.boot_len (aac (av 4) aan)) ai (nomark _)) (awo1 (atc (op_notInD (hu65 hr)) oNInD (aixA (hu_of hr) (av 4) ai (fun _ _ => rfl) (fun _ _ => rfl)) (acd d_endsL_ hg (hr.mono (by decide)) (by rfl) (aac (aixA (hu_of hr) (av 0) ai (fun _ _ => rfl) (fun _ _ => rfl)) (aac (aixA (hu_of hr) (av 1) ai (fun _ _ => rfl) (fun _ _ => rfl)) aan))) (by rfl)))))) (as1 (asr abl)) asn)
    (as1 (asi (atw (awo (atn (atv (acd d_is_keyL_ hg (hr.mono (by decide)) (by rfl) (aac (aixA (hu_of hr) (av 4) ai (fun _ _ => rfl) (fun _ _ => rfl)) aan)))) (awo (atn (atv (acd d_is_fromL_ hg (hr.mono (by decide)) (by rfl) (aac (aixA (hu_of hr) (av 4) ai (fun _ _ => rfl) (fun _ _ => rfl)) aan)))) (awo1 (atn (atv (acd d_is_fromL_ hg (hr.mono (by decide)) (by rfl) (aac (aixA (hu_of hr) (av 4) ai (fun _ _ => rfl) (fun _ _ => rfl)) aan)))))))) (as1 (asr abl)) asn))))
    (as1 (asr (acd d_risesL_ hg (hr.mono (by decide)) (by rfl) (aac (alc (own := [("_law_one", 4)]) rfl sc_is_rowL_.nd (ais (aixA (hu_of hr) (av 2) ai (fun _ _ => rfl) (fun _ _ => rfl))) (blkOk_by (own := [("_law_one", 4)]) (N := sc_is_rowL_N) (sc := sc_is_rowL_S) (by decide +kernel)) (by simp [Pat.slots, Pat.slotss]) (fun _ _ _ _ _ => (agn (i := 4) sc_is_rowL_.nd rfl (.inl rfl))) (fun _ _ _ _ _ => ats0) (fun _ _ _ _ _ => (aixA (hu_of hr) (av 4) ai (fun _ _ => rfl) (fun _ _ => rfl)))) aan))))))))))
def ss_is_stateL_ : {s : Stmt // topS 35 = s} := by
  refine ⟨?l, ?h⟩
  case h =>
    conv => lhs; whnf
abbrev st_is_stateL_ : Stmt := ss_is_stateL_.1
abbrev sc_is_stateL_N : List Str := ["_law_net_here", "_law_thing", "_law_k"]
abbrev sc_is_stateL_S : Scope := defScope st_is_stateL_
theorem sc_is_stateL_ : FnScope ["_law_net_here", "_law_thing", "_law_k"] ["_law_net_here", "_law_thing"] (defScope st_is_stateL_) := ⟨rfl, rfl, rfl, by decide +kernel, rfl, by decide +kernel, by decide +kernel⟩
theorem ok_is_stateL_ {f : Addr} {fd : FuncData} (F : Fun K "_law_is_state" "_law_is_state" st_is_stateL_ f fd) (hb : Binds K fd ["_law_net_here", "_law_thing"] []) (hm : mg "_law_is_state" = some (.ref f)) (d_is_rowL_ : Def P w K mg base 3 "_law_is_row" ["_law_net_here", "_law_member", "_law_thing"] is_rowL_) (m_isinstance : mg "isinstance" = none) (m_tuple : mg "tuple" = none) (m_len : mg "len" = none) (m_range : mg "range" = none) : Def P w K mg base 4 "_law_is_state" ["_law_net_here", "_law_thing"] is_stateL_ :=
  fn_a F sc_is_stateL_ hb hm (g := is_stateL_B) fun cdv A outer s H E hg hr => (asq (asi (atw (awo (atn (atv (aisi (by rfl) m_isinstance (by rfl) m_tuple (by decide +kernel) (av 1)))) (awo1 (atc (op_neA hr.units) oNe (acb call_lenA cLen (by rfl) m_len PySem.boot_len (aac (av 1) aan)) (acb call_lenA cLen (by rfl) m_len PySem.boot_len (aac (aixA (hu_of hr) (av 0) ai (fun _ _ => rfl) (fun _ _ => rfl)) aan)) (nomark _))))) (as1 (asr abl)) asn)
    (as1 (asr (acm (op_eqA hr.units) oEq (alc (own := [("_law_k", 2)]) rfl sc_is_stateL_.nd (air1 (by rfl) m_range (aac (acb call_lenA cLen (by rfl) m_len PySem.boot_len (aac (av 1) aan)) aan)) (blkOk_by (own := [("_law_k", 2)]) (N := sc_is_stateL_N) (sc := sc_is_stateL_S) (by decide +kernel)) (by simp [Pat.slots, Pat.slotss]) (fun _ _ _ _ _ => (agn (i := 2) sc_is_stateL_.nd rfl (.inl rfl))) (fun _ _ _ _ _ => (pts_one (atn (atv (acd d_is_rowL_ hg (hr.mono (by decide)) (by rfl) (aac (av 0) (aac (aixA (hu_of hr) (aixA (hu_of hr) (av 0) ai (fun _ _ => rfl) (fun _ _ => rfl)) (av 2) (fun _ _ => rfl) (fun _ _ => rfl)) (aac (aixA (hu_of hr) (av 1) (av 2) (fun _ _ => rfl) (fun _ _ => rfl)) aan)))))))) (fun _ _ _ _ _ => (av 2))) (alst aan) (nomark _)))))
def ss_law_ : {s : Stmt // topS 36 = s} := by
  refine ⟨?l, ?h⟩
  case h =>
    conv => lhs; whnf
abbrev st_law_ : Stmt := ss_law_.1
abbrev sc_law_N : List Str := ["_law_script", "_law_feed_here", "_law_letters", "_law_far", "_law_things", "_law_lap", "_law_net_here", "_law_state_here", "_law_k", "_law_states", "_law_thing", "_law_kept"]
abbrev sc_law_S : Scope := defScope st_law_
theorem sc_law_ : FnScope ["_law_script", "_law_feed_here", "_law_letters", "_law_far", "_law_things", "_law_lap", "_law_net_here", "_law_state_here", "_law_k", "_law_states", "_law_thing", "_law_kept"] ["_law_script"] (defScope st_law_) := ⟨rfl, rfl, rfl, by decide +kernel, rfl, by decide +kernel, by decide +kernel⟩
theorem ok_law_ {f : Addr} {fd : FuncData} (F : Fun K "law" "law" st_law_ f fd) (d_feedL_ : Def P w K mg base 1 "_law_feed" ["_law_script"] feedL_) (d_netL_ : Def P w K mg base 2 "_law_net" ["_law_feed_here", "_law_limit"] netL_) (d_stateL_ : Def P w K mg base 3 "_law_state" ["_law_feed_here", "_law_net_here"] stateL_) (d_bentL_ : Def P w K mg base 10 "_law_bent" ["_law_feed_here", "_law_thing"] bentL_) (d_drawL_ : Def P w K mg base 1 "_law_draw" ["_law_feed_here", "_law_many"] drawL_) (d_is_net_ : Def P w K mg base 5 "is_net" ["thing"] is_net_) (d_is_netL_ : Def P w K mg base 3 "_law_is_net" ["_law_thing"] is_netL_) (d_is_state_ : Def P w K mg base 7 "is_state" ["net", "thing"] is_state_) (d_is_stateL_ : Def P w K mg base 4 "_law_is_state" ["_law_net_here", "_law_thing"] is_stateL_) (m_tuple : mg "tuple" = none) (m_range : mg "range" = none) (m_list : mg "list" = none) (m_repr : mg "repr" = none) : FnG P w K mg base 11 f fd ["_law_script"] (spA K 1 law_) :=
  fn_aG F sc_law_ (g := law_B) fun cdv A outer s H E hg hr => (asq (ass (i := 1) sc_law_.nd rfl (.inl rfl) (acd d_feedL_ hg (hr.mono (by decide)) (by rfl) (aac (av 0) aan)))
    (asq (ass (i := 2) sc_law_.nd rfl (.inr rfl) astr)
    (asq (ass (i := 3) sc_law_.nd rfl (.inl rfl) (act call_tuple_of cTuple (by rfl) m_tuple (by decide +kernel) (aac (alc (own := [("_law_k", 8)]) rfl sc_law_.nd (air1 (by rfl) m_range (aac ai aan)) (blkOk_by (own := [("_law_k", 8)]) (N := sc_law_N) (sc := sc_law_S) (by decide +kernel)) (by simp [Pat.slots, Pat.slotss]) (fun _ _ _ _ _ => (agn (i := 8) sc_law_.nd rfl (.inl rfl))) (fun _ _ _ _ _ => ats0) (fun _ _ _ _ _ => (atup (aac (aop op_addT oAddT (aop op_addT oAddT astr (aixA (hu_of hr) (av 2) (aop op_fdivW oDiv (av 8) ai) (fun _ _ => rfl) (fun _ _ => rfl))) (aixA (hu_of hr) (av 2) (aop op_modN oMod (av 8) ai) (fun _ _ => rfl) (fun _ _ => rfl))) (aac (av 8) (aac (aop op_pow oPow ai ai) aan)))))) aan)))
    (asq (ass (i := 4) sc_law_.nd rfl (.inl rfl) (alst (aac (atup (aac (av 3) (aac (atup aan) aan))) (aac (atup (aac (av 3) (aac (atup (aac (atup (aac (aixA (hu_of hr) (aixA (hu_of hr) (av 3) ai (fun _ _ => rfl) (fun _ _ => rfl)) ai (fun _ _ => rfl) (fun _ _ => rfl)) (aac (aixA (hu_of hr) (aixA (hu_of hr) (av 3) ai (fun _ _ => rfl) (fun _ _ => rfl)) ai (fun _ _ => rfl) (fun _ _ => rfl)) aan))) aan)) aan))) (aac (atup (aac (arevT (av 3)) (aac (atup aan) aan))) (aac (atup (aac (atup aan) (aac (atup aan) aan))) (aac (atup (aac (atup aan) (aac (atup (aac (atup (aac astr (aac astr aan))) aan)) aan))) (aac an (aac (atup aan) aan)))))))))
    (asq (asf PassesOwn.never rfl (air1 (by rfl) m_range (aac ai aan)) (agn (i := 5) sc_law_.nd rfl (.inl rfl)) (asq (ass (i := 6) sc_law_.nd rfl (.inl rfl) (acd d_netL_ hg (hr.mono (by decide)) (by rfl) (aac (av 1) (aac ai aan))))
    (asq (ass (i := 7) sc_law_.nd rfl (.inl rfl) (acd d_stateL_ hg (hr.mono (by decide)) (by rfl) (aac (av 1) (aac (av 6) aan))))
    (asq (ass (i := 4) sc_law_.nd rfl (.inl rfl) (aop op_addA oAdd (av 4) (alst (aac (av 6) (aac (act call_list_of cList (by rfl) m_list (by decide +kernel) (aac (av 6) aan)) (aac (arevT (av 6)) (aac (asl sl_B oSlA (av 6) aon (aos ai)) (aac (aop op_addT oAddT (av 6) (atup (aac (atup aan) aan))) aan))))))))
    (asq (asf PassesOwn.never rfl (air1 (by rfl) m_range (aac ai aan)) (agn (i := 8) sc_law_.nd rfl (.inl rfl)) (asq (ass (i := 10) sc_law_.nd rfl (.inl rfl) (acd d_bentL_ hg (hr.mono (by decide)) (by rfl) (aac (av 1) (aac (av 6) aan))))
    (as1 (asx (am PySem.F.plainAttrs_list PySem.F.slot_list_append PySem.F.type_list_append mt_append mApp tyL (av 4) (aac (aif (atc (op_eqA hr.units) oEq (acd d_drawL_ hg (hr.mono (by decide)) (by rfl) (aac (av 1) (aac ai aan))) ai (nomark _)) (acd d_bentL_ hg (hr.mono (by decide)) (by rfl) (aac (av 1) (aac (av 10) aan))) (av 10)) aan))))))
    (asq (ass (i := 9) sc_law_.nd rfl (.inl rfl) (alst (aac (av 7) (aac (asl sl_B oSlA (av 7) aon (aos (aun un_neg oNeg ai))) (aac (aop op_addT oAddT (av 7) (asl sl_B oSlA (av 7) (aos (aun un_neg oNeg ai)) aon)) (aac (act call_list_of cList (by rfl) m_list (by decide +kernel) (aac (av 7) aan)) (aac (acd d_stateL_ hg (hr.mono (by decide)) (by rfl) (aac (av 1) (aac (acd d_netL_ hg (hr.mono (by decide)) (by rfl) (aac (av 1) (aac ai aan))) aan))) (aac (atup aan) (aac an aan)))))))))
    (asq (asf PassesOwn.never rfl (air1 (by rfl) m_range (aac ai aan)) (agn (i := 8) sc_law_.nd rfl (.inl rfl)) (asq (ass (i := 10) sc_law_.nd rfl (.inl rfl) (acd d_bentL_ hg (hr.mono (by decide)) (by rfl) (aac (av 1) (aac (av 7) aan))))
    (as1 (asx (am PySem.F.plainAttrs_list PySem.F.slot_list_append PySem.F.type_list_append mt_append mApp tyL (av 9) (aac (aif (atc (op_eqA hr.units) oEq (acd d_drawL_ hg (hr.mono (by decide)) (by rfl) (aac (av 1) (aac ai aan))) ai (nomark _)) (acd d_bentL_ hg (hr.mono (by decide)) (by rfl) (aac (av 1) (aac (av 10) aan))) (av 10)) aan))))))
    (asq (asf PassesOwn.never rfl (ais (av 4)) (agn (i := 10) sc_law_.nd rfl (.inl rfl)) (asq (ass (i := 11) sc_law_.nd rfl (.inl rfl) (acb (call_reprA hg hr.units) cRepr (by rfl) m_repr boot_repr (aac (av 10) aan)))
    (as1 (asi (atw (awo (atc (op_neA hr.units) oNe (acb (call_reprA hg hr.units) cRepr (by rfl) m_repr boot_repr (aac (acd d_is_net_ hg (hr.mono (by decide)) (by rfl) (aac (av 10) aan)) aan)) (acb (call_reprA hg hr.units) cRepr (by rfl) m_repr boot_repr (aac (acd d_is_netL_ hg (hr.mono (by decide)) (by rfl) (aac (av 10) aan)) aan)) (nomark _)) (awo1 (atc (op_neA hr.units) oNe (acb (call_reprA hg hr.units) cRepr (by rfl) m_repr boot_repr (aac (av 10) aan)) (av 11) (nomark _))))) (as1 (asr abl)) asn))))
    (asq (asf PassesOwn.never rfl (ais (av 9)) (agn (i := 10) sc_law_.nd rfl (.inl rfl)) (asq (ass (i := 11) sc_law_.nd rfl (.inl rfl) (acb (call_reprA hg hr.units) cRepr (by rfl) m_repr boot_repr (aac (av 10) aan)))
    (as1 (asi (atw (awo (atc (op_neA hr.units) oNe (acb (call_reprA hg hr.units) cRepr (by rfl) m_repr boot_repr (aac (acd d_is_state_ hg (hr.mono (by decide)) (by rfl) (aac (av 6) (aac (av 10) aan))) aan)) (acb (call_reprA hg hr.units) cRepr (by rfl) m_repr boot_repr (aac (acd d_is_stateL_ hg (hr.mono (by decide)) (by rfl) (aac (av 6) (aac (av 10) aan))) aan)) (nomark _)) (awo1 (atc (op_neA hr.units) oNe (acb (call_reprA hg hr.units) cRepr (by rfl) m_repr boot_repr (aac (av 10) aan)) (av 11) (nomark _))))) (as1 (asr abl)) asn))))
    (as1 (ass (i := 4) sc_law_.nd rfl (.inl rfl) (alst aan))))))))))))
    (as1 (asr abl)))))))
end
end K55
namespace AL
open PySem PySem.Spec PyProof.Rows L2 G Th
end AL
namespace Fr
/-- a parted by b, in the one way -/
def mk (a b : Int) : Int × Int :=
  if b < 0 then ((-a) / ((Int.gcd a b : Nat) : Int), (-b) / ((Int.gcd a b : Nat) : Int)) else (a / ((Int.gcd a b : Nat) : Int), b / ((Int.gcd a b : Nat) : Int))
theorem gcd_pos {a b : Int} (h : b ≠ 0) : 0 < Int.gcd a b := Int.gcd_pos_of_ne_zero_right a h
theorem core {a b : Int} (h : 0 < b) : ∃ x y : Int, a / ((Int.gcd a b : Nat) : Int) = x ∧ b / ((Int.gcd a b : Nat) : Int) = y ∧ a = x * ((Int.gcd a b : Nat) : Int) ∧ b = y * ((Int.gcd a b : Nat) : Int) ∧ 0 < y ∧ Int.gcd x y = 1 := by
  have g0 : 0 < Int.gcd a b := gcd_pos (by omega)
  have gi : (0 : Int) < ((Int.gcd a b : Nat) : Int) := by omega
  have ea : a / ((Int.gcd a b : Nat) : Int) * ((Int.gcd a b : Nat) : Int) = a := Int.ediv_mul_cancel (Int.gcd_dvd_left ..)
  have eb : b / ((Int.gcd a b : Nat) : Int) * ((Int.gcd a b : Nat) : Int) = b := Int.ediv_mul_cancel (Int.gcd_dvd_right ..)
  refine ⟨_, _, rfl, rfl, ea.symm, eb.symm, ?_, ?_⟩
  · have : 0 < b / ((Int.gcd a b : Nat) : Int) * ((Int.gcd a b : Nat) : Int) := by rw [eb]; exact h
    exact Int.pos_of_mul_pos_left this gi
  · rw [Int.gcd_ediv_gcd_ediv_gcd g0]
theorem mk_all {a b : Int} (h : b ≠ 0) : ∃ x y : Int, mk a b = (x, y) ∧ 0 < y ∧ Int.gcd x y = 1 ∧ x * b = a * y ∧ x.natAbs ≤ a.natAbs ∧ y.natAbs ≤ b.natAbs := by
  have key : ∀ {a b : Int}, 0 < b → ∃ x y : Int, (a / ((Int.gcd a b : Nat) : Int), b / ((Int.gcd a b : Nat) : Int)) = (x, y) ∧ 0 < y ∧ Int.gcd x y = 1 ∧ x * b = a * y ∧ x.natAbs ≤ a.natAbs ∧ y.natAbs ≤ b.natAbs := by
    intro a b h
    obtain ⟨x, y, ex, ey, ea, eb, hy, hg⟩ := core (a := a) h
    have g0 : 0 < Int.gcd a b := gcd_pos (by omega)
    refine ⟨x, y, by rw [ex, ey], hy, hg, ?_, ?_, ?_⟩
    · generalize ((Int.gcd a b : Nat) : Int) = g at *
      subst ea eb
      rw [Int.mul_comm y g, ← Int.mul_assoc]
    · have := congrArg Int.natAbs ea
      rw [Int.natAbs_mul, Int.natAbs_natCast] at this
      rw [this]
      exact Nat.le_mul_of_pos_right _ g0
    · have := congrArg Int.natAbs eb
      rw [Int.natAbs_mul, Int.natAbs_natCast] at this
      rw [this]
      exact Nat.le_mul_of_pos_right _ g0
  unfold mk
  by_cases hb : b < 0
  · rw [if_pos hb]
    obtain ⟨x, y, e, hy, hg, hc, h1, h2⟩ := key (a := -a) (b := -b) (by omega)
    rw [Int.neg_gcd, Int.gcd_neg] at e
    refine ⟨x, y, e, hy, hg, ?_, by simpa using h1, by simpa using h2⟩
    rw [Int.mul_neg, Int.neg_mul] at hc
    exact Int.neg_inj.mp hc
  · rw [if_neg hb]
    exact key (by omega)
theorem uniq {x y u v : Int} (hy : 0 < y) (hv : 0 < v) (g : Int.gcd x y = 1) (g' : Int.gcd u v = 1) (e : x * v = u * y) : (x, y) = (u, v) := by
  have en : x.natAbs * v.natAbs = u.natAbs * y.natAbs := by
    have := congrArg Int.natAbs e
    rwa [Int.natAbs_mul, Int.natAbs_mul] at this
  have c1 : Nat.Coprime y.natAbs x.natAbs := by
    have : Nat.gcd x.natAbs y.natAbs = 1 := g
    exact Nat.Coprime.symm this
  have c2 : Nat.Coprime v.natAbs u.natAbs := by
    have : Nat.gcd u.natAbs v.natAbs = 1 := g'
    exact Nat.Coprime.symm this
  have d1 : y.natAbs ∣ v.natAbs := c1.dvd_of_dvd_mul_left (by rw [en]; exact Nat.dvd_mul_left _ _)
  have d2 : v.natAbs ∣ y.natAbs := c2.dvd_of_dvd_mul_left (by rw [← en]; exact Nat.dvd_mul_left _ _)
  have eyv : y.natAbs = v.natAbs := Nat.dvd_antisymm d1 d2
  have eq : y = v := by omega
  subst eq
  have ex : x = u := Int.eq_of_mul_eq_mul_right (by omega) e
  rw [ex]
theorem mk_eq {a b c d : Int} (hb : b ≠ 0) (hd : d ≠ 0) (e : a * d = c * b) : mk a b = mk c d := by
  obtain ⟨x, y, e1, hy, hg, hc, _, _⟩ := mk_all (a := a) hb
  obtain ⟨u, v, e2, hv, hg', hc', _, _⟩ := mk_all (a := c) hd
  rw [e1, e2]
  refine uniq hy hv hg hg' ?_
  have h1 : (x * v) * (b * d) = (u * y) * (b * d) := by
    calc (x * v) * (b * d) = (x * b) * (v * d) := by ac_rfl
      _ = (a * y) * (v * d) := by rw [hc]
      _ = (a * d) * (y * v) := by ac_rfl
      _ = (c * b) * (y * v) := by rw [e]
      _ = (c * v) * (y * b) := by ac_rfl
      _ = (u * d) * (y * b) := by rw [hc']
      _ = (u * y) * (b * d) := by ac_rfl
  exact Int.eq_of_mul_eq_mul_right (Int.mul_ne_zero hb hd) h1
theorem mk_self {a b : Int} (hb : 0 < b) (g : Int.gcd a b = 1) : mk a b = (a, b) := by
  unfold mk
  rw [if_neg (by omega), g]
  simp
/-- a FRACTION of at most n bits -/
structure Ok (n : Nat) (p : Int × Int) : Prop where
  pos : 0 < p.2
  cop : Int.gcd p.1 p.2 = 1
  b1 : p.1.natAbs < 2 ^ n
  b2 : p.2.natAbs < 2 ^ n
theorem mk_ok {n : Nat} {a b : Int} (h : b ≠ 0) (ha : a.natAbs < 2 ^ n) (hb : b.natAbs < 2 ^ n) : Ok n (mk a b) := by
  obtain ⟨x, y, e, hy, hg, _, h1, h2⟩ := mk_all (a := a) h
  rw [e]
  exact ⟨hy, hg, by show x.natAbs < _; omega, by show y.natAbs < _; omega⟩
theorem mk_cross {a b : Int} (h : b ≠ 0) : (mk a b).1 * b = a * (mk a b).2 := by
  obtain ⟨x, y, e, hy, hg, hc, _, _⟩ := mk_all (a := a) h
  rw [e]
  exact hc
theorem mk_pos {a b : Int} (h : b ≠ 0) : 0 < (mk a b).2 := by
  obtain ⟨x, y, e, hy, _⟩ := mk_all (a := a) h
  rw [e]
  exact hy
theorem Ok.mono {n m : Nat} {p : Int × Int} (h : Ok n p) (hnm : n ≤ m) : Ok m p :=
  ⟨h.pos, h.cop, Nat.lt_of_lt_of_le h.b1 (Nat.pow_le_pow_right (by decide) hnm), Nat.lt_of_lt_of_le h.b2 (Nat.pow_le_pow_right (by decide) hnm)⟩
def add (p q : Int × Int) : Int × Int := mk (p.1 * q.2 + q.1 * p.2) (p.2 * q.2)
def sub (p q : Int × Int) : Int × Int := mk (p.1 * q.2 - q.1 * p.2) (p.2 * q.2)
def div (p q : Int × Int) : Int × Int := mk (p.1 * q.2) (p.2 * q.1)
theorem bmono {n m : Nat} {a : Int} (ha : a.natAbs < 2 ^ n) (h : n ≤ m) : a.natAbs < 2 ^ m := Nat.lt_of_lt_of_le ha (Nat.pow_le_pow_right (by decide) h)
/-- to show that two sums are the same FRACTION: p stands for (a, b) -/
def Is (p : Int × Int) (a b : Int) : Prop := p = mk a b ∧ b ≠ 0
theorem Ok.is {n : Nat} {p : Int × Int} (h : Ok n p) : Is p p.1 p.2 := ⟨(mk_self h.pos h.cop).symm, by have := h.pos; omega⟩
theorem Is.same {p q : Int × Int} {a b c d : Int} (hp : Is p a b) (hq : Is q c d) (e : a * d = c * b) : p = q := by
  rw [hp.1, hq.1]
  exact mk_eq hp.2 hq.2 e
theorem Is.add {p q : Int × Int} {a b c d : Int} (hp : Is p a b) (hq : Is q c d) : Is (add p q) (a * d + c * b) (b * d) := by
  refine ⟨?_, Int.mul_ne_zero hp.2 hq.2⟩
  unfold Fr.add
  have h1 := mk_cross (a := a) hp.2
  have h2 := mk_cross (a := c) hq.2
  rw [← hp.1] at h1
  rw [← hq.1] at h2
  have p0 : p.2 ≠ 0 := by rw [hp.1]; have := mk_pos (a := a) hp.2; omega
  have q0 : q.2 ≠ 0 := by rw [hq.1]; have := mk_pos (a := c) hq.2; omega
  refine mk_eq (Int.mul_ne_zero p0 q0) (Int.mul_ne_zero hp.2 hq.2) ?_
  rw [Int.add_mul, Int.add_mul]
  have e1 : p.1 * q.2 * (b * d) = a * d * (p.2 * q.2) := by
    calc p.1 * q.2 * (b * d) = (p.1 * b) * (q.2 * d) := by ac_rfl
      _ = (a * p.2) * (q.2 * d) := by rw [h1]
      _ = a * d * (p.2 * q.2) := by ac_rfl
  have e2 : q.1 * p.2 * (b * d) = c * b * (p.2 * q.2) := by
    calc q.1 * p.2 * (b * d) = (q.1 * d) * (p.2 * b) := by ac_rfl
      _ = (c * q.2) * (p.2 * b) := by rw [h2]
      _ = c * b * (p.2 * q.2) := by ac_rfl
  rw [e1, e2]
theorem Is.sub {p q : Int × Int} {a b c d : Int} (hp : Is p a b) (hq : Is q c d) : Is (sub p q) (a * d - c * b) (b * d) := by
  refine ⟨?_, Int.mul_ne_zero hp.2 hq.2⟩
  unfold Fr.sub
  have h1 := mk_cross (a := a) hp.2
  have h2 := mk_cross (a := c) hq.2
  rw [← hp.1] at h1
  rw [← hq.1] at h2
  have p0 : p.2 ≠ 0 := by rw [hp.1]; have := mk_pos (a := a) hp.2; omega
  have q0 : q.2 ≠ 0 := by rw [hq.1]; have := mk_pos (a := c) hq.2; omega
  refine mk_eq (Int.mul_ne_zero p0 q0) (Int.mul_ne_zero hp.2 hq.2) ?_
  rw [Int.sub_mul, Int.sub_mul]
  have e1 : p.1 * q.2 * (b * d) = a * d * (p.2 * q.2) := by
    calc p.1 * q.2 * (b * d) = (p.1 * b) * (q.2 * d) := by ac_rfl
      _ = (a * p.2) * (q.2 * d) := by rw [h1]
      _ = a * d * (p.2 * q.2) := by ac_rfl
  have e2 : q.1 * p.2 * (b * d) = c * b * (p.2 * q.2) := by
    calc q.1 * p.2 * (b * d) = (q.1 * d) * (p.2 * b) := by ac_rfl
      _ = (c * q.2) * (p.2 * b) := by rw [h2]
      _ = c * b * (p.2 * q.2) := by ac_rfl
  rw [e1, e2]
theorem Is.div {p q : Int × Int} {a b c d : Int} (hp : Is p a b) (hq : Is q c d) (h0 : c ≠ 0) : Is (div p q) (a * d) (b * c) := by
  refine ⟨?_, Int.mul_ne_zero hp.2 h0⟩
  unfold Fr.div
  have h1 := mk_cross (a := a) hp.2
  have h2 := mk_cross (a := c) hq.2
  rw [← hp.1] at h1
  rw [← hq.1] at h2
  have p0 : p.2 ≠ 0 := by rw [hp.1]; have := mk_pos (a := a) hp.2; omega
  have q0 : q.2 ≠ 0 := by rw [hq.1]; have := mk_pos (a := c) hq.2; omega
  have q1 : q.1 ≠ 0 := by
    intro z
    rw [z, Int.zero_mul] at h2
    exact (Int.mul_ne_zero h0 q0) h2.symm
  refine mk_eq (Int.mul_ne_zero p0 q1) (Int.mul_ne_zero hp.2 h0) ?_
  calc p.1 * q.2 * (b * c) = (p.1 * b) * (c * q.2) := by ac_rfl
    _ = (a * p.2) * (q.1 * d) := by rw [h1, h2]
    _ = a * d * (p.2 * q.1) := by ac_rfl
end Fr
namespace K37
open PySem PySem.Spec PyProof.Rows L2 G Th AL
abbrev Fq := Int × Int
def frV (x : Fq) : Val := .tup [.int x.1, .int x.2]
structure Bd (x : Int × Int) : Prop where
  pos : 0 < x.2
  b1 : x.1.natAbs < 2 ^ 900
  b2 : x.2.natAbs < 2 ^ 900
theorem mw {i j : Int} (hi : i.natAbs < 2 ^ 900) (hj : j.natAbs < 2 ^ 900) : CMulW i j := wide_mul hi hj (by decide) (by decide) (by decide)
theorem gMul_eq {a b : Int} {S : Sto} (h : CMulW a b) : gMul (.int a) (.int b) S = some (.int (a * b), S) := if_pos h
theorem gDiv_eq {a b : Int} {S : Sto} (h : CDivW a b) : gDiv (.int a) (.int b) S = some (.int (a / b), S) := if_pos h
theorem gMod_eq {a b : Int} {S : Sto} (h : b ≠ 0) : gMod (.int a) (.int b) S = some (.int (a.fmod b), S) := if_pos h
theorem gPow_eq {a b : Int} {S : Sto} (h : CPow a b) : gPow (.int a) (.int b) S = some (.int (a ^ b.toNat), S) := if_pos h
theorem at0 {α : Type} {x : α} {xs : List α} : atI (x :: xs) 0 = some x := atI_nat (j := 0) rfl
theorem at1 {α : Type} {x y : α} {xs : List α} : atI (x :: y :: xs) 1 = some y := atI_nat (j := 1) rfl
theorem at2 {α : Type} {x y z : α} {xs : List α} : atI (x :: y :: z :: xs) 2 = some z := atI_nat (j := 2) rfl
theorem at3 {α : Type} {x y z w : α} {xs : List α} : atI (x :: y :: z :: w :: xs) 3 = some w := atI_nat (j := 3) rfl
theorem fmod_lt {a b : Int} (h : 0 < b) : 0 ≤ a.fmod b ∧ a.fmod b < b := by
  rw [Int.fmod_eq_emod_of_nonneg a (by omega)]
  exact ⟨Int.emod_nonneg a (by omega), Int.emod_lt_of_pos a h⟩
theorem is_below_eq {x y : Fq} {S : Sto} (hx : Bd x) (hy : Bd y) : is_below_ [frV x, frV y] S = some (.bl (decide (x.1 * y.2 < y.1 * x.2)), S) := by
  have h1 := gMul_eq (S := S) (mw hx.b1 hy.b2)
  have h2 := gMul_eq (S := S) (mw hy.b1 hx.b2)
  simp only [is_below_, is_below_B, frV, eV, eC, eB, eT, eU, eIf, eCh, eAnd, eOr, eNot, bAnd, bOr, bNot, bYes, aNil, aCons, eTup, eLst, eCall, eDef, eMt, eMt0, eSl, oN, oS, sNil, sSeq, sExpr, sRet, sIf, sAsg, sPar, sSub, runF, Pat.bind, Pat.binds, gI, gNeg, gAdd, gIs, gIsN, gLen, gAbs, gTuple, gList, gApp, isL, gSet, gSetA, gIxA, gIx, gEq, gNe, eqA, eqS, AL.keyOf, eGet1, eGet2, eDic, gIn, List.getElem?_cons_zero, List.getElem?_cons_succ, List.getElem?_nil, List.set_cons_zero, List.set_cons_succ, List.map_cons, List.map_nil, List.append_eq, List.cons_append, List.nil_append, List.replicate_succ, List.replicate_zero, List.length_cons, List.length_nil, Option.bind_some, Option.bind_none, Option.map_some, Nat.reduceAdd, Nat.reduceSub, Nat.reduceLeDiff, if_true, ite_true, if_false, Bool.false_eq_true, reduceIte, at0, at1, h1, h2]
end K37
namespace K37
open PySem PySem.Spec PyProof.Rows L2 G Th AL
theorem ss {S : Sto} {n : Nat} {o o' : Ob} (h : S[n]? = some o) : (S.set n o')[n]? = some o' := List.getElem?_set_self (List.getElem?_eq_some_iff.mp h).1
theorem sn {S : Sto} {k n : Nat} {o : Ob} (h : n ≠ k) : (S.set n o)[k]? = S[k]? := List.getElem?_set_ne h
theorem sa {S T : Sto} {n : Nat} {o : Ob} (h : S[n]? = some o) : (S ++ T)[n]? = some o := by
  rw [List.getElem?_append_left (List.getElem?_eq_some_iff.mp h).1]
  exact h
theorem sl {S : Sto} {o : Ob} : (S ++ [o])[S.length]? = some o := by simp
/-- all but the tape stays -/
def Fr1 (S S' : Sto) : Prop := ∀ (k : Nat) (o : Ob), k ≠ 1 → S[k]? = some o → S'[k]? = some o
theorem Fr1.refl (S : Sto) : Fr1 S S := fun _ _ _ h => h
theorem Fr1.trans {S S1 S2 : Sto} (a : Fr1 S S1) (b : Fr1 S1 S2) : Fr1 S S2 := fun k o n h => b k o n (a k o n h)
theorem Fr1.app (S T : Sto) : Fr1 S (S ++ T) := fun _ _ _ h => sa h
theorem Fr1.put {S : Sto} {o : Ob} : Fr1 S (S.set 1 o) := fun k o' n h => by rw [sn (Ne.symm n)]; exact h
structure Tp (S : Sto) (B : Int) : Prop where
  ex : ∃ (ns : List Int) (i q n : Int), S[0]? = some (.lst (ns.map .int)) ∧ S[1]? = some (.lst [.ref 0, .int i, .int q, .int n]) ∧ 0 ≤ i ∧ 0 ≤ q ∧ 0 ≤ n ∧ n ≤ B ∧ ns.length ≤ 63
theorem Tp.mono {S : Sto} {B B' : Int} (h : Tp S B) (hb : B ≤ B') : Tp S B' := by
  obtain ⟨ns, i, q, n, h0, h1, a, b, c, d, e⟩ := h.ex
  exact ⟨ns, i, q, n, h0, h1, a, b, c, by omega, e⟩
theorem Tp.app {S T : Sto} {B : Int} (h : Tp S B) : Tp (S ++ T) B := by
  obtain ⟨ns, i, q, n, h0, h1, r⟩ := h.ex
  exact ⟨ns, i, q, n, sa h0, sa h1, r⟩
theorem Tp.set {S : Sto} {B : Int} {k : Nat} {o : Ob} (h : Tp S B) (hk : 2 ≤ k) : Tp (S.set k o) B := by
  obtain ⟨ns, i, q, n, h0, h1, r⟩ := h.ex
  exact ⟨ns, i, q, n, by rw [sn (by omega)]; exact h0, by rw [sn (by omega)]; exact h1, r⟩
theorem mapO_ints {S : Sto} {k : Nat} : ∀ ns : List Int, mapO (toD S (k + 1)) (ns.map Val.int) = some (ns.map PyData.int)
  | [] => rfl
  | n :: r => by
    rw [List.map_cons, mapO, mapO_ints r]
    rfl
theorem lay_ints : ∀ ns : List Int, PyData.canLayAll0 (ns.map PyData.int) = true
  | [] => rfl
  | n :: r => by
    simp only [List.map_cons, PyData.canLayAll0, PyData.canLay0, Bool.true_and]
    exact lay_ints r
theorem depth_ints : ∀ ns : List Int, PyData.depthAll (ns.map PyData.int) ≤ 1
  | [] => by simp [PyData.depthAll]
  | n :: r => by
    have h := depth_ints r
    simp only [List.map_cons, PyData.depthAll, PyData.depth]
    omega
theorem shaped_ints (ns : List Int) : SeqAt.shaped (.list (ns.map PyData.int)) = true := by
  have h1 := depth_ints ns
  show (PyData.canLay0 (.list (ns.map PyData.int)) && decide (PyData.depth (.list (ns.map PyData.int)) ≤ 64)) = true
  rw [Bool.and_eq_true]
  refine ⟨by simp only [PyData.canLay0]; exact lay_ints ns, decide_eq_true ?_⟩
  simp only [PyData.depth]
  omega
/-- a list against the empty one -/
theorem ne_nil {S : Sto} {a b : Nat} {ns : List Int} (h0 : S[a]? = some (.lst (ns.map .int))) (h1 : S[b]? = some (.lst [])) : gNe (.ref a) (.ref b) S = some (.bl (!ns.isEmpty), S) := by
  have d0 : toD S 40 (.ref a) = some (.list (ns.map PyData.int)) := by
    rw [show (40 : Nat) = 38 + 1 + 1 from rfl, toD]
    simp only [h0, mapO_ints, Option.map_some]
  have d1 : toD S 40 (.ref b) = some (.list []) := by
    rw [show (40 : Nat) = 38 + 1 + 1 from rfl, toD]
    simp only [h1, mapO, Option.map_some]
  unfold gNe eqA
  simp only [eqS, d0, d1, shaped_ints ns, show SeqAt.shaped (.list []) = true from by decide, and_self, if_true, Option.map_some]
  cases ns <;> rfl
theorem small_pow {x : Int} (h0 : 0 ≤ x) (h1 : x < 2 ^ 63) : CPow x 5 := ⟨by decide, by decide, by have : (2 : Int) ^ 63 = 9223372036854775808 := rfl; have : (2 : Nat) ^ 64 = 18446744073709551616 := rfl; omega⟩
theorem pow18 : CPow 10 18 := ⟨by decide, by decide, by decide⟩
theorem ix_set {a b c d v : Val} {S : Sto} (h : S[1]? = some (.lst [a, b, c, d])) : gSetA (.ref 1) (.int 1) v S = some (S.set 1 (.lst [a, v, c, d])) ∧ gSetA (.ref 1) (.int 2) v S = some (S.set 1 (.lst [a, b, v, d])) ∧ gSetA (.ref 1) (.int 3) v S = some (S.set 1 (.lst [a, b, c, v])) := by
  refine ⟨?_, ?_, ?_⟩ <;> simp only [gSetA, gSet, h] <;> rfl
theorem ix_get {a b c d : Val} {S : Sto} (h : S[1]? = some (.lst [a, b, c, d])) : gIxA (.ref 1) (.int 0) S = some (a, S) ∧ gIxA (.ref 1) (.int 1) S = some (b, S) ∧ gIxA (.ref 1) (.int 2) S = some (c, S) ∧ gIxA (.ref 1) (.int 3) S = some (d, S) := by
  refine ⟨?_, ?_, ?_, ?_⟩ <;> simp only [gIxA, gIx, h, at0, at1, at2, at3, Option.map_some]
theorem smul {a b : Int} {S : Sto} (h : a.natAbs < 2 ^ 64) (h2 : b.natAbs < 2 ^ 64) : gMul (.int a) (.int b) S = some (.int (a * b), S) := gMul_eq (wide_mul h h2 (by decide) (by decide) (by decide))
theorem at_ints {L : List Int} {d : Int} (h0 : 0 ≤ d) (h1 : d < (L.length : Int)) : ∃ v, atI (L.map Val.int) d = some (.int v) ∧ v ∈ L := by
  obtain ⟨n, rfl⟩ := Int.eq_ofNat_of_zero_le h0
  have hn : n < L.length := by omega
  refine ⟨L[n], atI_nat (j := n) ?_, List.getElem_mem hn⟩
  rw [List.getElem?_map, List.getElem?_eq_getElem hn]
  rfl
/-- a draw -/
theorem draw_eq {S : Sto} {B m : Int} (T : Tp S B) (m0 : 0 < m) (m1 : m < 2 ^ 60) (hB : B < 2 ^ 40) : ∃ d S', drawL_ [.ref 1, .int m] S = some (.int d, S') ∧ 0 ≤ d ∧ d < m ∧ Tp S' (B + 1) ∧ Fr1 S S' := by
  obtain ⟨ns, i, q, n, h0, h1, i0, q0, n0, nB, l63⟩ := T.ex
  have hp40 : (2 : Int) ^ 40 = 1099511627776 := by decide
  have hp60 : (2 : Int) ^ 60 = 1152921504606846976 := by decide
  have hp64 : (2 : Nat) ^ 64 = 18446744073709551616 := by decide
  have mdiv : ∀ x : Int, CDivW x m := fun x => wide_div (b := 64) m0 (by omega) (by decide) (by decide)
  obtain ⟨g0, g1, g2, g3⟩ := ix_get h1
  obtain ⟨s1, s2, s3⟩ := ix_set (v := .int (n + 1)) h1
  generalize hS1 : S.set 1 (.lst [.ref 0, .int i, .int q, .int (n + 1)]) = S1
  have a1 : S1[1]? = some (.lst [.ref 0, .int i, .int q, .int (n + 1)]) := by rw [← hS1]; exact ss h1
  have a0 : S1[0]? = some (.lst (ns.map .int)) := by rw [← hS1, sn (by decide)]; exact h0
  have f1 : Fr1 S S1 := by rw [← hS1]; exact Fr1.put
  rw [hS1] at s3
  obtain ⟨b0, b1, b2, b3⟩ := ix_get a1
  have mm := gMod_eq (S := S1) (a := q) (b := m) (by omega)
  by_cases hq : 0 < q
  · obtain ⟨_, t2, _⟩ := ix_set (v := .int (q / m)) a1
    refine ⟨q.fmod m, S1.set 1 (.lst [.ref 0, .int i, .int (q / m), .int (n + 1)]), ?_, (fmod_lt m0).1, (fmod_lt m0).2, ⟨ns, i, q / m, n + 1, by rw [sn (by decide)]; exact a0, ss a1, i0, Int.ediv_nonneg q0 (by omega), by omega, by omega, l63⟩, f1.trans Fr1.put⟩
    simp only [drawL_, drawL_B, eV, eC, eB, eT, eU, eIf, eCh, eAnd, eOr, eNot, bAnd, bOr, bNot, bYes, aNil, aCons, eTup, eLst, eCall, eDef, eMt, eMt0, eSl, oN, oS, sNil, sSeq, sExpr, sRet, sIf, sAsg, sPar, sSub, runF, Pat.bind, Pat.binds, gI, gNeg, gAdd, gIs, gIsN, gLen, gAbs, gTuple, gList, gApp, isL, gEq, eqA, eqS, AL.keyOf, eGet1, eGet2, eDic, gIn, List.getElem?_cons_zero, List.getElem?_cons_succ, List.getElem?_nil, List.set_cons_zero, List.set_cons_succ, List.map_cons, List.map_nil, List.append_eq, List.cons_append, List.nil_append, List.replicate_succ, List.replicate_zero, List.length_cons, List.length_nil, Option.bind_some, Option.bind_none, Option.map_some, Nat.reduceAdd, Nat.reduceSub, Nat.reduceLeDiff, if_true, ite_true, if_false, Bool.false_eq_true, reduceIte, g3, s3, b2, decide_eq_true hq, mm, gDiv_eq (mdiv q), t2]
  · have q1 : q = 0 := by omega
    subst q1
    obtain ⟨t1, _, _⟩ := ix_set (v := .int (i + 1)) a1
    generalize hS2 : S1.set 1 (.lst [.ref 0, .int (i + 1), .int 0, .int (n + 1)]) = S2
    have c1 : S2[1]? = some (.lst [.ref 0, .int (i + 1), .int 0, .int (n + 1)]) := by rw [← hS2]; exact ss a1
    have c0 : S2[0]? = some (.lst (ns.map .int)) := by rw [← hS2, sn (by decide)]; exact a0
    have f2 : Fr1 S S2 := by rw [← hS2]; exact f1.trans Fr1.put
    rw [hS2] at t1
    obtain ⟨d0, d1, d2, d3⟩ := ix_get c1
    -- the empty list that is compared with
    generalize hS3 : S2 ++ [Ob.lst []] = S3
    have e1 : S3[1]? = some (.lst [.ref 0, .int (i + 1), .int 0, .int (n + 1)]) := by rw [← hS3]; exact sa c1
    have e0 : S3[0]? = some (.lst (ns.map .int)) := by rw [← hS3]; exact sa c0
    have eE : S3[S2.length]? = some (.lst []) := by rw [← hS3]; exact sl
    have f3 : Fr1 S S3 := by rw [← hS3]; exact f2.trans (Fr1.app _ _)
    obtain ⟨x0, x1, x2, x3⟩ := ix_get e1
    have nn := ne_nil e0 eE
    have T3 : Tp S3 (B + 1) := ⟨ns, i + 1, 0, n + 1, e0, e1, by omega, by omega, by omega, by omega, l63⟩
    have go : ∃ c : Int, (ns.isEmpty = true ∧ c = 10) ∨ (ns.isEmpty = false ∧ atI (ns.map Val.int) (i.fmod (ns.length : Int)) = some (.int c)) := by
      cases hns : ns with
      | nil => exact ⟨10, .inl ⟨rfl, rfl⟩⟩
      | cons y ys =>
        obtain ⟨h1, h2⟩ := fmod_lt (a := i) (b := ((y :: ys).length : Int)) (by simp)
        obtain ⟨v, hv, _⟩ := at_ints (L := y :: ys) h1 h2
        exact ⟨v, .inr ⟨rfl, hv⟩⟩
    obtain ⟨c, hc⟩ := go
    have cell : eIf (eT (eB gNe (eB gIxA (eV 0) (eC (.int 0))) (eLst aNil))) (eB gIxA (eB gIxA (eV 0) (eC (.int 0))) (eB gMod (eV 3) (eCall gLen (aCons (eB gIxA (eV 0) (eC (.int 0))) aNil)))) (eC (.int 10)) [some (.ref 1), some (.int m), some (.int (n + 1)), some (.int i), none, none, none] S2 = some (.int c, S3) := by
      rcases hc with ⟨he, rfl⟩ | ⟨he, hc⟩
      · rw [he] at nn
        simp only [eV, eC, eB, eT, eU, eIf, eCh, eAnd, eOr, eNot, bAnd, bOr, bNot, bYes, aNil, aCons, eTup, eLst, eCall, eDef, eMt, eMt0, eSl, oN, oS, sNil, sSeq, sExpr, sRet, sIf, sAsg, sPar, sSub, runF, Pat.bind, Pat.binds, gI, gNeg, gAdd, gIs, gIsN, gLen, gAbs, gTuple, gList, gApp, isL, gEq, eqA, eqS, AL.keyOf, eGet1, eGet2, eDic, gIn, List.getElem?_cons_zero, List.getElem?_cons_succ, List.getElem?_nil, List.set_cons_zero, List.set_cons_succ, List.map_cons, List.map_nil, List.append_eq, List.cons_append, List.nil_append, List.replicate_succ, List.replicate_zero, List.length_cons, List.length_nil, Option.bind_some, Option.bind_none, Option.map_some, Nat.reduceAdd, Nat.reduceSub, Nat.reduceLeDiff, if_true, ite_true, if_false, Bool.false_eq_true, reduceIte, d0, hS3, nn, Bool.not_true, Bool.false_eq_true, Nat.zero_le]
      · have l0 : (ns.length : Int) ≠ 0 := by
          cases ns with
          | nil => simp at he
          | cons _ _ => simp; omega
        have il : gIxA (.ref 0) (.int (i.fmod (ns.length : Int))) S3 = some (.int c, S3) := by simp only [gIxA, gIx, e0, hc, Option.map_some]
        rw [he] at nn
        simp only [eV, eC, eB, eT, eU, eIf, eCh, eAnd, eOr, eNot, bAnd, bOr, bNot, bYes, aNil, aCons, eTup, eLst, eCall, eDef, eMt, eMt0, eSl, oN, oS, sNil, sSeq, sExpr, sRet, sIf, sAsg, sPar, sSub, runF, Pat.bind, Pat.binds, gI, gNeg, gAdd, gIs, gIsN, gLen, gAbs, gTuple, gList, gApp, isL, gEq, eqA, eqS, AL.keyOf, eGet1, eGet2, eDic, gIn, List.getElem?_cons_zero, List.getElem?_cons_succ, List.getElem?_nil, List.set_cons_zero, List.set_cons_succ, List.map_cons, List.map_nil, List.append_eq, List.cons_append, List.nil_append, List.replicate_succ, List.replicate_zero, List.length_cons, List.length_nil, Option.bind_some, Option.bind_none, Option.map_some, Nat.reduceAdd, Nat.reduceSub, Nat.reduceLeDiff, if_true, ite_true, if_false, Bool.false_eq_true, reduceIte, d0, hS3, nn, Bool.not_false, x0, e0, List.length_map, gMod_eq l0, il, Nat.zero_le]
    have w18 := gPow_eq (S := S3) pow18
    have L63 : ((ns.map Val.int).length : Int) = ns.length := by simp
    have cm := fmod_lt (a := c) (b := 1000099) (by decide)
    have hp63 : (2 : Int) ^ 63 = 9223372036854775808 := by decide
    have p1 := gPow_eq (S := S3) (small_pow (x := c.fmod 1000099 + 5309 * (n + 1) + 53) (by omega) (by omega))
    have r1 := fmod_lt (a := (c.fmod 1000099 + 5309 * (n + 1) + 53) ^ (5 : Int).toNat) (b := 2147483647) (by decide)
    have p2 := gPow_eq (S := S3) (small_pow (x := ((c.fmod 1000099 + 5309 * (n + 1) + 53) ^ (5 : Int).toNat).fmod 2147483647 + 90001 * (n + 1)) (by omega) (by omega))
    have v1 := smul (S := S3) (a := 5309) (b := n + 1) (by omega) (by omega)
    have v2 := smul (S := S3) (a := 90001) (b := n + 1) (by omega) (by omega)
    have d64 := fun x => gDiv_eq (S := S3) (a := x) (b := 64) (wide_div (b := 7) (by decide) (by decide) (by decide) (by decide))
    have z1 := fun x => gMod_eq (S := S3) (a := x) (b := 1000099) (by decide)
    have z2 := fun x => gMod_eq (S := S3) (a := x) (b := 2147483647) (by decide)
    have z3 := fun x => gMod_eq (S := S3) (a := x) (b := 2147483587) (by decide)
    have z4 := fun x => gMod_eq (S := S3) (a := x) (b := m) (by omega)
    by_cases hc1 : (10 : Int) ^ (18 : Int).toNat ≤ c
    · by_cases hc2 : i < (ns.length : Int)
      · obtain ⟨_, u2, _⟩ := ix_set (v := .int (c / m)) e1
        refine ⟨c.fmod m, S3.set 1 (.lst [.ref 0, .int (i + 1), .int (c / m), .int (n + 1)]), ?_, (fmod_lt m0).1, (fmod_lt m0).2, ⟨ns, i + 1, c / m, n + 1, by rw [sn (by decide)]; exact e0, ss e1, by omega, Int.ediv_nonneg (Int.le_trans (by decide) hc1) (by omega), by omega, by omega, l63⟩, f3.trans Fr1.put⟩
        have z5 := gMod_eq (S := S3.set 1 (.lst [.ref 0, .int (i + 1), .int (c / m), .int (n + 1)])) (a := c) (b := m) (by omega)
        rw [drawL_, drawL_B]
        simp only [eV, eC, eB, eT, eU, eCh, eAnd, eOr, eNot, bAnd, bOr, bNot, bYes, aNil, aCons, eTup, eLst, eCall, eDef, eMt, eMt0, eSl, oN, oS, sNil, sSeq, sExpr, sRet, sIf, sAsg, sPar, sSub, runF, Pat.bind, Pat.binds, gI, gNeg, gAdd, gIs, gIsN, gLen, gAbs, gTuple, gList, gApp, isL, gEq, eqA, eqS, AL.keyOf, eGet1, eGet2, eDic, gIn, List.getElem?_cons_zero, List.getElem?_cons_succ, List.getElem?_nil, List.set_cons_zero, List.set_cons_succ, List.map_cons, List.map_nil, List.append_eq, List.cons_append, List.nil_append, List.replicate_succ, List.replicate_zero, List.length_cons, List.length_nil, Option.bind_some, Option.bind_none, Option.map_some, Nat.reduceAdd, Nat.reduceSub, Nat.reduceLeDiff, if_true, ite_true, if_false, Bool.false_eq_true, reduceIte, g3, s3, b2, decide_eq_false hq, b1, t1, cell, w18, decide_eq_true hc1, x0, e0, L63, decide_eq_true hc2, gDiv_eq (mdiv c), u2, z5]
      · have dd : ∃ x : Int, drawL_ [.ref 1, .int m] S = some (.int (x.fmod m), S3) := by
          rw [drawL_, drawL_B]
          simp only [eV, eC, eB, eT, eU, eCh, eAnd, eOr, eNot, bAnd, bOr, bNot, bYes, aNil, aCons, eTup, eLst, eCall, eDef, eMt, eMt0, eSl, oN, oS, sNil, sSeq, sExpr, sRet, sIf, sAsg, sPar, sSub, runF, Pat.bind, Pat.binds, gI, gNeg, gAdd, gIs, gIsN, gLen, gAbs, gTuple, gList, gApp, isL, gEq, eqA, eqS, AL.keyOf, eGet1, eGet2, eDic, gIn, List.getElem?_cons_zero, List.getElem?_cons_succ, List.getElem?_nil, List.set_cons_zero, List.set_cons_succ, List.map_cons, List.map_nil, List.append_eq, List.cons_append, List.nil_append, List.replicate_succ, List.replicate_zero, List.length_cons, List.length_nil, Option.bind_some, Option.bind_none, Option.map_some, Nat.reduceAdd, Nat.reduceSub, Nat.reduceLeDiff, if_true, ite_true, if_false, Bool.false_eq_true, reduceIte, g3, s3, b2, decide_eq_false hq, b1, t1, cell, w18, decide_eq_true hc1, x0, e0, L63, decide_eq_false hc2, z1, v1, p1, z2, v2, p2, z3, d64, z4]
          exact ⟨_, rfl⟩
        obtain ⟨x, dd⟩ := dd
        exact ⟨_, S3, dd, (fmod_lt m0).1, (fmod_lt m0).2, T3, f3⟩
    · have dd : ∃ x : Int, drawL_ [.ref 1, .int m] S = some (.int (x.fmod m), S3) := by
        rw [drawL_, drawL_B]
        simp only [eV, eC, eB, eT, eU, eCh, eAnd, eOr, eNot, bAnd, bOr, bNot, bYes, aNil, aCons, eTup, eLst, eCall, eDef, eMt, eMt0, eSl, oN, oS, sNil, sSeq, sExpr, sRet, sIf, sAsg, sPar, sSub, runF, Pat.bind, Pat.binds, gI, gNeg, gAdd, gIs, gIsN, gLen, gAbs, gTuple, gList, gApp, isL, gEq, eqA, eqS, AL.keyOf, eGet1, eGet2, eDic, gIn, List.getElem?_cons_zero, List.getElem?_cons_succ, List.getElem?_nil, List.set_cons_zero, List.set_cons_succ, List.map_cons, List.map_nil, List.append_eq, List.cons_append, List.nil_append, List.replicate_succ, List.replicate_zero, List.length_cons, List.length_nil, Option.bind_some, Option.bind_none, Option.map_some, Nat.reduceAdd, Nat.reduceSub, Nat.reduceLeDiff, if_true, ite_true, if_false, Bool.false_eq_true, reduceIte, g3, s3, b2, decide_eq_false hq, b1, t1, cell, w18, decide_eq_false hc1, z1, v1, p1, z2, v2, p2, z3, d64, z4]
        exact ⟨_, rfl⟩
      obtain ⟨x, dd⟩ := dd
      exact ⟨_, S3, dd, (fmod_lt m0).1, (fmod_lt m0).2, T3, f3⟩
end K37
namespace K37
open PySem PySem.Spec PyProof.Rows L2 G Th AL
structure Hs where
  name : Str
  slow : Fq
  fast : Fq
structure Lk where
  fr : Str
  to : Str
  least : Fq
  most : Option Fq
structure Fl where
  hs : List Hs
  ls : List Lk
  src : Str
inductive Dd where
  | mark | send (l : Nat) | hear (k : Nat)
structure Ev where
  name : Str
  stamp : Fq
  deed : Dd
abbrev Pr := Option Fq × Option Fq
structure Mv where
  x : Nat
  lo : Fq
  hi : Option Fq
def oV : Option Fq → Val
  | none => .non
  | some x => frV x
def prV (p : Pr) : Val := .tup [oV p.1, oV p.2]
def hsV (h : Hs) : Val := .tup [.str h.name, frV h.slow, frV h.fast]
def lkV (l : Lk) : Val := .tup [.str l.fr, .str l.to, frV l.least, oV l.most]
def flV (f : Fl) : Val := .tup [.tup (f.hs.map hsV), .tup (f.ls.map lkV), .str f.src]
def ddV : Dd → Val
  | .mark => .tup [.str "mark"]
  | .send l => .tup [.str "send", .int (l : Nat)]
  | .hear k => .tup [.str "hear", .int (k : Nat)]
def evV (e : Ev) : Val := .tup [.str e.name, frV e.stamp, ddV e.deed]
def hiV (f : Fl) (es : List Ev) : Val := .tup [flV f, .tup (es.map evV)]
def addO : Option Fq → Option Fq → Option Fq
  | some a, some b => some (Fr.add a b)
  | _, _ => none
def sel (b : Bool) (p : Pr) : Option Fq := if b then p.2 else p.1
def sI (b : Bool) : Val := .int (if b then 1 else 0)
def endOf (ps : List Pr) (b : Bool) (m : Mv) : Option Fq := addO (sel b (ps.getD m.x (none, none))) (sel b (some m.lo, m.hi))
end K37
namespace K37
open PySem PySem.Spec PyProof.Rows L2 G Th AL
def leastO (acc : Option Fq) (x : Fq) : Option Fq := match acc with
  | none => some x
  | some g => if x.1 * g.2 < g.1 * x.2 then some x else some g
def least (qs : List Fq) : Option Fq := qs.foldl leastO none
def greatestO (acc : Option Fq) (x : Fq) : Option Fq := match acc with
  | none => some x
  | some g => if g.1 * x.2 < x.1 * g.2 then some x else some g
def greatest (qs : List Fq) : Option Fq := qs.foldl greatestO none
def driftOf (fl : Fl) (n : Str) : Option Hs := fl.hs.find? fun h => decide (h.name = n)
end K37
namespace K37
open PySem PySem.Spec PyProof.Rows L2 G Th AL
theorem seq {g1 g2 : SF} {ρ ρ1 : Rho} {S S1 : Sto} (h : g1 ρ S = .nx ρ1 S1) : sSeq g1 g2 ρ S = g2 ρ1 S1 := by
  unfold sSeq
  rw [h]
def dEv : Ev := ⟨"a", (0, 1), .mark⟩
def linkAt (fl : Fl) (es : List Ev) (k : Nat) : Option Lk := match (es.getD k dEv).deed with
  | .send l => fl.ls[l]?
  | _ => none
def mv1 (fl : Fl) (es : List Ev) (last : Option Nat) (e : Ev) : List Mv := match last, driftOf fl e.name with
  | some j, some h => [⟨j, Fr.div (Fr.sub e.stamp (es.getD j dEv).stamp) h.fast, some (Fr.div (Fr.sub e.stamp (es.getD j dEv).stamp) h.slow)⟩]
  | _, _ => []
def mv2 (fl : Fl) (es : List Ev) : Dd → List Mv
  | .hear k => match linkAt fl es k with
    | some l => [⟨k, l.least, l.most⟩]
    | none => []
  | _ => []
def movesInto (fl : Fl) (es : List Ev) (last : Option Nat) (e : Ev) : List Mv := mv1 fl es last e ++ mv2 fl es e.deed
end K37
namespace K37
open PySem PySem.Spec PyProof.Rows L2 G Th AL
theorem valA_put (d : List (Key × Val)) (k k' : Key) (v : Val) : valA (putA d k v) k' = if k' = k then some v else valA d k' := by
  unfold putA
  split
  · next h =>
    induction d with
    | nil => simp at h
    | cons p d ih =>
      rw [List.map_cons]
      by_cases e : p.1 = k
      · by_cases e2 : k' = k
        · subst e2
          simp [valA, List.find?_cons, e]
        · have e3 : ¬ k = k' := fun z => e2 z.symm
          have e4 : ¬ p.1 = k' := fun z => e2 (z.symm.trans e)
          simp only [valA, List.find?_cons, e, if_true, e3, decide_false, if_neg e2]
          by_cases h' : (d.any fun kv => decide (kv.1 = k)) = true
          · have := ih h'
            simp only [valA, if_neg e2] at this
            exact this
          · have nm : d.map (fun kv => if kv.1 = k then (kv.1, v) else kv) = d := by
              conv => rhs; rw [← List.map_id d]
              apply List.map_congr_left
              intro q hq
              have : ¬ q.1 = k := fun z => h' (List.any_eq_true.mpr ⟨q, hq, decide_eq_true z⟩)
              simp [this]
            rw [nm]
      · have h' : (d.any fun kv => decide (kv.1 = k)) = true := by
          rw [List.any_cons, decide_eq_false e, Bool.false_or] at h
          exact h
        have := ih h'
        simp only [valA] at this
        by_cases e2 : p.1 = k'
        · have e3 : ¬ k' = k := fun z => e (e2.trans z)
          simp [valA, List.find?_cons, e, e2, e3]
        · simp only [valA, List.find?_cons, e, if_false, e2, decide_false]
          exact this
  · next h =>
    unfold valA
    rw [List.find?_append]
    by_cases e : k' = k
    · subst e
      have nn : d.find? (fun kv => decide (kv.1 = k')) = none := by
        rw [List.find?_eq_none]
        intro x hx hd
        exact h (List.any_eq_true.mpr ⟨x, hx, hd⟩)
      simp [nn]
    · have e3 : ¬ k = k' := fun z => e z.symm
      simp only [List.find?_cons, e3, decide_false, List.find?_nil, Option.or_none, if_neg e]
theorem putA_len (d : List (Key × Val)) (k : Key) (v : Val) : (putA d k v).length ≤ d.length + 1 := by
  unfold putA
  split <;> simp
def lastAt (es : List Ev) : Nat → Str → Option Nat
  | 0, _ => none
  | i + 1, n => if (es.getD i dEv).name = n then some i else lastAt es i n
theorem lastAt_lt {es : List Ev} {n : Str} : ∀ {i j : Nat}, lastAt es i n = some j → j < i
  | 0, _, h => by cases h
  | i + 1, j, h => by
    unfold lastAt at h
    split at h
    · cases h; omega
    · have := lastAt_lt h; omega
def row (fl : Fl) (es : List Ev) (i : Nat) : List Mv := movesInto fl es (lastAt es i (es.getD i dEv).name) (es.getD i dEv)
end K37
local macro_rules | `(tactic| array_mem_dec) => `(tactic| first | assumption | (refine AL.Kn.at (by assumption) ?_; array_mem_dec) | (refine AL.Kx.at (by assumption) (by omega) ?_; array_mem_dec))
local macro_rules | `(tactic| sizeOf_list_dec) => `(tactic| ((with_reducible refine AL.brF ?_ ?_); exact rfl))
local macro_rules | `(tactic| sizeOf_list_dec) => `(tactic| ((with_reducible refine AL.brT ?_ ?_); exact rfl))
local macro_rules | `(tactic| sizeOf_list_dec) => `(tactic| ((with_reducible refine AL.sd ?_ ?_); first | exact rfl | exact of_decide_eq_true rfl | exact AL.isL_of (by array_mem_dec) | exact ⟨rfl, rfl⟩))
local macro_rules | `(tactic| sizeOf_list_dec) => `(tactic| ((with_reducible apply AL.bn); rfl; try dsimp only [List.set_cons_zero, List.set_cons_succ]))
local macro_rules | `(tactic| sizeOf_list_dec) => `(tactic| ((with_reducible apply AL.ti); rfl))
local macro_rules | `(tactic| sizeOf_list_dec) => `(tactic| ((with_reducible apply AL.tb); rfl))
local macro_rules | `(tactic| sizeOf_list_dec) => `(tactic| ((with_reducible apply AL.vIxL); rfl; rfl; array_mem_dec; rfl))
local macro_rules | `(tactic| sizeOf_list_dec) => `(tactic| ((with_reducible apply AL.vTupL); rfl; array_mem_dec))
local macro_rules | `(tactic| sizeOf_list_dec) => `(tactic| ((with_reducible apply AL.vLenL); rfl; array_mem_dec))
local macro_rules | `(tactic| sizeOf_list_dec) => `(tactic| ((with_reducible apply AL.vLenT); rfl))
local macro_rules | `(tactic| sizeOf_list_dec) => `(tactic| ((with_reducible apply AL.vMod); rfl; rfl))
local macro_rules | `(tactic| sizeOf_list_dec) => `(tactic| ((with_reducible apply AL.vDiv); rfl; rfl))
local macro_rules | `(tactic| sizeOf_list_dec) => `(tactic| ((with_reducible apply AL.vMul); rfl; rfl))
local macro_rules | `(tactic| sizeOf_list_dec) => `(tactic| ((with_reducible apply AL.vAbs); rfl))
local macro_rules | `(tactic| sizeOf_list_dec) => `(tactic| ((with_reducible apply AL.vNeg); rfl))
local macro_rules | `(tactic| sizeOf_list_dec) => `(tactic| ((with_reducible apply AL.vNe); rfl))
local macro_rules | `(tactic| sizeOf_list_dec) => `(tactic| ((with_reducible apply AL.vEq); rfl))
local macro_rules | `(tactic| sizeOf_list_dec) => `(tactic| ((with_reducible apply AL.vIsN); rfl))
local macro_rules | `(tactic| sizeOf_list_dec) => `(tactic| ((with_reducible apply AL.vIsi); rfl; first | exact AL.kit_int_int | exact AL.kit_int_bool | exact AL.kit_tuple_tuple | exact AL.kit_str_str | exact AL.kit_bool_bool | exact AL.kit_NoneType_tuple | exact AL.kit_NoneType_int | exact AL.kit_int_tuple | exact AL.kit_str_int | exact AL.kit_tuple_int))
local macro_rules | `(tactic| sizeOf_list_dec) => `(tactic| ((with_reducible apply AL.vIsNT); rfl; rfl))
local macro_rules | `(tactic| sizeOf_list_dec) => `(tactic| ((with_reducible apply AL.vIsT); rfl; rfl))
local macro_rules | `(tactic| sizeOf_list_dec) => `(tactic| ((with_reducible apply AL.vIs); rfl))
local macro_rules | `(tactic| sizeOf_list_dec) => `(tactic| ((with_reducible apply AL.vAdd); rfl; rfl))
local macro_rules | `(tactic| sizeOf_list_dec) => `(tactic| ((with_reducible apply AL.vI); rfl; rfl))
local macro_rules | `(tactic| sizeOf_list_dec) => `(tactic| ((with_reducible apply AL.vIxT); rfl; rfl; rfl))
local macro_rules | `(tactic| sizeOf_list_dec) => `(tactic| with_reducible refine AL.wiT ?_)
local macro_rules | `(tactic| sizeOf_list_dec) => `(tactic| with_reducible refine AL.wiE ?_)
local macro_rules | `(tactic| sizeOf_list_dec) => `(tactic| with_reducible refine AL.wiR2 ?_)
local macro_rules | `(tactic| sizeOf_list_dec) => `(tactic| with_reducible refine AL.wiR ?_)
local macro_rules | `(tactic| sizeOf_list_dec) => `(tactic| with_reducible refine AL.vGet2 ?_)
local macro_rules | `(tactic| sizeOf_list_dec) => `(tactic| with_reducible refine AL.vGet1 ?_)
local macro_rules | `(tactic| sizeOf_list_dec) => `(tactic| with_reducible refine AL.woS ?_)
local macro_rules | `(tactic| sizeOf_list_dec) => `(tactic| with_reducible refine AL.woN ?_)
local macro_rules | `(tactic| sizeOf_list_dec) => `(tactic| with_reducible refine AL.wSl ?_)
local macro_rules | `(tactic| sizeOf_list_dec) => `(tactic| with_reducible refine AL.wLc ?_)
local macro_rules | `(tactic| sizeOf_list_dec) => `(tactic| with_reducible refine AL.wDic ?_)
local macro_rules | `(tactic| sizeOf_list_dec) => `(tactic| with_reducible refine AL.wU ?_)
local macro_rules | `(tactic| sizeOf_list_dec) => `(tactic| with_reducible refine AL.weCh ?_)
local macro_rules | `(tactic| sizeOf_list_dec) => `(tactic| with_reducible refine AL.weI ?_)
local macro_rules | `(tactic| sizeOf_list_dec) => `(tactic| with_reducible refine AL.weN ?_)
local macro_rules | `(tactic| sizeOf_list_dec) => `(tactic| with_reducible refine AL.weO ?_)
local macro_rules | `(tactic| sizeOf_list_dec) => `(tactic| with_reducible refine AL.weA ?_)
local macro_rules | `(tactic| sizeOf_list_dec) => `(tactic| with_reducible refine AL.wbY ?_)
local macro_rules | `(tactic| sizeOf_list_dec) => `(tactic| with_reducible refine AL.wbN ?_)
local macro_rules | `(tactic| sizeOf_list_dec) => `(tactic| with_reducible refine AL.wbO ?_)
local macro_rules | `(tactic| sizeOf_list_dec) => `(tactic| with_reducible refine AL.wbA ?_)
local macro_rules | `(tactic| sizeOf_list_dec) => `(tactic| with_reducible refine AL.ws_nil ?_)
local macro_rules | `(tactic| sizeOf_list_dec) => `(tactic| with_reducible refine AL.ws_for ?_)
local macro_rules | `(tactic| sizeOf_list_dec) => `(tactic| with_reducible refine AL.ws_sub ?_)
local macro_rules | `(tactic| sizeOf_list_dec) => `(tactic| with_reducible refine AL.ws_par ?_)
local macro_rules | `(tactic| sizeOf_list_dec) => `(tactic| with_reducible refine AL.ws_expr ?_)
local macro_rules | `(tactic| sizeOf_list_dec) => `(tactic| with_reducible refine AL.wMt ?_)
local macro_rules | `(tactic| sizeOf_list_dec) => `(tactic| with_reducible refine AL.wLst ?_)
local macro_rules | `(tactic| sizeOf_list_dec) => `(tactic| with_reducible refine AL.wTup ?_)
local macro_rules | `(tactic| sizeOf_list_dec) => `(tactic| with_reducible refine AL.wiZ ?_)
local macro_rules | `(tactic| sizeOf_list_dec) => `(tactic| with_reducible refine AL.wDefK ?_)
local macro_rules | `(tactic| sizeOf_list_dec) => `(tactic| with_reducible refine AL.wCall ?_)
local macro_rules | `(tactic| sizeOf_list_dec) => `(tactic| with_reducible refine AL.wDef ?_)
local macro_rules | `(tactic| sizeOf_list_dec) => `(tactic| with_reducible refine AL.wT ?_)
local macro_rules | `(tactic| sizeOf_list_dec) => `(tactic| with_reducible refine AL.ws_ret ?_)
local macro_rules | `(tactic| sizeOf_list_dec) => `(tactic| with_reducible refine AL.ws_if ?_)
local macro_rules | `(tactic| sizeOf_list_dec) => `(tactic| with_reducible refine AL.ws_asg ?_)
local macro_rules | `(tactic| sizeOf_list_dec) => `(tactic| with_reducible refine AL.wa0 ?_)
local macro_rules | `(tactic| sizeOf_list_dec) => `(tactic| with_reducible refine AL.wa1 ?_)
local macro_rules | `(tactic| sizeOf_list_dec) => `(tactic| with_reducible refine AL.wc ?_)
local macro_rules | `(tactic| sizeOf_list_dec) => `(tactic| with_reducible refine AL.wB ?_)
local macro_rules | `(tactic| sizeOf_list_dec) => `(tactic| ((with_reducible apply AL.wv); rfl))
local macro_rules | `(tactic| sizeOf_list_dec) => `(tactic| with_reducible refine AL.ws_seq ?_)
local macro_rules | `(tactic| array_get_dec) => `(tactic| repeat sizeOf_list_dec)
namespace K37
open PySem PySem.Spec PyProof.Rows L2 G Th AL
def keptOf (fl : Fl) (e : Ev) (ms : List Mv) (ps : List Pr) : Pr := if e.name = fl.src then (some e.stamp, some e.stamp) else (greatest (ms.filterMap (endOf ps false)), least (ms.filterMap (endOf ps true)))
def pairsUp (fl : Fl) (es : List Ev) : Nat → List Pr
  | 0 => []
  | i + 1 => pairsUp fl es i ++ [keptOf fl (es.getD i dEv) (row fl es i) (pairsUp fl es i)]
end K37
namespace K37
open PySem PySem.Spec PyProof.Rows L2 G Th AL
def l1 (fl : Fl) (es : List Ev) (ps : List Pr) (b : Bool) (i : Nat) : Option Fq := ((mv1 fl es (lastAt es i (es.getD i dEv).name) (es.getD i dEv)).filterMap (endOf ps b)).head?
end K37
namespace K37
open PySem PySem.Spec PyProof.Rows L2 G Th AL
def a1 (fl : Fl) (es : List Ev) (i : Nat) (b : Bool) : Option Fq := match lastAt es i (es.getD i dEv).name, driftOf fl (es.getD i dEv).name with
  | some j, some h => endOf (pairsUp fl es i) b ⟨j, Fr.div (Fr.sub (es.getD i dEv).stamp (es.getD j dEv).stamp) h.fast, some (Fr.div (Fr.sub (es.getD i dEv).stamp (es.getD j dEv).stamp) h.slow)⟩
  | _, _ => none
def a2 (fl : Fl) (es : List Ev) (i : Nat) (b : Bool) : Option Fq := match (es.getD i dEv).deed with
  | .hear k => match linkAt fl es k with
    | some l => endOf (pairsUp fl es i) b ⟨k, l.least, l.most⟩
    | none => none
  | _ => none
end K37
namespace K37
open PySem PySem.Spec PyProof.Rows L2 G Th AL
end K37
namespace K37
open PySem PySem.Spec PyProof.Rows L2 G Th AL
end K37
namespace K37
open PySem PySem.Spec PyProof.Rows L2 G Th AL
def slows : List Fq := [(1, 1), (1, 2), (3, 4)]
def fasts : List Fq := [(1, 1), (5, 4), (3, 2), (2, 1)]
def TxOk (x : Str) : Prop := PyData.strOk x = true ∧ x.cps.size ≤ 8
def leasts : List Fq := [(0, 1), (1, 2), (1, 1), (2, 1)]
def mores : List (Option Fq) := [none, some (0, 1), some (1, 1), some (3, 1)]
/-- a LINK as drawn -/
def LkS (l : Lk) : Prop := (l.least ∈ leasts ∧ l.fr ≠ l.to) ∧ ∀ m, l.most = some m → ∃ x, some x ∈ mores ∧ m = Fr.add l.least x
structure FlOk (fl : Fl) : Prop where
  nd : (fl.hs.map Hs.name).Nodup
  ne : 0 < fl.hs.length
  few : fl.hs.length ≤ 6
  rate : ∀ h ∈ fl.hs, h.slow ∈ slows ∧ h.fast ∈ fasts
  lk : ∀ l ∈ fl.ls, Fr.Ok 4 l.least ∧ ∀ m, l.most = some m → Fr.Ok 10 m
  lfew : fl.ls.length ≤ 8
  tx : (∀ h ∈ fl.hs, TxOk h.name) ∧ (∀ l ∈ fl.ls, TxOk l.fr ∧ TxOk l.to) ∧ TxOk fl.src
  one : ∀ h ∈ fl.hs, h.name = fl.src → h.slow = (1, 1) ∧ h.fast = (1, 1)
  lks : ∀ l ∈ fl.ls, LkS l
def StOk (x : Fq) : Prop := ∃ k : Int, x = Fr.mk k 4 ∧ k.natAbs ≤ 1000
structure EvOk (fl : Fl) (es : List Ev) (i : Nat) : Prop where
  name : (es.getD i dEv).name ∈ fl.hs.map Hs.name
  st : StOk (es.getD i dEv).stamp
  send : ∀ l, (es.getD i dEv).deed = .send l → l < fl.ls.length
  hear : ∀ k, (es.getD i dEv).deed = .hear k → k < i ∧ ∃ l, (es.getD k dEv).deed = .send l
structure HV (fl : Fl) (es : List Ev) : Prop where
  len : es.length ≤ 30
  ev : ∀ i, i < es.length → EvOk fl es i
theorem StOk.ok {x : Fq} (h : StOk x) : Fr.Ok 10 x := by
  obtain ⟨k, rfl, hk⟩ := h
  exact Fr.mk_ok (by decide) (Nat.lt_of_le_of_lt hk (by decide)) (by decide)
theorem Bd.of {n : Nat} {x : Fq} (h : Fr.Ok n x) (hn : n ≤ 900) : Bd x := ⟨h.pos, Fr.bmono h.b1 hn, Fr.bmono h.b2 hn⟩
theorem slow_ok {x : Fq} (h : x ∈ slows) : Fr.Ok 3 x ∧ 0 < x.1 := by
  simp only [slows, List.mem_cons, List.not_mem_nil, or_false] at h
  rcases h with rfl | rfl | rfl <;> exact ⟨⟨by decide, by decide, by decide, by decide⟩, by decide⟩
theorem fast_ok {x : Fq} (h : x ∈ fasts) : Fr.Ok 3 x ∧ 0 < x.1 := by
  simp only [fasts, List.mem_cons, List.not_mem_nil, or_false] at h
  rcases h with rfl | rfl | rfl | rfl <;> exact ⟨⟨by decide, by decide, by decide, by decide⟩, by decide⟩
theorem drift_some {fl : Fl} {n : Str} (h : n ∈ fl.hs.map Hs.name) : ∃ x, driftOf fl n = some x ∧ x ∈ fl.hs := by
  obtain ⟨y, hy, rfl⟩ := List.mem_map.mp h
  unfold driftOf
  cases e : fl.hs.find? (fun z => decide (z.name = y.name)) with
  | none =>
    rw [List.find?_eq_none] at e
    exact absurd (decide_eq_true rfl) (e y hy)
  | some x => exact ⟨x, rfl, List.mem_of_find?_eq_some e⟩
section
variable {fl : Fl} {es : List Ev}
def POk (n : Nat) (p : Pr) : Prop := ∀ b x, sel b p = some x → Fr.Ok n x
end
end K37
namespace K37
open PySem PySem.Spec PyProof.Rows L2 G Th AL
theorem Tp.fr {S S' : Sto} {B : Int} (h : Tp S B) (k : Kn S S') : Tp S' B := by
  obtain ⟨ns, i, q, n, h0, h1, r⟩ := h.ex
  exact ⟨ns, i, q, n, k _ _ h0, k _ _ h1, r⟩
theorem Fr1.len {S S' : Sto} (h : Fr1 S S') (h2 : 2 < S.length) : S.length ≤ S'.length := by
  have l : S.length - 1 < S.length := by omega
  have := h (S.length - 1) _ (by omega) (List.getElem?_eq_getElem l)
  have := (List.getElem?_eq_some_iff.mp this).1
  omega
theorem erase_map {α β : Type} {f : α → β} : ∀ (xs : List α) (j : Nat), (xs.map f).eraseIdx j = (xs.eraseIdx j).map f
  | [], _ => rfl
  | x :: xs, 0 => rfl
  | x :: xs, j + 1 => by
    show f x :: (xs.map f).eraseIdx j = f x :: (xs.eraseIdx j).map f
    rw [erase_map xs j]
end K37
namespace K37
open PySem PySem.Spec PyProof.Rows L2 G Th AL
theorem p40 : (2 : Int) ^ 40 = 1099511627776 := by decide
theorem p60 : (2 : Int) ^ 60 = 1152921504606846976 := by decide
theorem p62 : (2 : Int) ^ 62 = 4611686018427387904 := by decide
section
variable {T : Sto} {B : Int} {P N Hh L : Nat} {sr : Str} {nm : List Str} {y3 y4 y8 y9 y10 y11 y12 y13 : Option Val}
theorem flat_strs : ∀ xs : List Str, (xs.map Val.str).all flatA = true
  | [] => rfl
  | x :: xs => by
    rw [List.map_cons, List.all_cons, flat_strs xs]
    rfl
end
end K37
namespace K37
open PySem PySem.Spec PyProof.Rows L2 G Th AL
end K37
namespace K37
open PySem PySem.Spec PyProof.Rows L2 G Th AL
end K37
namespace K37
open PySem PySem.Spec PyProof.Rows L2 G Th AL
theorem merge_app : ∀ (kvs acc : List (Key × Val)), ((acc ++ kvs).map (·.1)).Nodup → mergeA acc kvs = acc ++ kvs
  | [], acc, _ => by simp [mergeA]
  | p :: r, acc, h => by
    have e : mergeA acc (p :: r) = mergeA (putA acc p.1 p.2) r := rfl
    have na : (acc.any fun kv => decide (kv.1 = p.1)) = false := by
      rw [List.any_eq_false]
      intro x hx hd
      rw [List.map_append, List.nodup_append] at h
      exact h.2.2 x.1 (List.mem_map.mpr ⟨x, hx, rfl⟩) p.1 (by simp) (of_decide_eq_true hd)
    have pa : putA acc p.1 p.2 = acc ++ [p] := by
      unfold putA
      rw [na]
      rfl
    rw [e, pa, merge_app r _ (by rwa [List.append_assoc])]
    rw [List.append_assoc]
    rfl
/-- a stamp by quarters -/
def Qk (x : Fq) (n : Nat) : Prop := ∃ k : Int, x = Fr.mk k 4 ∧ k.natAbs ≤ n
theorem Qk.ok {x : Fq} {n : Nat} (h : Qk x n) (hn : n ≤ 1000) : Fr.Ok 10 x := by
  obtain ⟨k, rfl, hk⟩ := h
  exact Fr.mk_ok (by decide) (Nat.lt_of_le_of_lt (Nat.le_trans hk hn) (by decide)) (by decide)
theorem Qk.mono {x : Fq} {n m : Nat} (h : Qk x n) (hn : n ≤ m) : Qk x m := by
  obtain ⟨k, e, hk⟩ := h
  exact ⟨k, e, by omega⟩
theorem mk_int (x : Int) : Fr.mk (x * 4) 4 = (x, 1) := by
  rw [Fr.mk_eq (c := x) (d := 1) (by decide) (by decide) (by omega)]
  exact Fr.mk_self (by decide) (by simp)
theorem Qk.int {x : Int} {n : Nat} (h : x.natAbs * 4 ≤ n) : Qk (x, 1) n := ⟨x * 4, (mk_int x).symm, by rw [Int.natAbs_mul]; exact h⟩
theorem Qk.add {x y : Fq} {n m : Nat} (hx : Qk x n) (hy : Qk y m) : Qk (Fr.add x y) (n + m) := by
  obtain ⟨k, rfl, hk⟩ := hx
  obtain ⟨l, rfl, hl⟩ := hy
  refine ⟨k + l, ?_, by omega⟩
  have i1 : Fr.Is (Fr.mk k 4) k 4 := ⟨rfl, by decide⟩
  have i2 : Fr.Is (Fr.mk l 4) l 4 := ⟨rfl, by decide⟩
  exact (i1.add i2).same ⟨rfl, by decide⟩ (by omega)
/-- an event more -/
theorem getD_l {es : List Ev} {e : Ev} {j : Nat} (h : j < es.length) : (es ++ [e]).getD j dEv = es.getD j dEv := by
  simp [List.getD, List.getElem?_append_left h]
theorem getD_r {es : List Ev} {e : Ev} : (es ++ [e]).getD es.length dEv = e := by
  simp [List.getD]
end K37
namespace K37
open PySem PySem.Spec PyProof.Rows L2 G Th AL
end K37
namespace Fr
def q (p : Int × Int) : Rat := (p.1 : Rat) / (p.2 : Rat)
variable {p r : Int × Int} {a b : Int}
theorem c0 (h : b ≠ 0) : (b : Rat) ≠ 0 := fun z => h (Rat.intCast_eq_zero_iff.mp z)
end Fr
namespace KL
open PySem PySem.Spec PyProof.Rows L2 G Th AL K37 Fr
theorem draw_wp {S : Sto} {B m : Int} (T : Tp S B) (m0 : 0 < m) (m1 : m < 2 ^ 60) (hB : B < 2 ^ 40) : Wp (drawL_ [.ref 1, .int m] S) fun v S' => ∃ d, v = .int d ∧ 0 ≤ d ∧ d < m ∧ Tp S' (B + 1) ∧ Kx 1 S S' := by
  obtain ⟨d, S', e, h⟩ := draw_eq T m0 m1 hB
  exact ⟨_, _, e, d, rfl, h⟩
theorem _root_.K37.Tp.kx {S T : Sto} {B : Int} {n : Nat} (h : Tp S B) (k : Kx n S T) (hn : 2 ≤ n) : Tp T B := by
  obtain ⟨ns, i, q, n, h0, h1, r⟩ := h.ex
  exact ⟨ns, i, q, n, k _ _ (by omega) h0, k _ _ (by omega) h1, r⟩
/-- letters that may be heard now -/
def Can (fl : Fl) (es : List Ev) (hrs : List Int) (t : Int) (k : Nat) : Prop := k < es.length ∧ ∃ l lk, (es.getD k dEv).deed = .send l ∧ fl.ls[l]? = some lk ∧ q lk.least ≤ ((t - hrs.getD k 0 : Int) : Rat) ∧ ∀ m, lk.most = some m → ((t - hrs.getD k 0 : Int) : Rat) ≤ q m
end KL
namespace KL
open PySem PySem.Spec PyProof.Rows L2 G Th AL K37 Fr
/-- what came of true hours -/
structure Tru (fl : Fl) (es : List Ev) (bg : Int) (hrs : List Int) : Prop where
  len : hrs.length = es.length
  src : ∀ j, j < es.length → (es.getD j dEv).name = fl.src → q (es.getD j dEv).stamp = ((bg + hrs.getD j 0 : Int) : Rat)
  go : ∀ j i h, j < es.length → lastAt es j (es.getD j dEv).name = some i → driftOf fl (es.getD j dEv).name = some h →
    q h.slow * ((hrs.getD j 0 - hrs.getD i 0 : Int) : Rat) ≤ q (es.getD j dEv).stamp - q (es.getD i dEv).stamp ∧ q (es.getD j dEv).stamp - q (es.getD i dEv).stamp ≤ q h.fast * ((hrs.getD j 0 - hrs.getD i 0 : Int) : Rat) ∧ hrs.getD i 0 ≤ hrs.getD j 0
  hear : ∀ j k, j < es.length → (es.getD j dEv).deed = .hear k → Can fl (es.take j) hrs (hrs.getD j 0) k
theorem lastAt_app {es : List Ev} {e : Ev} {n : Str} : ∀ j, j ≤ es.length → lastAt (es ++ [e]) j n = lastAt es j n
  | 0, _ => rfl
  | j + 1, h => by
    rw [lastAt, lastAt, getD_l (by omega), lastAt_app j (by omega)]
theorem hget_l {hrs : List Int} {x : Int} {j : Nat} (h : j < hrs.length) : (hrs ++ [x]).getD j 0 = hrs.getD j 0 := by
  simp [List.getD, List.getElem?_append_left h]
theorem hget_r {hrs : List Int} {x : Int} : (hrs ++ [x]).getD hrs.length 0 = x := by
  simp [List.getD]
theorem Can.app {fl : Fl} {es es' : List Ev} {hrs hrs' : List Int} {t : Int} {k : Nat} (h : Can fl es hrs t k) (h1 : ∀ k, k < es.length → es'.getD k dEv = es.getD k dEv ∧ hrs'.getD k 0 = hrs.getD k 0) (h2 : es.length ≤ es'.length) : Can fl es' hrs' t k := by
  obtain ⟨hk, l, lk, a, b, c, d⟩ := h
  obtain ⟨e1, e2⟩ := h1 k hk
  exact ⟨by omega, l, lk, by rw [e1]; exact a, b, by rw [e2]; exact c, by rw [e2]; exact d⟩
theorem Tru.snoc {fl : Fl} {es : List Ev} {bg : Int} {hrs : List Int} {e : Ev} {x : Int} (T : Tru fl es bg hrs) (h1 : e.name = fl.src → q e.stamp = ((bg + x : Int) : Rat))
    (h2 : ∀ i h, lastAt es es.length e.name = some i → driftOf fl e.name = some h → q h.slow * ((x - hrs.getD i 0 : Int) : Rat) ≤ q e.stamp - q (es.getD i dEv).stamp ∧ q e.stamp - q (es.getD i dEv).stamp ≤ q h.fast * ((x - hrs.getD i 0 : Int) : Rat) ∧ hrs.getD i 0 ≤ x)
    (h3 : ∀ k, e.deed = .hear k → Can fl es hrs x k) : Tru fl (es ++ [e]) bg (hrs ++ [x]) := by
  have hl := T.len
  refine ⟨by simp [hl], fun j hj hn => ?_, fun j i h hj hi hd => ?_, fun j k hj hd => ?_⟩
  · by_cases z : j < es.length
    · rw [getD_l z] at hn ⊢
      rw [hget_l (by omega)]
      exact T.src j z hn
    · have : j = es.length := by simp at hj; omega
      subst this
      rw [getD_r] at hn ⊢
      rw [← hl, hget_r]
      exact h1 hn
  · by_cases z : j < es.length
    · rw [getD_l z] at hi hd ⊢
      rw [lastAt_app _ (by omega)] at hi
      have := lastAt_lt hi
      rw [hget_l (by omega), hget_l (by omega), getD_l (by omega)]
      exact T.go j i h z hi hd
    · have : j = es.length := by simp at hj; omega
      subst this
      rw [getD_r] at hi hd ⊢
      rw [lastAt_app _ (Nat.le_refl _)] at hi
      have := lastAt_lt hi
      rw [getD_l (by omega), hget_l (j := i) (by omega), ← hl, hget_r]
      exact h2 i h hi hd
  · by_cases z : j < es.length
    · rw [getD_l z] at hd
      rw [hget_l (by omega), List.take_append_of_le_length (by omega)]
      refine (T.hear j k z hd).app (fun k hk => ⟨rfl, hget_l ?_⟩) (Nat.le_refl _)
      rw [List.length_take] at hk
      omega
    · have : j = es.length := by simp at hj; omega
      subst this
      rw [getD_r] at hd
      rw [← hl, hget_r, hl, List.take_append_of_le_length (Nat.le_refl _), List.take_length]
      exact (h3 k hd).app (fun k hk => ⟨rfl, hget_l (by omega)⟩) (Nat.le_refl _)
theorem slow_le {x : Fq} (h : x ∈ slows) : q x ≤ 1 ∧ 0 < q x := by
  simp only [slows, List.mem_cons, List.not_mem_nil, or_false] at h
  rcases h with rfl | rfl | rfl <;> exact ⟨by decide +kernel, by decide +kernel⟩
end KL
namespace K37
open PySem PySem.Spec PyProof.Rows L2 G Th AL
end K37
namespace K37
open PySem PySem.Spec PyProof.Rows L2 G Th AL
end K37
namespace K37
open PySem PySem.Spec PyProof.Rows L2 G Th AL
end K37
namespace K37
open PySem PySem.Spec PyProof.Rows L2 G Th AL
/-- what is shown alike in every store -/
def Sh (n w : Nat) (v : Val) : Prop := ∃ d : PyData, okD d = true ∧ d.weight ≤ w ∧ d.depth ≤ n ∧ ∀ (S : Sto) (k : Nat), n < k → toD S k v = some d
def ShL (n w : Nat) (vs : List Val) : Prop := ∃ ds : List PyData, okAll ds = true ∧ PyData.weightAll ds ≤ w ∧ PyData.depthAll ds ≤ n ∧ ∀ (S : Sto) (k : Nat), n < k → mapO (toD S k) vs = some ds
theorem Sh.mono {n w n' w' : Nat} {v : Val} (h : Sh n w v) (hn : n ≤ n') (hw : w ≤ w') : Sh n' w' v := by
  obtain ⟨d, h1, h2, h3, h4⟩ := h
  exact ⟨d, h1, by omega, by omega, fun S k hk => h4 S k (by omega)⟩
theorem ShL.nil {n w : Nat} : ShL n w [] := ⟨[], rfl, by simp [PyData.weightAll], by simp [PyData.depthAll], fun S k hk => rfl⟩
theorem ShL.cons {n w w' : Nat} {v : Val} {vs : List Val} (h : Sh n w v) (hs : ShL n w' vs) : ShL n (w + 1 + w') (v :: vs) := by
  obtain ⟨d, h1, h2, h3, h4⟩ := h
  obtain ⟨ds, g1, g2, g3, g4⟩ := hs
  refine ⟨d :: ds, ?_, ?_, ?_, fun S k hk => ?_⟩
  · show (okD d && okAll ds) = true
    rw [h1, g1]
    rfl
  · show d.weight + 1 + PyData.weightAll ds ≤ _
    omega
  · simp only [PyData.depthAll]
    omega
  · unfold mapO
    rw [h4 S k hk, g4 S k hk]
    rfl
theorem ShL.snoc {n w' : Nat} {v : Val} : ∀ {vs : List Val} {w : Nat}, ShL n w vs → Sh n w' v → ShL n (w + (w' + 1)) (vs ++ [v]) := by
  intro vs w hs h
  obtain ⟨d, h1, h2, h3, h4⟩ := h
  obtain ⟨ds, g1, g2, g3, g4⟩ := hs
  refine ⟨ds ++ [d], ?_, ?_, ?_, fun S k hk => ?_⟩
  · rw [okAll_iff] at g1 ⊢
    intro x hx
    rcases List.mem_append.mp hx with hx | hx
    · exact g1 x hx
    · simp only [List.mem_singleton] at hx
      rw [hx]
      exact h1
  · have : ∀ xs : List PyData, PyData.weightAll (xs ++ [d]) = PyData.weightAll xs + (d.weight + 1) := by
      intro xs
      induction xs with
      | nil => simp [PyData.weightAll]
      | cons x xs ih =>
        simp only [List.cons_append, PyData.weightAll, ih]
        omega
    rw [this]
    omega
  · have : ∀ xs : List PyData, PyData.depthAll xs ≤ n → PyData.depthAll (xs ++ [d]) ≤ n := by
      intro xs
      induction xs with
      | nil =>
        intro _
        simp only [List.nil_append, PyData.depthAll]
        omega
      | cons x xs ih =>
        intro hx
        simp only [List.cons_append, PyData.depthAll] at hx ⊢
        have := ih (by omega)
        omega
    exact this ds g3
  · have : ∀ (us : List Val) (es : List PyData), mapO (toD S k) us = some es → mapO (toD S k) (us ++ [v]) = some (es ++ [d]) := by
      intro us
      induction us with
      | nil =>
        intro es he
        cases he
        simp only [List.nil_append, mapO, h4 S k hk, Option.bind_some]
      | cons u us ih =>
        intro es he
        simp only [mapO] at he
        obtain ⟨b, e1, e2⟩ := Option.bind_eq_some_iff.mp he
        obtain ⟨bs, e3, e4⟩ := Option.bind_eq_some_iff.mp e2
        cases e4
        simp only [List.cons_append, mapO, e1, ih bs e3, Option.bind_some]
    exact this vs ds (g4 S k hk)
theorem ShL.mono {n w n' w' : Nat} {vs : List Val} (h : ShL n w vs) (hn : n ≤ n') (hw : w ≤ w') : ShL n' w' vs := by
  obtain ⟨d, h1, h2, h3, h4⟩ := h
  exact ⟨d, h1, by omega, by omega, fun S k hk => h4 S k (by omega)⟩
theorem ShL.map {α : Type} {n w : Nat} {f : α → Val} : ∀ xs : List α, (∀ x ∈ xs, Sh n w (f x)) → ShL n ((w + 1) * xs.length) (xs.map f)
  | [], _ => ShL.nil
  | x :: xs, h => by
    have := ShL.cons (h x (by simp)) (ShL.map xs fun y hy => h y (by simp [hy]))
    refine this.mono (Nat.le_refl _) ?_
    rw [List.length_cons, Nat.mul_succ]
    omega
theorem ShL.tup {n w : Nat} {vs : List Val} (h : ShL n w vs) : Sh (n + 1) w (.tup vs) := by
  obtain ⟨ds, g1, g2, g3, g4⟩ := h
  refine ⟨.tuple ds, g1, ?_, ?_, fun S k hk => ?_⟩
  · show PyData.weightAll ds ≤ w
    exact g2
  · simp only [PyData.depth]
    omega
  · obtain ⟨k, rfl⟩ : ∃ j, k = j + 1 := ⟨k - 1, by omega⟩
    show (mapO (toD S k) vs).map PyData.tuple = _
    rw [g4 S k (by omega)]
    rfl
theorem Sh.int {i : Int} {b : Nat} (h : i.natAbs < 2 ^ b) (hb : b ≤ 900) : Sh 0 b (.int i) := by
  have h9 : i.natAbs < 2 ^ 900 := Nat.lt_of_lt_of_le h (Nat.pow_le_pow_right (by decide) hb)
  refine ⟨.int i, decide_eq_true h9, ?_, by simp [PyData.depth], fun S k hk => ?_⟩
  · unfold PyData.weight
    split
    · omega
    · next e =>
      have h0 : i.natAbs ≠ 0 := by
        intro z
        apply e
        rw [Int.natAbs_eq_zero.mp z]
        rfl
      have := (Nat.log2_lt h0).mpr h
      omega
  · obtain ⟨k, rfl⟩ : ∃ j, k = j + 1 := ⟨k - 1, by omega⟩
    rfl
theorem Sh.non {n w : Nat} : Sh n w .non := by
  refine ⟨.none, rfl, by simp [PyData.weight], by simp [PyData.depth], fun S k hk => ?_⟩
  obtain ⟨k, rfl⟩ : ∃ j, k = j + 1 := ⟨k - 1, by omega⟩
  rfl
theorem Sh.str {x : Str} (h : TxOk x) : Sh 0 8 (.str x) := by
  refine ⟨.str x, h.1, by simp only [PyData.weight]; exact h.2, by simp [PyData.depth], fun S k hk => ?_⟩
  obtain ⟨k, rfl⟩ : ∃ j, k = j + 1 := ⟨k - 1, by omega⟩
  rfl
theorem Sh.fr {x : Fq} {n : Nat} (h : Fr.Ok n x) (hn : n ≤ 900) : Sh 1 (2 * n + 2) (frV x) := by
  have := (ShL.cons (Sh.int h.b1 hn) (ShL.cons (Sh.int h.b2 hn) (ShL.nil (w := 0)))).tup
  exact this.mono (by omega) (by omega)
theorem Sh.o {x : Option Fq} {n : Nat} (h : ∀ q, x = some q → Fr.Ok n q) (hn : n ≤ 900) : Sh 1 (2 * n + 2) (oV x) := by
  cases x with
  | none => exact Sh.non
  | some q => exact Sh.fr (h q rfl) hn
theorem Sh.pr {p : Pr} {n : Nat} (h : POk n p) (hn : n ≤ 900) : Sh 2 (4 * n + 6) (prV p) := by
  have a : Sh 1 (2 * n + 2) (oV p.1) := Sh.o (fun q hq => h false q hq) hn
  have b : Sh 1 (2 * n + 2) (oV p.2) := Sh.o (fun q hq => h true q hq) hn
  have := (ShL.cons a (ShL.cons b (ShL.nil (w := 0)))).tup
  exact this.mono (by omega) (by omega)
theorem Sh.hs {h : Hs} (t : TxOk h.name) (a : h.slow ∈ slows) (b : h.fast ∈ fasts) : Sh 2 40 (hsV h) := by
  have := (ShL.cons (Sh.str t |>.mono (n' := 1) (by omega) (Nat.le_refl _)) (ShL.cons (Sh.fr (slow_ok a).1 (by decide)) (ShL.cons (Sh.fr (fast_ok b).1 (by decide)) (ShL.nil (w := 0))))).tup
  exact this.mono (by omega) (by omega)
theorem Sh.lk {l : Lk} (t : TxOk l.fr) (t2 : TxOk l.to) (a : Fr.Ok 4 l.least) (b : ∀ m, l.most = some m → Fr.Ok 10 m) : Sh 2 100 (lkV l) := by
  have := (ShL.cons (Sh.str t |>.mono (n' := 1) (by omega) (Nat.le_refl _)) (ShL.cons (Sh.str t2 |>.mono (n' := 1) (by omega) (Nat.le_refl _)) (ShL.cons (Sh.fr a (by decide)) (ShL.cons (Sh.o b (by decide)) (ShL.nil (w := 0)))))).tup
  exact this.mono (by omega) (by omega)
theorem Sh.fl {fl : Fl} (fo : FlOk fl) : Sh 4 2000 (flV fl) := by
  have h1 := (ShL.map (f := hsV) fl.hs fun h hh => Sh.hs (fo.tx.1 h hh) (fo.rate h hh).1 (fo.rate h hh).2).tup
  have h2 := (ShL.map (f := lkV) fl.ls fun l hl => Sh.lk (fo.tx.2.1 l hl).1 (fo.tx.2.1 l hl).2 (fo.lk l hl).1 (fo.lk l hl).2).tup
  have h3 := Sh.str fo.tx.2.2
  have a := fo.few
  have b := fo.lfew
  have := (ShL.cons h1 (ShL.cons h2 (ShL.cons (h3.mono (n' := 3) (by omega) (Nat.le_refl _)) (ShL.nil (w := 0))))).tup
  exact this.mono (by omega) (by omega)
theorem Sh.dd {d : Dd} (h : ∀ l, d = .send l → l < 8) (h2 : ∀ k, d = .hear k → k < 30) : Sh 1 20 (ddV d) := by
  have k1 : TxOk (Str.ofString "mark") := ⟨by decide +kernel, by decide +kernel⟩
  have k2 : TxOk (Str.ofString "send") := ⟨by decide +kernel, by decide +kernel⟩
  have k3 : TxOk (Str.ofString "hear") := ⟨by decide +kernel, by decide +kernel⟩
  cases d with
  | mark => exact (ShL.cons (Sh.str k1) (ShL.nil (w := 0))).tup.mono (by omega) (by omega)
  | send l =>
    have := h l rfl
    have i : Sh 0 5 (.int ((l : Nat) : Int)) := Sh.int (by have : (2 : Nat) ^ 5 = 32 := rfl; omega) (by decide)
    exact (ShL.cons (Sh.str k2) (ShL.cons i (ShL.nil (w := 0)))).tup.mono (by omega) (by omega)
  | hear k =>
    have := h2 k rfl
    have i : Sh 0 5 (.int ((k : Nat) : Int)) := Sh.int (by have : (2 : Nat) ^ 5 = 32 := rfl; omega) (by decide)
    exact (ShL.cons (Sh.str k3) (ShL.cons i (ShL.nil (w := 0)))).tup.mono (by omega) (by omega)
theorem Sh.hi {fl : Fl} {es : List Ev} (fo : FlOk fl) (hv : HV fl es) : Sh 5 5000 (hiV fl es) := by
  have l30 := hv.len
  have ev : ∀ e ∈ es, Sh 2 60 (evV e) := by
    intro e he
    obtain ⟨i, hi, rfl⟩ := List.getElem_of_mem he
    have g : es.getD i dEv = es[i] := by simp [List.getD, List.getElem?_eq_getElem hi]
    have ok := hv.ev i hi
    have nm := ok.name
    rw [g] at nm
    obtain ⟨h, hh, e1⟩ := List.mem_map.mp nm
    have tx : TxOk es[i].name := by rw [← e1]; exact fo.tx.1 h hh
    have st := ok.st.ok
    rw [g] at st
    have d := Sh.dd (d := es[i].deed) (fun l hl => by have := ok.send l (by rw [g]; exact hl); have := fo.lfew; omega) (fun k hk => by have := (ok.hear k (by rw [g]; exact hk)).1; omega)
    have := (ShL.cons ((Sh.str tx).mono (n' := 1) (by omega) (Nat.le_refl _)) (ShL.cons (Sh.fr st (by decide)) (ShL.cons d (ShL.nil (w := 0))))).tup
    exact this.mono (by omega) (by omega)
  have h2 := (ShL.map (f := evV) es ev).tup
  have := (ShL.cons (Sh.fl fo) (ShL.cons (h2.mono (n' := 4) (w' := 1900) (by omega) (by omega)) (ShL.nil (w := 0)))).tup
  exact this.mono (by omega) (by omega)
/-- what repr tells -/
theorem Sh.repr {n w : Nat} {v : Val} (h : Sh n w v) (hn : n < 40) (hw : w ≤ 40000) : ∃ x : Str, ∀ S, gRepr [v] S = some (.str x, S) := by
  obtain ⟨d, h1, h2, h3, h4⟩ := h
  refine ⟨d.shown, fun S => ?_⟩
  unfold gRepr
  simp only [h4 S 40 hn]
  rw [if_pos ⟨h1, by omega, by omega⟩]
end K37
namespace KL
open PySem PySem.Spec PyProof.Rows L2 G Th AL K37 Fr
/-- the same events, so far -/
theorem lastAt_congr {es es' : List Ev} {n : Str} : ∀ i, (∀ j, j < i → (es'.getD j dEv).name = (es.getD j dEv).name) → lastAt es' i n = lastAt es i n
  | 0, _ => rfl
  | i + 1, h => by
    rw [lastAt, lastAt, h i (by omega), lastAt_congr i fun j hj => h j (by omega)]
/-- one that hears made a mark -/
structure Mk (es es' : List Ev) (a : Nat) : Prop where
  len : es'.length = es.length
  hear : ∃ k, (es.getD a dEv).deed = .hear k
  at_ : es'.getD a dEv = ⟨(es.getD a dEv).name, (es.getD a dEv).stamp, .mark⟩
  off : ∀ j, j ≠ a → es'.getD j dEv = es.getD j dEv
section
variable {fl : Fl} {es es' : List Ev} {a : Nat}
theorem Mk.name (M : Mk es es' a) (j : Nat) : (es'.getD j dEv).name = (es.getD j dEv).name ∧ (es'.getD j dEv).stamp = (es.getD j dEv).stamp := by
  by_cases z : j = a
  · subst z
    rw [M.at_]
    exact ⟨rfl, rfl⟩
  · rw [M.off j z]
    exact ⟨rfl, rfl⟩
theorem Mk.send (M : Mk es es' a) {k l : Nat} (h : (es.getD k dEv).deed = .send l) : (es'.getD k dEv).deed = .send l := by
  rw [M.off k fun z => ?_]
  · exact h
  · obtain ⟨k', hk'⟩ := M.hear
    rw [z, hk'] at h
    cases h
theorem Mk.hv (M : Mk es es' a) (hv : HV fl es) : HV fl es' := by
  refine ⟨by rw [M.len]; exact hv.len, fun i hi => ?_⟩
  have e := hv.ev i (by rw [← M.len]; exact hi)
  obtain ⟨n1, n2⟩ := M.name i
  refine ⟨by rw [n1]; exact e.name, by rw [n2]; exact e.st, fun l hl => ?_, fun k hk => ?_⟩
  · by_cases z : i = a
    · rw [z, M.at_] at hl
      cases hl
    · rw [M.off i z] at hl
      exact e.send l hl
  · by_cases z : i = a
    · rw [z, M.at_] at hk
      cases hk
    · rw [M.off i z] at hk
      obtain ⟨h1, l, h2⟩ := e.hear k hk
      exact ⟨h1, l, M.send h2⟩
theorem Mk.row (M : Mk es es' a) (hv : HV fl es) {i : Nat} (hi : i < es.length) {m : Mv} (hm : m ∈ K37.row fl es' i) : m ∈ K37.row fl es i := by
  obtain ⟨n1, n2⟩ := M.name i
  unfold K37.row movesInto at hm ⊢
  rw [n1] at hm
  have e0 : lastAt es' i (es.getD i dEv).name = lastAt es i (es.getD i dEv).name := lastAt_congr i fun j hj => (M.name j).1
  rw [e0] at hm
  rcases List.mem_append.mp hm with hm | hm
  · refine List.mem_append_left _ ?_
    unfold mv1 at hm ⊢
    rw [n1] at hm
    cases hl : lastAt es i (es.getD i dEv).name with
    | none => rw [hl] at hm; simp at hm
    | some j =>
      rw [hl] at hm
      cases hd : driftOf fl (es.getD i dEv).name with
      | none => rw [hd] at hm; simp at hm
      | some d =>
        rw [hd] at hm
        simp only [n2, (M.name j).2] at hm
        exact hm
  · refine List.mem_append_right _ ?_
    by_cases z : i = a
    · rw [z, M.at_] at hm
      simp [mv2] at hm
    · rw [M.off i z] at hm
      cases hd : (es.getD i dEv).deed with
      | mark => rw [hd] at hm; simp [mv2] at hm
      | send l => rw [hd] at hm; simp [mv2] at hm
      | hear k =>
        rw [hd] at hm
        obtain ⟨h1, l, h2⟩ := (hv.ev i hi).hear k hd
        have h3 := M.send h2
        simp only [mv2, linkAt, h3] at hm
        simp only [mv2, linkAt, h2]
        exact hm
end
end KL
namespace KL
open PySem PySem.Spec PyProof.Rows L2 G Th AL K37 Fr
section
variable {S : Sto} {Q : Val → Sto → Prop} {x y : Val} {vs ws : List Val}
theorem vNeNil {a b : Nat} {ns : List Int} (hx : x = .ref a) (hy : y = .ref b) (h0 : S[a]? = some (.lst (ns.map .int))) (h1 : S[b]? = some (.lst [])) (q : Q (.bl (!ns.isEmpty)) S) : Wp (gNe x y S) Q := by
  subst hx hy
  exact ⟨_, _, ne_nil h0 h1, q⟩
end
end KL
namespace K08
open PySem PySem.Spec PyProof.Rows L2 G Th AL
open K37
noncomputable def house_events_B : SF := (sSeq (sAsg (.tp [(.nm 2), (.nm 3)]) (eV 0))
    (sSeq (sIf (eT (eB gIs (eDef drift_of_ 2 (aCons (eV 2) (aCons (eV 1) aNil))) (eC .non))) sStuck sNil)
    (sRet (eCall gTuple (aCons (eLc (.tp [(.nm 4), (.nm 5)]) (iEn (aCons (eV 3) aNil)) (eT (eB gEq (eB gIxA (eV 5) (eC (.int 0))) (eV 1))) (eV 4) [4, 5]) aNil)))))
noncomputable def house_events_ : FA := runF 6 house_events_B
noncomputable def source_times_B : SF := (sSeq (sAsg (.tp [(.nm 4), (.nm 5)]) (eV 0))
    (sSeq (sAsg (.nm 2) (eDef house_events_ 2 (aCons (eV 0) (aCons (eB gIxA (eV 4) (eC (.int 2))) aNil))))
    (sSeq (sIf (eT (eB gEq (eCall gLen (aCons (eV 2) aNil)) (eC (.int 0)))) (sRet (eCall gTuple (aCons (eLc (.nm 7) (iSeq (eV 5)) bYes (eC .non) [7]) aNil))) sNil)
    (sSeq (sAsg (.nm 3) (eDef less_ 2 (aCons (eB gIxA (eB gIxA (eV 5) (eB gIxA (eV 2) (eC (.int 0)))) (eC (.int 1))) (aCons (eB gIxA (eV 1) (eB gIxA (eV 2) (eC (.int 0)))) aNil))))
    (sRet (eCall gTuple (aCons (eLc (.nm 6) (iSeq (eV 1)) bYes (eDef added_ 2 (aCons (eV 6) (aCons (eV 3) aNil))) [6]) aNil)))))))
noncomputable def source_times_ : FA := runF 8 source_times_B
noncomputable def feedL_B : SF := (sRet (eLst (aCons (eSl gSl (eV 0) oN (oS (eC (.int 63)))) (aCons (eC (.int 0)) (aCons (eC (.int 0)) (aCons (eC (.int 0)) aNil))))))
noncomputable def feedL_ : FA := runF 1 feedL_B
noncomputable def drawL_B : SF := (sSeq (sSub gSetA (eV 0) (eC (.int 3)) (eB gAdd (eB gIxA (eV 0) (eC (.int 3))) (eC (.int 1))))
    (sSeq (sIf (eT (eB gGt (eB gIxA (eV 0) (eC (.int 2))) (eC (.int 0)))) (sSeq (sAsg (.nm 4) (eB gMod (eB gIxA (eV 0) (eC (.int 2))) (eV 1)))
    (sSeq (sSub gSetA (eV 0) (eC (.int 2)) (eB gDiv (eB gIxA (eV 0) (eC (.int 2))) (eV 1)))
    (sRet (eV 4)))) sNil)
    (sSeq (sAsg (.nm 2) (eC (.int 5)))
    (sSeq (sIf (eT (eB gNe (eB gIxA (eV 0) (eC (.int 0))) (eLst aNil))) (sAsg (.nm 2) (eB gIxA (eB gIxA (eV 0) (eC (.int 0))) (eB gMod (eB gIxA (eV 0) (eC (.int 1))) (eCall gLen (aCons (eB gIxA (eV 0) (eC (.int 0))) aNil))))) sNil)
    (sSeq (sSub gSetA (eV 0) (eC (.int 1)) (eB gAdd (eB gIxA (eV 0) (eC (.int 1))) (eC (.int 1))))
    (sSeq (sIf (bAnd (eT (eB gGe (eV 2) (eB gPow (eC (.int 10)) (eC (.int 18))))) (eT (eB gLe (eB gIxA (eV 0) (eC (.int 1))) (eCall gLen (aCons (eB gIxA (eV 0) (eC (.int 0))) aNil))))) (sSeq (sSub gSetA (eV 0) (eC (.int 2)) (eB gDiv (eV 2) (eV 1)))
    (sRet (eB gMod (eV 2) (eV 1)))) sNil)
    (sSeq (sAsg (.nm 3) (eB gMod (eB gPow (eB gAdd (eB gAdd (eB gMod (eV 2) (eC (.int 2147483629))) (eB gMul (eC (.int 7919)) (eB gIxA (eV 0) (eC (.int 3))))) (eC (.int 1))) (eC (.int 5))) (eC (.int 2147483647))))
    (sRet (eB gMod (eB gDiv (eB gMod (eB gPow (eB gAdd (eV 3) (eB gMul (eC (.int 104729)) (eB gIxA (eV 0) (eC (.int 3))))) (eC (.int 5))) (eC (.int 2147483587))) (eC (.int 64))) (eV 1))))))))))
noncomputable def drawL_ : FA := runF 5 drawL_B
noncomputable def divisorL_B : SF := (sSeq (sWhile (eT (eB gGt (eV 1) (eC (.int 0)))) (sPar [0, 1] (aCons (eV 1) (aCons (eB gMod (eV 0) (eV 1)) aNil))))
    (sRet (eV 0)))
noncomputable def divisorL_ : FA := runF 2 divisorL_B
noncomputable def madeL_B : SF := (sSeq (sAsg (.nm 2) (eDef divisorL_ 2 (aCons (eCall gAbs (aCons (eV 0) aNil)) (aCons (eV 1) aNil))))
    (sRet (eTup (aCons (eB gDiv (eV 0) (eV 2)) (aCons (eB gDiv (eV 1) (eV 2)) aNil)))))
noncomputable def madeL_ : FA := runF 3 madeL_B
noncomputable def sumL_B : SF := (sRet (eDef madeL_ 2 (aCons (eB gAdd (eB gMul (eB gIxA (eV 0) (eC (.int 0))) (eB gIxA (eV 1) (eC (.int 1)))) (eB gMul (eB gMul (eV 2) (eB gIxA (eV 1) (eC (.int 0)))) (eB gIxA (eV 0) (eC (.int 1))))) (aCons (eB gMul (eB gIxA (eV 0) (eC (.int 1))) (eB gIxA (eV 1) (eC (.int 1)))) aNil))))
noncomputable def sumL_ : FA := runF 3 sumL_B
noncomputable def fieldL_B : SF := (sSeq (sAsg (.nm 1) (eLst (aCons (eC (.str "a")) (aCons (eC (.str "ab")) (aCons (eC (.str "b")) (aCons (eC (.str "h")) (aCons (eC (.str "hh")) (aCons (eC (.str "x")) (aCons (eC (.str "zz")) (aCons (eC (.str "zzzzzzzz")) aNil))))))))))
    (sSeq (sPar [6, 7, 8] (aCons (eB gIxA (eLst (aCons (eC (.int 3)) (aCons (eC (.int 2)) (aCons (eC (.int 1)) (aCons (eC (.int 4)) (aCons (eC (.int 6)) (aCons (eC (.int 5)) aNil))))))) (eDef drawL_ 2 (aCons (eV 0) (aCons (eC (.int 6)) aNil)))) (aCons (eLst aNil) (aCons (eLst aNil) aNil))))
    (sSeq (sAsg (.nm 2) (eLst (aCons (eTup (aCons (eTup (aCons (eC (.int 1)) (aCons (eC (.int 1)) aNil))) (aCons (eTup (aCons (eC (.int 1)) (aCons (eC (.int 1)) aNil))) aNil))) (aCons (eTup (aCons (eTup (aCons (eC (.int 1)) (aCons (eC (.int 2)) aNil))) (aCons (eTup (aCons (eC (.int 2)) (aCons (eC (.int 1)) aNil))) aNil))) (aCons (eTup (aCons (eTup (aCons (eC (.int 3)) (aCons (eC (.int 4)) aNil))) (aCons (eTup (aCons (eC (.int 5)) (aCons (eC (.int 4)) aNil))) aNil))) (aCons (eTup (aCons (eTup (aCons (eC (.int 1)) (aCons (eC (.int 1)) aNil))) (aCons (eTup (aCons (eC (.int 3)) (aCons (eC (.int 2)) aNil))) aNil))) (aCons (eTup (aCons (eTup (aCons (eC (.int 1)) (aCons (eC (.int 2)) aNil))) (aCons (eTup (aCons (eC (.int 1)) (aCons (eC (.int 1)) aNil))) aNil))) aNil)))))))
    (sSeq (sWhile (eT (eB gGt (eCall gLen (aCons (eV 1) aNil)) (eV 6))) (sExpr (eMt isL gPop (eV 1) (aCons (eDef drawL_ 2 (aCons (eV 0) (aCons (eCall gLen (aCons (eV 1) aNil)) aNil))) aNil))))
    (sSeq (sAsg (.nm 3) (eB gIxA (eV 1) (eDef drawL_ 2 (aCons (eV 0) (aCons (eV 6) aNil)))))
    (sSeq (sFor (.nm 4) (iSeq (eV 1)) (sExpr (eMt isL gApp (eV 7) (aCons (eB gAdd (eTup (aCons (eV 4) aNil)) (eB gIxA (eV 2) (eIf (eT (eB gNe (eV 4) (eV 3))) (eDef drawL_ 2 (aCons (eV 0) (aCons (eC (.int 5)) aNil))) (eC (.int 0))))) aNil))))
    (sSeq (sFor (.nm 5) (iRg1 (aCons (eB gMul (eDef drawL_ 2 (aCons (eV 0) (aCons (eC (.int 9)) aNil))) (eCall gInt (aCons (eB gGt (eV 6) (eC (.int 1))) aNil))) aNil)) (sSeq (sAsg (.nm 9) (eDef drawL_ 2 (aCons (eV 0) (aCons (eV 6) aNil))))
    (sSeq (sAsg (.nm 10) (eB gMod (eB gAdd (eB gAdd (eV 9) (eC (.int 1))) (eDef drawL_ 2 (aCons (eV 0) (aCons (eB gSub (eV 6) (eC (.int 1))) aNil)))) (eV 6)))
    (sSeq (sAsg (.nm 11) (eB gIxA (eLst (aCons (eTup (aCons (eC (.int 0)) (aCons (eC (.int 1)) aNil))) (aCons (eTup (aCons (eC (.int 1)) (aCons (eC (.int 2)) aNil))) (aCons (eTup (aCons (eC (.int 1)) (aCons (eC (.int 1)) aNil))) (aCons (eTup (aCons (eC (.int 3)) (aCons (eC (.int 1)) aNil))) aNil))))) (eDef drawL_ 2 (aCons (eV 0) (aCons (eC (.int 4)) aNil)))))
    (sSeq (sAsg (.nm 12) (eLst (aCons (eC .non) (aCons (eV 11) (aCons (eDef madeL_ 2 (aCons (eB gAdd (eB gIxA (eV 11) (eC (.int 0))) (eB gIxA (eV 11) (eC (.int 1)))) (aCons (eB gIxA (eV 11) (eC (.int 1))) aNil))) (aCons (eDef madeL_ 2 (aCons (eB gAdd (eB gIxA (eV 11) (eC (.int 0))) (eB gMul (eC (.int 9)) (eB gIxA (eV 11) (eC (.int 1))))) (aCons (eB gIxA (eV 11) (eC (.int 1))) aNil))) aNil))))))
    (sExpr (eMt isL gApp (eV 8) (aCons (eTup (aCons (eB gIxA (eV 1) (eV 9)) (aCons (eB gIxA (eV 1) (eV 10)) (aCons (eV 11) (aCons (eB gIxA (eV 12) (eDef drawL_ 2 (aCons (eV 0) (aCons (eC (.int 4)) aNil)))) aNil))))) aNil))))))))
    (sRet (eTup (aCons (eCall gTuple (aCons (eV 7) aNil)) (aCons (eCall gTuple (aCons (eV 8) aNil)) (aCons (eV 3) aNil))))))))))))
noncomputable def fieldL_ : FA := runF 13 fieldL_B
noncomputable def fitsL_B : SF := (sSeq (sAsg (.nm 3) (eDef sumL_ 3 (aCons (eV 2) (aCons (eV 1) (aCons (eU gNeg (eC (.int 1))) aNil)))))
    (sSeq (sIf (eT (eB gLt (eB gMul (eB gIxA (eV 3) (eC (.int 0))) (eB gIxA (eB gIxA (eV 0) (eC (.int 2))) (eC (.int 1)))) (eB gMul (eB gIxA (eB gIxA (eV 0) (eC (.int 2))) (eC (.int 0))) (eB gIxA (eV 3) (eC (.int 1)))))) (sRet (eC (.bl false))) sNil)
    (sRet (eOr (eB gIs (eB gIxA (eV 0) (eC (.int 3))) (eC .non)) (eB gLe (eB gMul (eB gIxA (eV 3) (eC (.int 0))) (eB gIxA (eB gIxA (eV 0) (eC (.int 3))) (eC (.int 1)))) (eB gMul (eB gIxA (eB gIxA (eV 0) (eC (.int 3))) (eC (.int 0))) (eB gIxA (eV 3) (eC (.int 1)))))))))
noncomputable def fitsL_ : FA := runF 4 fitsL_B
noncomputable def deedsL_B : SF := (sSeq (sAsg (.nm 5) (eB gIxA (eV 0) (eC (.int 1))))
    (sSeq (sAsg (.nm 6) (eB gAdd (eLst (aCons (eTup (aCons (eC (.str "mark")) aNil)) aNil)) (eLc (.nm 8) (iRg1 (aCons (eCall gLen (aCons (eV 5) aNil)) aNil)) (eT (eB gEq (eB gIxA (eB gIxA (eV 5) (eV 8)) (eC (.int 0))) (eV 3))) (eTup (aCons (eC (.str "send")) (aCons (eV 8) aNil))) [8])))
    (sSeq (sFor (.nm 7) (iRg1 (aCons (eCall gLen (aCons (eV 1) aNil)) aNil)) (sIf (bAnd (eT (eB gEq (eB gIxA (eB gIxA (eB gIxA (eV 1) (eV 7)) (eC (.int 2))) (eC (.int 0))) (eC (.str "send")))) (eT (eB gEq (eB gIxA (eB gIxA (eV 5) (eB gIxA (eB gIxA (eB gIxA (eV 1) (eV 7)) (eC (.int 2))) (eC (.int 1)))) (eC (.int 1))) (eV 3)))) (sIf (eT (eDef fitsL_ 3 (aCons (eB gIxA (eV 5) (eB gIxA (eB gIxA (eB gIxA (eV 1) (eV 7)) (eC (.int 2))) (eC (.int 1)))) (aCons (eB gIxA (eV 2) (eV 7)) (aCons (eV 4) aNil))))) (sAsg (.nm 6) (eB gAdd (eV 6) (eB gRep (eLst (aCons (eTup (aCons (eC (.str "hear")) (aCons (eV 7) aNil))) aNil)) (eC (.int 2))))) sNil) sNil))
    (sRet (eV 6)))))
noncomputable def deedsL_ : FA := runF 9 deedsL_B
noncomputable def sceneL_B : SF := (sSeq (sAsg (.nm 2) (eDef fieldL_ 1 (aCons (eV 0) aNil)))
    (sSeq (sAsg (.tp [(.nm 4), (.nm 5), (.nm 6), (.nm 7)]) (eTup (aCons (eLst aNil) (aCons (eLst aNil) (aCons eDic (aCons (eTup (aCons (eC (.int 0)) (aCons (eC (.int 1)) aNil))) aNil))))))
    (sSeq (sFor (.nm 3) (iRg1 (aCons (eB gIxA (eLst (aCons (eC (.int 6)) (aCons (eC (.int 0)) (aCons (eC (.int 1)) (aCons (eC (.int 12)) (aCons (eV 1) aNil)))))) (eDef drawL_ 2 (aCons (eV 0) (aCons (eC (.int 5)) aNil)))) aNil)) (sSeq (sAsg (.nm 7) (eDef sumL_ 3 (aCons (eV 7) (aCons (eB gIxA (eLst (aCons (eTup (aCons (eC (.int 0)) (aCons (eC (.int 1)) aNil))) (aCons (eTup (aCons (eC (.int 1)) (aCons (eC (.int 2)) aNil))) (aCons (eTup (aCons (eC (.int 1)) (aCons (eC (.int 1)) aNil))) (aCons (eTup (aCons (eC (.int 0)) (aCons (eC (.int 1)) aNil))) aNil))))) (eDef drawL_ 2 (aCons (eV 0) (aCons (eC (.int 4)) aNil)))) (aCons (eC (.int 1)) aNil)))))
    (sSeq (sAsg (.tp [(.nm 10), (.nm 11), (.nm 12)]) (eB gIxA (eB gIxA (eV 2) (eC (.int 0))) (eDef drawL_ 2 (aCons (eV 0) (aCons (eCall gLen (aCons (eB gIxA (eV 2) (eC (.int 0))) aNil)) aNil)))))
    (sSeq (sAsg (.tp [(.nm 8), (.nm 13)]) (eGet2 (eV 6) (eV 10) (eTup (aCons (eTup (aCons (eDef drawL_ 2 (aCons (eV 0) (aCons (eC (.int 10)) aNil))) (aCons (eC (.int 1)) aNil))) (aCons (eV 7) aNil)))))
    (sSeq (sPar [14, 15] (aCons (eDef sumL_ 3 (aCons (eV 7) (aCons (eV 13) (aCons (eU gNeg (eC (.int 1))) aNil)))) (aCons (eB gIxA (eLst (aCons (eV 11) (aCons (eV 12) (aCons (eTup (aCons (eC (.int 1)) (aCons (eC (.int 1)) aNil))) aNil)))) (eDef drawL_ 2 (aCons (eV 0) (aCons (eC (.int 3)) aNil)))) aNil)))
    (sSeq (sAsg (.nm 8) (eDef sumL_ 3 (aCons (eV 8) (aCons (eDef madeL_ 2 (aCons (eB gMul (eB gIxA (eV 14) (eC (.int 0))) (eB gIxA (eV 15) (eC (.int 0)))) (aCons (eB gMul (eB gIxA (eV 14) (eC (.int 1))) (eB gIxA (eV 15) (eC (.int 1)))) aNil))) (aCons (eC (.int 1)) aNil)))))
    (sSeq (sAsg (.nm 9) (eDef deedsL_ 5 (aCons (eV 2) (aCons (eV 4) (aCons (eV 5) (aCons (eV 10) (aCons (eV 7) aNil)))))))
    (sSeq (sExpr (eMt isL gApp (eV 4) (aCons (eTup (aCons (eV 10) (aCons (eV 8) (aCons (eB gIxA (eV 9) (eDef drawL_ 2 (aCons (eV 0) (aCons (eCall gLen (aCons (eV 9) aNil)) aNil)))) aNil)))) aNil)))
    (sSeq (sExpr (eMt isL gApp (eV 5) (aCons (eV 7) aNil)))
    (sSub gSetA (eV 6) (eV 10) (eTup (aCons (eV 8) (aCons (eV 7) aNil)))))))))))))
    (sRet (eTup (aCons (eTup (aCons (eV 2) (aCons (eCall gTuple (aCons (eV 4) aNil)) aNil))) (aCons (eCall gTuple (aCons (eV 5) aNil)) aNil)))))))
noncomputable def sceneL_ : FA := runF 16 sceneL_B
noncomputable def law_B : SF := (sSeq (sAsg (.nm 1) (eDef feedL_ 1 (aCons (eV 0) aNil)))
    (sSeq (sFor (.nm 2) (iRg1 (aCons (eC (.int 3)) aNil)) (sSeq (sAsg (.tp [(.nm 9), (.nm 10)]) (eDef sceneL_ 2 (aCons (eV 1) (aCons (eC (.int 30)) aNil))))
    (sSeq (sAsg (.tp [(.nm 11), (.nm 12)]) (eV 9))
    (sSeq (sAsg (.nm 3) (eB gIxA (eLst (aCons (eTup (aCons (eC (.int 0)) (aCons (eC (.int 1)) aNil))) (aCons (eTup (aCons (eU gNeg (eC (.int 7))) (aCons (eC (.int 3)) aNil))) (aCons (eTup (aCons (eC (.int 90)) (aCons (eC (.int 1)) aNil))) aNil)))) (eV 2)))
    (sSeq (sAsg (.nm 4) (eCall gTuple (aCons (eLc (.nm 14) (iSeq (eV 10)) bYes (eDef sumL_ 3 (aCons (eV 14) (aCons (eV 3) (aCons (eC (.int 1)) aNil)))) [14]) aNil)))
    (sSeq (sAsg (.nm 5) (eCall gRepr (aCons (eTup (aCons (eV 9) (aCons (eV 4) aNil))) aNil)))
    (sSeq (sAsg (.nm 6) (eLc (.nm 8) (iRg1 (aCons (eCall gLen (aCons (eV 12) aNil)) aNil)) (eT (eB gEq (eB gIxA (eB gIxA (eV 12) (eV 8)) (eC (.int 0))) (eB gIxA (eV 11) (eC (.int 2))))) (eV 8) [8]))
    (sSeq (sAsg (.nm 7) (eB gRep (eLst (aCons (eC .non) aNil)) (eCall gLen (aCons (eV 12) aNil))))
    (sSeq (sFor (.nm 8) (iSeq (eV 6)) (sSeq (sAsg (.nm 13) (eLc (.nm 14) (iSeq (eV 4)) bYes (eDef sumL_ 3 (aCons (eB gIxA (eB gIxA (eV 12) (eV 8)) (eC (.int 1))) (aCons (eDef sumL_ 3 (aCons (eV 14) (aCons (eB gIxA (eV 4) (eV 8)) (aCons (eU gNeg (eC (.int 1))) aNil)))) (aCons (eC (.int 1)) aNil)))) [14]))
    (sSeq (sIf (bAnd (eT (eB gIsN (eB gIxA (eV 7) (eC (.int 0))) (eC .non))) (eT (eB gNe (eV 13) (eV 7)))) (sRet (eC (.bl false))) sNil)
    (sAsg (.nm 7) (eV 13)))))
    (sSeq (sIf (bOr (eT (eB gNe (eCall gRepr (aCons (eDef source_times_ 2 (aCons (eV 9) (aCons (eV 4) aNil))) aNil)) (eCall gRepr (aCons (eCall gTuple (aCons (eV 7) aNil)) aNil)))) (eT (eB gNe (eCall gRepr (aCons (eTup (aCons (eV 9) (aCons (eV 4) aNil))) aNil)) (eV 5)))) (sRet (eC (.bl false))) sNil)
    (sIf (eT (eB gNe (eLc (.nm 8) (iSeq (eV 6)) (eT (eB gNe (eB gIxA (eV 7) (eV 8)) (eB gIxA (eB gIxA (eV 12) (eV 8)) (eC (.int 1))))) (eV 8) [8]) (eLst aNil))) (sRet (eC (.bl false))) sNil)))))))))))
    (sRet (eC (.bl true)))))
noncomputable def law_ : FA := runF 15 law_B
end K08
namespace K08
open PySem PySem.Spec PyProof.Rows L2 G Th AL K37 KL Fr
theorem wm {a b : Int} (h : a.natAbs < 2 ^ 64) (h2 : b.natAbs < 2 ^ 64) : CMulW a b := wide_mul h h2 (by decide) (by decide) (by decide)
theorem wd {a b : Int} (h0 : 0 < b) (h : b < 2 ^ 60) : CDivW a b := by
  have h60 := p60
  have n64 : (2 : Nat) ^ 64 = 18446744073709551616 := by decide
  exact wide_div (b := 64) h0 (by omega) (by decide) (by decide)
theorem ws_cut {r : Res} {N N' : Rho → Sto → Prop} {R : Val → Sto → Prop} (h : Ws r N' R) (i : ∀ ρ S, N' ρ S → N ρ S) : Ws r N R := by
  obtain ⟨h⟩ := h
  constructor
  cases r with
  | nx ρ S => exact i ρ S h
  | rt v S => exact h
  | stuck => exact h
  | bk _ _ => exact h
  | ct _ _ => exact h
theorem draw_wp {S : Sto} {B m : Int} (T : Tp S B) (m0 : 0 < m) (m1 : m < 2 ^ 60) (hB : B < 2 ^ 40) : Wp (K08.drawL_ [.ref 1, .int m] S) fun v S' => ∃ d, v = .int d ∧ 0 ≤ d ∧ d < m ∧ Tp S' (B + 1) ∧ Kx 1 S S' := by
  have h60 := p60
  have h40 := p40
  have h63 : (2 : Int) ^ 63 = 9223372036854775808 := by decide
  have n64 : (2 : Nat) ^ 64 = 18446744073709551616 := by decide
  obtain ⟨ns, i, q, n, h0, h1, i0, q0, n0, nB, nl⟩ := T.ex
  have fm : ∀ a : Int, 0 ≤ a.fmod m ∧ a.fmod m < m := fun a => fmod_lt m0
  refine AL.wf ?_; simp only [List.map_cons, List.map_nil, List.length_cons, List.length_nil, Nat.reduceAdd, Nat.reduceSub, List.replicate_succ, List.replicate_zero, List.cons_append, List.nil_append]; unfold drawL_B; array_get_dec
  refine vPutL h1 (j := 3) rfl ?_
  intro S1 l_S1 g_S1 k_S1
  have h01 : S1[0]? = some (.lst (ns.map .int)) := by array_mem_dec
  have g1 : S1[1]? = some (.lst [.ref 0, .int i, .int q, .int (n + 1)]) := g_S1
  have tp1 : ∀ (T' : Sto) (i' q' : Int), T'[0]? = some (.lst (ns.map .int)) → T'[1]? = some (.lst [.ref 0, .int i', .int q', .int (n + 1)]) → 0 ≤ i' → 0 ≤ q' → Tp T' (B + 1) := fun T' i' q' a b c d => ⟨ns, i', q', n + 1, a, b, c, d, by omega, by omega, nl⟩
  array_get_dec
  by_cases hq : 0 < q
  · refine brT (decide_eq_true hq) ?_
    array_get_dec
    · refine vPutL g1 (j := 2) rfl ?_
      intro S2 l_S2 g_S2 k_S2
      array_get_dec
      exact ⟨_, rfl, (fm q).1, (fm q).2, tp1 S2 i (q / m) (by array_mem_dec) g_S2 i0 (Int.ediv_nonneg q0 (by omega)), k_S1.trans k_S2⟩
    · exact wd m0 m1
    · omega
  · refine brF (decide_eq_false hq) (ws_nil (ws_seq (ws_asg (wc (bn rfl (ws_seq (ws_cut (N' := fun ρ T => ∃ c : Int, ρ = [some (.ref 1), some (.int m), some (.int c), none, none] ∧ Kn S1 T) ?_ ?_)))))))
    · array_get_dec
      intro S2 r2 e_r2 l_S2 g_r2 k_S2
      array_get_dec
      have h02 : S2[0]? = some (.lst (ns.map .int)) := by array_mem_dec
      have g2 : S2[1]? = some (.lst [.ref 0, .int i, .int q, .int (n + 1)]) := by array_mem_dec
      refine vNeNil rfl rfl h02 g_r2 ?_
      array_get_dec
      cases hns : ns with
      | nil => exact brF rfl (ws_nil ⟨_, rfl, k_S2⟩)
      | cons y ys =>
        rw [hns] at h02
        refine brT rfl ?_
        array_get_dec
        · obtain ⟨a, b⟩ := fmod_lt (a := i) (b := ((y :: ys).length : Int)) (by simp)
          obtain ⟨v, hv, _⟩ := at_ints (L := y :: ys) a b
          refine vIxL rfl rfl h02 (by rw [List.length_map]; exact hv) ?_
          array_get_dec
          exact ⟨_, rfl, k_S2⟩
        · simp
          omega
    · rintro _ S2 ⟨c, rfl, k2⟩
      have g2 : S2[1]? = some (.lst [.ref 0, .int i, .int q, .int (n + 1)]) := by array_mem_dec
      have h02 : S2[0]? = some (.lst (ns.map .int)) := by array_mem_dec
      have k02 : Kx 1 S S2 := k_S1.trans (k2.kx 1)
      array_get_dec
      refine vPutL g2 (j := 1) rfl ?_
      intro S3 l_S3 g_S3 k_S3
      have g3 : S3[1]? = some (.lst [.ref 0, .int (i + 1), .int q, .int (n + 1)]) := g_S3
      have h03 : S3[0]? = some (.lst (ns.map .int)) := by array_mem_dec
      have k03 : Kx 1 S S3 := k02.trans k_S3
      refine ws_seq (ws_cut (N' := fun ρ T => ρ = [some (.ref 1), some (.int m), some (.int c), none, none] ∧ T = S3) ?_ ?_)
      · array_get_dec
        refine vPow rfl rfl ?_ pow18
        array_get_dec
        refine Br.of (fun c1 => ?_) (fun c1 => ?_)
        · have c1 : (10 : Int) ^ (18 : Int).toNat ≤ c := of_decide_eq_true c1
          array_get_dec
          refine Br.of (fun c2 => ?_) (fun c2 => ?_)
          · array_get_dec
            · refine vPutL g3 (j := 2) rfl ?_
              intro S4 l_S4 g_S4 k_S4
              array_get_dec
              · exact ⟨_, rfl, (fm c).1, (fm c).2, tp1 S4 (i + 1) (c / m) (by array_mem_dec) g_S4 (by omega) (Int.ediv_nonneg (Int.le_trans (by decide) c1) (by omega)), k03.trans k_S4⟩
              · omega
            · exact wd m0 m1
          · array_get_dec
            exact ⟨rfl, rfl⟩
        · array_get_dec
          exact ⟨rfl, rfl⟩
      · rintro _ _ ⟨rfl, rfl⟩
        have cm := fmod_lt (a := c) (b := 2147483629) (by decide)
        have p1 := small_pow (x := c.fmod 2147483629 + 7919 * (n + 1) + 1) (by omega) (by omega)
        have r1 := fmod_lt (a := (c.fmod 2147483629 + 7919 * (n + 1) + 1) ^ (5 : Int).toNat) (b := 2147483647) (by decide)
        have p2 := small_pow (x := ((c.fmod 2147483629 + 7919 * (n + 1) + 1) ^ (5 : Int).toNat).fmod 2147483647 + 104729 * (n + 1)) (by omega) (by omega)
        array_get_dec
        all_goals first | refine vPow rfl rfl ?_ p1 | decide | exact wm (by omega) (by omega) | skip
        array_get_dec
        all_goals first | refine vPow rfl rfl ?_ p2 | decide | exact wm (by omega) (by omega) | skip
        array_get_dec
        all_goals first | exact ⟨_, rfl, (fm _).1, (fm _).2, tp1 _ (i + 1) q h03 g3 (by omega) q0, k03⟩ | exact wd (by decide) (by decide) | omega | decide
end K08
namespace K08
open PySem PySem.Spec PyProof.Rows L2 G Th AL K37 KL Fr
end K08
namespace K08
open PySem PySem.Spec PyProof.Rows L2 G Th AL K37 KL Fr
def pool8 : List Str := ["a", "ab", "b", "h", "hh", "x", "zz", "zzzzzzzz"]
def gaits : List (Fq × Fq) := [((1, 1), (1, 1)), ((1, 2), (2, 1)), ((3, 4), (5, 4)), ((1, 1), (3, 2)), ((1, 2), (1, 1))]
def gV (g : Fq × Fq) : Val := .tup [frV g.1, frV g.2]
def least8 : List Fq := [(0, 1), (1, 2), (1, 1), (3, 1)]
structure L8 (nm : List Str) (l : Lk) : Prop where
  fr : l.fr ∈ nm
  to : l.to ∈ nm
  ne : l.fr ≠ l.to
  least : l.least ∈ least8
  most : ∀ m, l.most = some m → m = l.least ∨ m = Fr.mk (l.least.1 + l.least.2) l.least.2 ∨ m = Fr.mk (l.least.1 + 9 * l.least.2) l.least.2
structure F8 (fl : Fl) : Prop where
  sub : (fl.hs.map Hs.name).Sublist pool8
  ne : 0 < fl.hs.length
  few : fl.hs.length ≤ 6
  gait : ∀ h ∈ fl.hs, (h.slow, h.fast) ∈ gaits
  one : ∀ h ∈ fl.hs, h.name = fl.src → h.slow = (1, 1) ∧ h.fast = (1, 1)
  src : fl.src ∈ fl.hs.map Hs.name
  lk : ∀ l ∈ fl.ls, L8 (fl.hs.map Hs.name) l
  lfew : fl.ls.length ≤ 8
end K08
namespace K08
open PySem PySem.Spec PyProof.Rows L2 G Th AL K37 KL Fr
def Fits (l : Lk) (s n : Fq) : Prop := q l.least ≤ q n - q s ∧ ∀ m, l.most = some m → q n - q s ≤ q m
def DdOk (fl : Fl) (es : List Ev) (ws : List Fq) (house : Str) (now : Fq) : Dd → Prop
  | .mark => True
  | .send l => ∃ lk, fl.ls[l]? = some lk ∧ lk.fr = house
  | .hear k => k < es.length ∧ ∃ l lk, (es.getD k dEv).deed = .send l ∧ fl.ls[l]? = some lk ∧ lk.to = house ∧ Fits lk (ws.getD k (0, 1)) now
end K08
namespace KL
open PySem PySem.Spec PyProof.Rows L2 G Th AL K37 Fr
def QN (N : Int) (M : Nat) (x : Fq) : Prop := ∃ k : Int, Is x k N ∧ k.natAbs ≤ M
section
variable {N : Int} {M M' : Nat} {x y : Fq}
theorem QN.mono (h : QN N M x) (hm : M ≤ M') : QN N M' x := by
  obtain ⟨k, h1, h2⟩ := h
  exact ⟨k, h1, by omega⟩
theorem QN.ok {n : Nat} (h : QN N M x) (hM : M < 2 ^ n) (hN : N.natAbs < 2 ^ n) : Fr.Ok n x := by
  obtain ⟨k, h1, h2⟩ := h
  rw [h1.1]
  exact mk_ok h1.2 (by omega) hN
theorem QN.add (h : QN N M x) (h' : QN N M' y) : QN N (M + M') (Fr.add x y) := by
  obtain ⟨k, h1, h2⟩ := h
  obtain ⟨k', h3, h4⟩ := h'
  have a := h1.add h3
  refine ⟨k + k', ⟨?_, h1.2⟩, by omega⟩
  rw [a.1]
  exact mk_eq a.2 h1.2 (by grind)
theorem QN.sub (h : QN N M x) (h' : QN N M' y) : QN N (M + M') (Fr.sub x y) := by
  obtain ⟨k, h1, h2⟩ := h
  obtain ⟨k', h3, h4⟩ := h'
  have a := h1.sub h3
  refine ⟨k - k', ⟨?_, h1.2⟩, by omega⟩
  rw [a.1]
  exact mk_eq a.2 h1.2 (by grind)
theorem QN.up {c : Int} (h : QN N M x) (hc : 0 < c) : QN (N * c) (M * c.natAbs) x := by
  obtain ⟨k, h1, h2⟩ := h
  refine ⟨k * c, ⟨?_, Int.mul_ne_zero h1.2 (by omega)⟩, ?_⟩
  · rw [h1.1]
    exact mk_eq h1.2 (Int.mul_ne_zero h1.2 (by omega)) (by grind)
  · rw [Int.natAbs_mul]
    exact Nat.mul_le_mul_right _ h2
theorem QN.rate (h : QN 4 M x) {r : Fq} (hr : r ∈ slows ∨ r ∈ fasts) : QN 120 (M * 60) (Fr.div x r) := by
  obtain ⟨k, h1, h2⟩ := h
  have go : ∀ (a b c : Int), Is r a b → a ≠ 0 → c.natAbs ≤ 60 → 120 * b = c * (4 * a) → QN 120 (M * 60) (Fr.div x r) := by
    intro a b c hi ha hc e
    have d := h1.div hi ha
    refine ⟨k * c, ⟨?_, by decide⟩, ?_⟩
    · rw [d.1]
      refine mk_eq d.2 (by decide) ?_
      grind
    · rw [Int.natAbs_mul]
      exact Nat.mul_le_mul h2 hc
  simp only [slows, fasts, List.mem_cons, List.not_mem_nil, or_false] at hr
  rcases hr with (rfl | rfl | rfl) | (rfl | rfl | rfl | rfl)
  · exact go 1 1 30 ⟨by decide +kernel, by decide⟩ (by decide) (by decide) (by decide)
  · exact go 1 2 60 ⟨by decide +kernel, by decide⟩ (by decide) (by decide) (by decide)
  · exact go 3 4 40 ⟨by decide +kernel, by decide⟩ (by decide) (by decide) (by decide)
  · exact go 1 1 30 ⟨by decide +kernel, by decide⟩ (by decide) (by decide) (by decide)
  · exact go 5 4 24 ⟨by decide +kernel, by decide⟩ (by decide) (by decide) (by decide)
  · exact go 3 2 20 ⟨by decide +kernel, by decide⟩ (by decide) (by decide) (by decide)
  · exact go 2 1 15 ⟨by decide +kernel, by decide⟩ (by decide) (by decide) (by decide)
end
/-- stamps of a house never fall -/
def Rise (es : List Ev) : Prop := ∀ j i, j < es.length → lastAt es j (es.getD j dEv).name = some i → q (es.getD i dEv).stamp ≤ q (es.getD j dEv).stamp
theorem Rise.nil : Rise [] := fun j i h => by simp at h
theorem Rise.snoc {es : List Ev} {e : Ev} (h : Rise es) (h1 : ∀ i, lastAt es es.length e.name = some i → q (es.getD i dEv).stamp ≤ q e.stamp) : Rise (es ++ [e]) := by
  intro j i hj hi
  by_cases z : j < es.length
  · rw [getD_l z] at hi ⊢
    rw [lastAt_app _ (by omega)] at hi
    have := lastAt_lt hi
    rw [getD_l (by omega)]
    exact h j i z hi
  · have : j = es.length := by simp at hj; omega
    subst this
    rw [getD_r] at hi ⊢
    rw [lastAt_app _ (Nat.le_refl _)] at hi
    have := lastAt_lt hi
    rw [getD_l (by omega)]
    exact h1 i hi
theorem Tru.rise {fl : Fl} {es : List Ev} {bg : Int} {hrs : List Int} (T : Tru fl es bg hrs) (fo : FlOk fl) (hv : HV fl es) : Rise es := by
  intro j i hj hi
  obtain ⟨h, hh, hm⟩ := drift_some (hv.ev j hj).name
  obtain ⟨t1, t2, t3⟩ := T.go j i h hj hi hh
  have nn : (0 : Rat) ≤ ((hrs.getD j 0 - hrs.getD i 0 : Int) : Rat) := Rat.intCast_nonneg.mpr (by omega)
  have := Rat.mul_nonneg (Rat.le_of_lt (slow_le (fo.rate h hm).1).2) nn
  grind
end KL
namespace K08
open PySem PySem.Spec PyProof.Rows L2 G Th AL K37 KL Fr
abbrev wAt (ws : List Fq) (i : Nat) : Fq := ws.getD i (0, 1)
structure Sc (fl : Fl) (es : List Ev) (ws : List Fq) : Prop where
  len : ws.length = es.length
  nm : ∀ i, i < es.length → (es.getD i dEv).name ∈ fl.hs.map Hs.name
  tm : ∀ i, i < es.length → QN 2 60 (wAt ws i) ∧ 0 ≤ q (wAt ws i)
  st : ∀ i, i < es.length → QN 8 (80 + 960 * (i + 1)) (es.getD i dEv).stamp
  rise : ∀ i j, i ≤ j → j < es.length → q (wAt ws i) ≤ q (wAt ws j)
  dd : ∀ i, i < es.length → DdOk fl (es.take i) ws (es.getD i dEv).name (wAt ws i) (es.getD i dEv).deed
  go : ∀ j i h, j < es.length → lastAt es j (es.getD j dEv).name = some i → driftOf fl (es.getD j dEv).name = some h →
    q h.slow * (q (wAt ws j) - q (wAt ws i)) ≤ q (es.getD j dEv).stamp - q (es.getD i dEv).stamp ∧ q (es.getD j dEv).stamp - q (es.getD i dEv).stamp ≤ q h.fast * (q (wAt ws j) - q (wAt ws i))
  src : ∀ i j, i < es.length → j < es.length → (es.getD i dEv).name = fl.src → (es.getD j dEv).name = fl.src → q (es.getD i dEv).stamp - q (wAt ws i) = q (es.getD j dEv).stamp - q (wAt ws j)
theorem wget_l {ws : List Fq} {x : Fq} {j : Nat} (h : j < ws.length) : wAt (ws ++ [x]) j = wAt ws j := by
  simp [wAt, List.getD, List.getElem?_append_left h]
theorem wget_r {ws : List Fq} {x : Fq} : wAt (ws ++ [x]) ws.length = x := by
  simp [wAt, List.getD]
theorem DdOk.ext {fl : Fl} {es es' : List Ev} {ws ws' : List Fq} {n : Str} {w : Fq} {d : Dd} (h : DdOk fl es ws n w d) (h1 : ∀ k, k < es.length → es'.getD k dEv = es.getD k dEv ∧ wAt ws' k = wAt ws k) (h2 : es.length ≤ es'.length) : DdOk fl es' ws' n w d := by
  cases d with
  | mark => trivial
  | send l => exact h
  | hear k =>
    obtain ⟨hk, l, lk, a, b, c, d⟩ := h
    obtain ⟨e1, e2⟩ := h1 k hk
    refine ⟨by omega, l, lk, by rw [e1]; exact a, b, c, ?_⟩
    show Fits lk (wAt ws' k) w
    rw [e2]
    exact d
theorem Sc.snoc {fl : Fl} {es : List Ev} {ws : List Fq} (H : Sc fl es ws) {e : Ev} {w : Fq} (nm : e.name ∈ fl.hs.map Hs.name) (tm : QN 2 60 w ∧ 0 ≤ q w) (st : QN 8 (80 + 960 * (es.length + 1)) e.stamp) (rise : ∀ i, i < es.length → q (wAt ws i) ≤ q w) (dd : DdOk fl es ws e.name w e.deed)
    (go : ∀ i h, lastAt es es.length e.name = some i → driftOf fl e.name = some h → q h.slow * (q w - q (wAt ws i)) ≤ q e.stamp - q (es.getD i dEv).stamp ∧ q e.stamp - q (es.getD i dEv).stamp ≤ q h.fast * (q w - q (wAt ws i)))
    (src : ∀ i, i < es.length → e.name = fl.src → (es.getD i dEv).name = fl.src → q (es.getD i dEv).stamp - q (wAt ws i) = q e.stamp - q w) : Sc fl (es ++ [e]) (ws ++ [w]) := by
  have hl := H.len
  have el : ∀ i, i < (es ++ [e]).length → i < es.length ∨ i = es.length := fun i hi => by simp at hi; omega
  have wr : wAt (ws ++ [w]) es.length = w := by rw [← hl]; exact wget_r
  have wl : ∀ i, i < es.length → wAt (ws ++ [w]) i = wAt ws i := fun i hi => wget_l (by omega)
  have gl : ∀ i, i < es.length → (es ++ [e]).getD i dEv = es.getD i dEv := fun i hi => getD_l hi
  have gr : (es ++ [e]).getD es.length dEv = e := getD_r
  refine ⟨by simp [hl], fun i hi => ?_, fun i hi => ?_, fun i hi => ?_, fun i j ij hj => ?_, fun i hi => ?_, fun j i h hj hi hd => ?_, fun i j hi hj ni nj => ?_⟩
  · rcases el i hi with z | rfl
    · rw [gl i z]; exact H.nm i z
    · rw [gr]; exact nm
  · rcases el i hi with z | rfl
    · rw [wl i z]; exact H.tm i z
    · rw [wr]; exact tm
  · rcases el i hi with z | rfl
    · rw [gl i z]; exact H.st i z
    · rw [gr]; exact st
  · rcases el j hj with z | rfl
    · rw [wl i (by omega), wl j z]; exact H.rise i j ij z
    · rcases Nat.lt_or_ge i es.length with z | z
      · rw [wl i z, wr]; exact rise i z
      · have : i = es.length := by omega
        subst this
        exact Rat.le_refl
  · rcases el i hi with z | rfl
    · rw [gl i z, wl i z, List.take_append_of_le_length (by omega)]
      refine (H.dd i z).ext (fun k hk => ⟨rfl, wl k ?_⟩) (Nat.le_refl _)
      rw [List.length_take] at hk
      omega
    · rw [gr, wr, List.take_append_of_le_length (Nat.le_refl _), List.take_length]
      exact dd.ext (fun k hk => ⟨rfl, wl k hk⟩) (Nat.le_refl _)
  · rcases el j hj with z | rfl
    · rw [gl j z] at hi hd ⊢
      rw [lastAt_app _ (by omega)] at hi
      have := lastAt_lt hi
      rw [wl j z, wl i (by omega), gl i (by omega)]
      exact H.go j i h z hi hd
    · rw [gr] at hi hd ⊢
      rw [lastAt_app _ (Nat.le_refl _)] at hi
      have := lastAt_lt hi
      rw [wr, wl i (by omega), gl i (by omega)]
      exact go i h hi hd
  · rcases el i hi with z | rfl
    · rw [gl i z] at ni ⊢
      rw [wl i z]
      rcases el j hj with z' | rfl
      · rw [gl j z'] at nj ⊢
        rw [wl j z']
        exact H.src i j z z' ni nj
      · rw [gr] at nj ⊢
        rw [wr]
        exact src i z nj ni
    · rw [gr] at ni ⊢
      rw [wr]
      rcases el j hj with z' | rfl
      · rw [gl j z'] at nj ⊢
        rw [wl j z']
        exact (src j z' ni nj).symm
      · rw [gr, wr]
theorem Sc.nil (fl : Fl) : Sc fl [] [] := ⟨rfl, fun i hi => by simp at hi, fun i hi => by simp at hi, fun i hi => by simp at hi, fun i j _ hi => by simp at hi, fun i hi => by simp at hi, fun j i h hi => by simp at hi, fun i j hi => by simp at hi⟩
end K08
namespace K08
open PySem PySem.Spec PyProof.Rows L2 G Th AL K37 KL Fr
theorem wok {x : Fq} {M : Nat} (h : QN 2 M x) (hM : M ≤ 1000) : Fr.Ok 20 x := h.ok (by have : (2 : Nat) ^ 20 = 1048576 := rfl; omega) (by decide)
end K08
namespace K08
open PySem PySem.Spec PyProof.Rows L2 G Th AL K37 KL Fr
theorem feed_wp (ns : List Int) (h : ns.length ≤ 63) : Wp (feedL_ [.scr ns] []) fun v S => v = .ref 1 ∧ Tp S 0 := by
  refine ⟨.ref 1, [.lst (cutL (ns.map Val.int) none (some 63)), .lst [.ref 0, .int 0, .int 0, .int 0]], ?_, rfl, ?_⟩
  · rfl
  · refine ⟨(ns.drop (HT.sIx ns.length 0 none)).take (HT.sIx ns.length ns.length (some 63) - HT.sIx ns.length 0 none), 0, 0, 0, ?_, rfl, by omega, by omega, by omega, by omega, ?_⟩
    · show some (Ob.lst (cutL (ns.map Val.int) none (some 63))) = _
      unfold cutL
      rw [List.length_map, ← List.map_drop, ← List.map_take]
    · rw [List.length_take, List.length_drop]
      omega
structure Own (es : List Ev) (n : Str) (ks : List Nat) (i : Nat) : Prop where
  len : ks.length ≤ i
  is : ∀ k ∈ ks, k < i ∧ (es.getD k dEv).name = n
  all : ∀ k, k < i → (es.getD k dEv).name = n → k ∈ ks
theorem Own.nil {es : List Ev} {n : Str} : Own es n [] 0 := ⟨Nat.le_refl _, fun _ z => by simp at z, fun _ z => by omega⟩
theorem Own.put {es : List Ev} {n : Str} {ks : List Nat} {i : Nat} (h : Own es n ks i) (e : (es.getD i dEv).name = n) : Own es n (ks ++ [i]) (i + 1) := by
  have := h.len
  refine ⟨by simp; omega, fun k hk => ?_, fun k hk hn => ?_⟩
  · rcases List.mem_append.mp hk with z | z
    · have := h.is k z
      exact ⟨by omega, this.2⟩
    · simp only [List.mem_singleton] at z
      subst z
      exact ⟨by omega, e⟩
  · rcases Nat.lt_or_ge k i with z | z
    · exact List.mem_append_left _ (h.all k z hn)
    · have : k = i := by omega
      subst this
      simp
end K08
namespace K57
open PySem PySem.Spec PyProof.Rows L2 G Th AL KL Fr
open K37 (fmod_lt small_pow pow18 at_ints p60 p40 p62)
open K08 (wm wd ws_cut)
def fd (i q n : Int) : List (Key × Val) := [(.inr "cells", .ref 2), (.inr "at", .int i), (.inr "left", .int q), (.inr "turn", .int n)]
theorem fd_turn {i q n : Int} : valA (fd i q n) (.inr "turn") = some (.int n) := by rfl
theorem fd_left {i q n : Int} : valA (fd i q n) (.inr "left") = some (.int q) := by rfl
theorem fd_at {i q n : Int} : valA (fd i q n) (.inr "at") = some (.int i) := by rfl
theorem fd_cells {i q n : Int} : valA (fd i q n) (.inr "cells") = some (.ref 2) := by rfl
theorem put_turn {i q n m : Int} : putA (fd i q n) (.inr "turn") (.int m) = fd i q m := by rfl
theorem put_left {i q n m : Int} : putA (fd i q n) (.inr "left") (.int m) = fd i m n := by rfl
theorem put_at {i q n m : Int} : putA (fd i q n) (.inr "at") (.int m) = fd m q n := by rfl
structure Tf (S : Sto) (B : Int) : Prop where
  ex : ∃ (ns : List Int) (i q n : Int), S[2]? = some (.lst (ns.map .int)) ∧ S[0]? = some (.dic (fd i q n)) ∧ 0 ≤ i ∧ 0 ≤ q ∧ 0 ≤ n ∧ n ≤ B ∧ ns.length ≤ 63
theorem Tf.mono {S : Sto} {B B' : Int} (h : Tf S B) (hb : B ≤ B') : Tf S B' := by
  obtain ⟨ns, i, q, n, h0, h1, a, b, c, d, e⟩ := h.ex
  exact ⟨ns, i, q, n, h0, h1, a, b, c, by omega, e⟩
theorem Tf.fr {S T : Sto} {B : Int} (h : Tf S B) (k : Kn S T) : Tf T B := by
  obtain ⟨ns, i, q, n, h0, h1, r⟩ := h.ex
  exact ⟨ns, i, q, n, k _ _ h0, k _ _ h1, r⟩
theorem Tf.kx {S T : Sto} {B : Int} {n : Nat} (h : Tf S B) (k : Kx n S T) (hn : 3 ≤ n) : Tf T B := by
  obtain ⟨ns, i, q, m, h0, h1, r⟩ := h.ex
  exact ⟨ns, i, q, m, k _ _ (by omega) h0, k _ _ (by omega) h1, r⟩
theorem draw_wp {S : Sto} {B m : Int} (T : Tf S B) (m0 : 0 < m) (m1 : m < 2 ^ 60) (hB : B < 2 ^ 40) : Wp (drawL_ [.ref 0, .int m] S) fun v S' => ∃ d, v = .int d ∧ 0 ≤ d ∧ d < m ∧ Tf S' (B + 1) ∧ Kx 0 S S' := by
  have h60 := p60
  have h40 := p40
  have h63 : (2 : Int) ^ 63 = 9223372036854775808 := by decide
  have n64 : (2 : Nat) ^ 64 = 18446744073709551616 := by decide
  obtain ⟨ns, i, q, n, h2, h0, i0, q0, n0, nB, nl⟩ := T.ex
  have fm : ∀ a : Int, 0 ≤ a.fmod m ∧ a.fmod m < m := fun a => fmod_lt m0
  have sz : ∀ i q n : Int, (fd i q n).length < sizeLine := fun _ _ _ => small (by simp [fd])
  refine AL.wf ?_; simp only [List.map_cons, List.map_nil, List.length_cons, List.length_nil, Nat.reduceAdd, Nat.reduceSub, List.replicate_succ, List.replicate_zero, List.cons_append, List.nil_append]; unfold drawL_B; array_get_dec
  refine vIxD rfl h0 rfl fd_turn ?_
  array_get_dec
  refine vPut h0 rfl ?_ (sz _ _ _)
  rw [put_turn]
  intro S1 l_S1 g_S1 k_S1
  have h21 : S1[2]? = some (.lst (ns.map .int)) := by array_mem_dec
  have tp1 : ∀ (T' : Sto) (i' q' : Int), T'[2]? = some (.lst (ns.map .int)) → T'[0]? = some (.dic (fd i' q' (n + 1))) → 0 ≤ i' → 0 ≤ q' → Tf T' (B + 1) := fun T' i' q' a b c d => ⟨ns, i', q', n + 1, a, b, c, d, by omega, by omega, nl⟩
  array_get_dec
  refine vIxD rfl g_S1 rfl fd_left ?_
  array_get_dec
  by_cases hq : 0 < q
  · refine brT (decide_eq_true hq) ?_
    array_get_dec
    refine vIxD rfl g_S1 rfl fd_left ?_
    array_get_dec
    · refine vIxD rfl g_S1 rfl fd_left ?_
      array_get_dec
      · refine vPut g_S1 rfl ?_ (sz _ _ _)
        rw [put_left]
        intro S2 l_S2 g_S2 k_S2
        array_get_dec
        exact ⟨_, rfl, (fm q).1, (fm q).2, tp1 S2 i (q / m) (by array_mem_dec) g_S2 i0 (Int.ediv_nonneg q0 (by omega)), k_S1.trans k_S2⟩
      · exact wd m0 m1
    · omega
  · refine brF (decide_eq_false hq) ?_
    array_get_dec
    refine vIxD rfl g_S1 rfl fd_at ?_
    array_get_dec
    refine vPut g_S1 rfl ?_ (sz _ _ _)
    rw [put_at]
    intro S2 l_S2 g_S2 k_S2
    have h22 : S2[2]? = some (.lst (ns.map .int)) := by array_mem_dec
    have k02 : Kx 0 S S2 := k_S1.trans k_S2
    refine ws_seq (ws_asg (wc (bn rfl (ws_seq (ws_cut (N' := fun ρ T => ∃ c : Int, ρ = [some (.ref 0), some (.int m), some (.int (n + 1)), some (.int i), some (.int c), none, none] ∧ Kn S2 T) ?_ ?_)))))
    · array_get_dec
      refine vIxD rfl g_S2 rfl fd_cells ?_
      array_get_dec
      intro S3 r3 e_r3 l_S3 g_r3 k_S3
      array_get_dec
      have h23 : S3[2]? = some (.lst (ns.map .int)) := by array_mem_dec
      have g3 : S3[0]? = some (.dic (fd (i + 1) q (n + 1))) := by array_mem_dec
      refine vNeNil rfl rfl h23 g_r3 ?_
      array_get_dec
      cases hns : ns with
      | nil => exact brF rfl (ws_nil ⟨_, rfl, k_S3⟩)
      | cons y ys =>
        rw [hns] at h23
        refine brT rfl ?_
        array_get_dec
        refine vIxD rfl g3 rfl fd_cells ?_
        array_get_dec
        refine vIxD rfl g3 rfl fd_cells ?_
        array_get_dec
        · obtain ⟨a, b⟩ := fmod_lt (a := i) (b := ((y :: ys).length : Int)) (by simp)
          obtain ⟨v, hv, _⟩ := at_ints (L := y :: ys) a b
          refine vIxL rfl rfl h23 (by rw [List.length_map]; exact hv) ?_
          array_get_dec
          exact ⟨_, rfl, k_S3⟩
        · simp
          omega
    · rintro _ S3 ⟨c, rfl, k3⟩
      have g3 : S3[0]? = some (.dic (fd (i + 1) q (n + 1))) := by array_mem_dec
      have h23 : S3[2]? = some (.lst (ns.map .int)) := by array_mem_dec
      have k03 : Kx 0 S S3 := k02.trans (k3.kx 0)
      refine ws_seq (ws_cut (N' := fun ρ T => ρ = [some (.ref 0), some (.int m), some (.int (n + 1)), some (.int i), some (.int c), none, none] ∧ T = S3) ?_ ?_)
      · array_get_dec
        refine vPow rfl rfl ?_ pow18
        array_get_dec
        refine Br.of (fun c1 => ?_) (fun c1 => ?_)
        · have c1 : (10 : Int) ^ (18 : Int).toNat ≤ c := of_decide_eq_true c1
          array_get_dec
          refine vIxD rfl g3 rfl fd_cells ?_
          array_get_dec
          refine Br.of (fun c2 => ?_) (fun c2 => ?_)
          · array_get_dec
            · refine vPut g3 rfl ?_ (sz _ _ _)
              rw [put_left]
              intro S4 l_S4 g_S4 k_S4
              array_get_dec
              · exact ⟨_, rfl, (fm c).1, (fm c).2, tp1 S4 (i + 1) (c / m) (by array_mem_dec) g_S4 (by omega) (Int.ediv_nonneg (Int.le_trans (by decide) c1) (by omega)), k03.trans k_S4⟩
              · omega
            · exact wd m0 m1
          · array_get_dec
            exact ⟨rfl, rfl⟩
        · array_get_dec
          exact ⟨rfl, rfl⟩
      · rintro _ _ ⟨rfl, rfl⟩
        have cm := fmod_lt (a := c) (b := 2147483629) (by decide)
        have p1 := small_pow (x := c.fmod 2147483629 + 7919 * (n + 1) + 1) (by omega) (by omega)
        have r1 := fmod_lt (a := (c.fmod 2147483629 + 7919 * (n + 1) + 1) ^ (5 : Int).toNat) (b := 2147483647) (by decide)
        have p2 := small_pow (x := ((c.fmod 2147483629 + 7919 * (n + 1) + 1) ^ (5 : Int).toNat).fmod 2147483647 + 104729 * (n + 1)) (by omega) (by omega)
        array_get_dec
        all_goals first | refine vPow rfl rfl ?_ p1 | decide | exact wm (by omega) (by omega) | skip
        array_get_dec
        all_goals first | refine vPow rfl rfl ?_ p2 | decide | exact wm (by omega) (by omega) | skip
        array_get_dec
        all_goals first | exact ⟨_, rfl, (fm _).1, (fm _).2, tp1 _ (i + 1) q h23 g3 (by omega) q0, k03⟩ | exact wd (by decide) (by decide) | omega | decide
theorem feed_wp (ns : List Int) (h : ns.length ≤ 63) : Wp (feedL_ [.scr ns] []) fun v S => v = .ref 0 ∧ Tf S 0 := by
  refine ⟨.ref 0, [.dic (fd 0 0 0), .lst (cutL (ns.map Val.int) none (some 63)), .lst (cutL (ns.map Val.int) none (some 63))], ?_, rfl, ?_⟩
  · rfl
  · refine ⟨(ns.drop (HT.sIx ns.length 0 none)).take (HT.sIx ns.length ns.length (some 63) - HT.sIx ns.length 0 none), 0, 0, 0, ?_, rfl, by omega, by omega, by omega, by omega, ?_⟩
    · show some (Ob.lst (cutL (ns.map Val.int) none (some 63))) = _
      unfold cutL
      rw [List.length_map, ← List.map_drop, ← List.map_take]
    · rw [List.length_take, List.length_drop]
      omega
end K57
namespace AL
open PySem PySem.Spec PyProof.Rows L2 G Th K37
structure Dt (S : Sto) (n w : Nat) (v : Val) (d : PyData) : Prop where
  ok : okD d = true
  wt : d.weight ≤ w
  dp : d.depth ≤ n
  td : ∀ k, n < k → toD S k v = some d
structure DtL (S : Sto) (n w : Nat) (vs : List Val) (ds : List PyData) : Prop where
  ok : okAll ds = true
  wt : PyData.weightAll ds ≤ w
  dp : PyData.depthAll ds ≤ n
  td : ∀ k, n < k → mapO (toD S k) vs = some ds
theorem Dt.of {n w : Nat} {v : Val} (h : Sh n w v) : ∃ d, ∀ S, Dt S n w v d := by
  obtain ⟨d, h1, h2, h3, h4⟩ := h
  exact ⟨d, fun S => ⟨h1, h2, h3, fun k hk => h4 S k hk⟩⟩
theorem DtL.nil {S : Sto} {n w : Nat} : DtL S n w [] [] := ⟨rfl, by simp [PyData.weightAll], by simp [PyData.depthAll], fun _ _ => rfl⟩
theorem DtL.cons {S : Sto} {n w w' : Nat} {v : Val} {vs : List Val} {d : PyData} {ds : List PyData} (h : Dt S n w v d) (g : DtL S n w' vs ds) : DtL S n (w + w' + 1) (v :: vs) (d :: ds) := by
  have h2 := h.wt
  have g2 := g.wt
  have h3 := h.dp
  have g3 := g.dp
  refine ⟨?_, ?_, ?_, fun k hk => ?_⟩
  · show (okD d && okAll ds) = true
    rw [h.ok, g.ok]
    rfl
  · show d.weight + 1 + PyData.weightAll ds ≤ _
    omega
  · simp only [PyData.depthAll]
    omega
  · unfold mapO
    rw [h.td k hk, g.td k hk]
    rfl
theorem Dt.mono {S : Sto} {n w n' w' : Nat} {v : Val} {d : PyData} (h : Dt S n w v d) (hn : n ≤ n') (hw : w ≤ w') : Dt S n' w' v d := ⟨h.ok, by have := h.wt; omega, by have := h.dp; omega, fun k hk => h.td k (by omega)⟩
theorem Dt.lst {S : Sto} {n w a : Nat} {vs : List Val} {ds : List PyData} (h : S[a]? = some (.lst vs)) (r : DtL S n w vs ds) : Dt S (n + 1) w (.ref a) (.list ds) := by
  refine ⟨r.ok, r.wt, by have := r.dp; simp only [PyData.depth]; omega, fun k hk => ?_⟩
  obtain ⟨k, rfl⟩ : ∃ j, k = j + 1 := ⟨k - 1, by omega⟩
  rw [toD]
  simp only [h]
  rw [r.td k (by omega)]
  rfl
theorem Dt.tup {S : Sto} {n w : Nat} {vs : List Val} {ds : List PyData} (r : DtL S n w vs ds) : Dt S (n + 1) w (.tup vs) (.tuple ds) := by
  refine ⟨r.ok, r.wt, by have := r.dp; simp only [PyData.depth]; omega, fun k hk => ?_⟩
  obtain ⟨k, rfl⟩ : ∃ j, k = j + 1 := ⟨k - 1, by omega⟩
  show (mapO (toD S k) vs).map PyData.tuple = _
  rw [r.td k (by omega)]
  rfl
theorem Dt.str {S : Sto} {x : Str} (h : TxOk x) : Dt S 0 8 (.str x) (.str x) := by
  refine ⟨h.1, by simp only [PyData.weight]; exact h.2, by simp [PyData.depth], fun k hk => ?_⟩
  obtain ⟨k, rfl⟩ : ∃ j, k = j + 1 := ⟨k - 1, by omega⟩
  rfl
theorem Dt.repr {S : Sto} {n w : Nat} {v : Val} {d : PyData} (h : Dt S n w v d) (hn : n < 40) (hw : w ≤ 40000) : gRepr [v] S = some (.str d.shown, S) := by
  have h2 := h.wt
  have h3 := h.dp
  unfold gRepr
  simp only [h.td 40 hn]
  rw [if_pos ⟨h.ok, by omega, by omega⟩]
end AL
namespace K57
open PySem PySem.Spec PyProof.Rows L2 G Th AL KL Fr
open K37 (fmod_lt p60 p40 p62)
open K08 (ws_cut)
/-- all but two -/
def K2 (a b : Nat) (S T : Sto) : Prop := ∀ (k : Nat) (o : Ob), k ≠ a → k ≠ b → S[k]? = some o → T[k]? = some o
theorem K2.refl {a b : Nat} (S : Sto) : K2 a b S S := fun _ _ _ _ h => h
theorem K2.trans {a b : Nat} {S T U : Sto} (h : K2 a b S T) (g : K2 a b T U) : K2 a b S U := fun k o x y z => g k o x y (h k o x y z)
theorem K2.kn {a b : Nat} {S T : Sto} (h : Kn S T) : K2 a b S T := fun k o _ _ z => h k o z
theorem K2.kx {a b : Nat} {S T : Sto} (h : Kx a S T) : K2 a b S T := fun k o x _ z => h k o x z
theorem K2.ky {a b : Nat} {S T : Sto} (h : Kx b S T) : K2 a b S T := fun k o _ x z => h k o x z
theorem Tf.k2 {S T : Sto} {B : Int} {n : Nat} (h : Tf S B) (k : Kx n S T) (hn : 3 ≤ n) : Tf T B := h.kx k hn
theorem erase_perm {α : Type} : ∀ {zs : List α} {k : Nat} {z : α}, zs[k]? = some z → ([z] ++ zs.eraseIdx k).Perm zs
  | [], k, _, h => by simp at h
  | a :: l, 0, z, h => by cases h; exact .refl _
  | a :: l, k + 1, z, h => by
    have h : l[k]? = some z := by simpa using h
    rw [List.eraseIdx_cons_succ]
    exact (List.Perm.swap a z _).trans ((erase_perm h).cons a)
theorem erase_map {α β : Type} (f : α → β) : ∀ (l : List α) (k : Nat), (l.map f).eraseIdx k = (l.eraseIdx k).map f
  | [], _ => rfl
  | _ :: _, 0 => rfl
  | a :: l, k + 1 => by rw [List.map_cons, List.eraseIdx_cons_succ, List.eraseIdx_cons_succ, List.map_cons, erase_map f l k]
theorem perm_pop {α : Type} {ys zs xs : List α} {k : Nat} {z : α} (h : (ys ++ zs).Perm xs) (hk : zs[k]? = some z) : ((ys ++ [z]) ++ zs.eraseIdx k).Perm xs := by
  refine List.Perm.trans ?_ h
  rw [List.append_assoc]
  exact List.Perm.append_left ys (erase_perm hk)
theorem pop2_wp {S : Sto} {B : Int} {n s : Nat} {xs : List Str} {a1 a3 a4 a5 a6 a7 a8 a10 a11 a12 a13 : Option Val} (T : Tf S B) (hn : 3 ≤ n) (h : S[n]? = some (.lst (xs.map .str))) (hs : s ≤ xs.length) (hx : xs.length ≤ 8) (hB : B + 8 < 2 ^ 40) :
    Wp ((eLc (.nm 8) (iRg1 (aCons (eV 9) aNil)) bYes (eMt isL gPop (eV 2) (aCons (eDef drawL_ 2 (aCons (eV 0) (aCons (eCall gLen (aCons (eV 2) aNil)) aNil))) aNil)) [8]) [some (.ref 0), a1, some (.ref n), a3, a4, a5, a6, a7, a8, some (.int (s : Nat)), a10, a11, a12, a13] S) fun v U => ∃ (r : Nat) (ys zs : List Str), v = .ref r ∧ U[r]? = some (.lst (ys.map .str)) ∧ U[n]? = some (.lst (zs.map .str)) ∧ (ys ++ zs).Perm xs ∧ ys.length = s ∧ Tf U (B + s) ∧ K2 0 n S U ∧ n < U.length ∧ n ≠ r ∧ 3 ≤ r ∧ S.length ≤ r := by
  have n1 := lt_of_at h
  array_get_dec
  refine ⟨s, rfl, ?_, by omega, by omega⟩
  refine lc_inv (fun i a U => ∃ ys zs : List Str, a = ys.map Val.str ∧ U[n]? = some (.lst (zs.map .str)) ∧ (ys ++ zs).Perm xs ∧ ys.length = i ∧ i ≤ s ∧ Tf U (B + i) ∧ K2 0 n S U ∧ S.length ≤ U.length) (by simp [rangeV]; omega) ⟨[], xs, rfl, h, .refl _, rfl, by omega, by simpa using T, .refl _, by omega⟩ (fun _ _ _ _ _ => trivial) (fun i a U ⟨ys, zs, e, _, _, l, _⟩ => by rw [e, List.length_map]; omega) ?_ ?_
  · rintro i v a U hv ⟨ys, zs, rfl, hz, pm, l, li, TU, kU, lU⟩
    have hi : i < s := by
      have := (List.getElem?_eq_some_iff.mp hv).1
      simp [rangeV] at this
      omega
    have lz : ys.length + zs.length = xs.length := by rw [← List.length_append]; exact pm.length_eq
    refine bn rfl ?_
    array_get_dec
    rw [List.length_map]
    refine (draw_wp TU (m := (zs.length : Int)) (by omega) (by omega) (by omega)).imp ?_
    rintro _ U1 ⟨d, rfl, d0, d1, T1, k1⟩
    obtain ⟨k, rfl⟩ := Int.eq_ofNat_of_zero_le d0
    have hk : k < zs.length := by omega
    array_get_dec
    have z1 : U1[n]? = some (.lst (zs.map .str)) := k1 n _ (by omega) hz
    refine vPop (k := k) rfl z1 rfl (by rw [List.getElem?_map, List.getElem?_eq_getElem hk]; rfl) (by rw [List.length_map]; omega) ?_
    intro U2 l_U2 g_U2 k_U2
    have l1 : U.length ≤ U1.length := k1.len (by omega)
    refine ⟨ys ++ [zs[k]], zs.eraseIdx k, by rw [List.map_append]; rfl, by rw [g_U2, erase_map], perm_pop pm (List.getElem?_eq_getElem hk), by rw [List.length_append, l]; rfl, by omega, ?_, kU.trans ((K2.kx k1).trans (K2.ky k_U2)), by omega⟩
    have := T1.kx k_U2 hn
    rw [show (B : Int) + ((i + 1 : Nat) : Int) = B + i + 1 by omega]
    exact this
  · rintro a U ⟨ys, zs, rfl, hz, pm, l, li, TU, kU, lU⟩
    intro U1 r e_r l_U1 g_r k_U1
    have e : (rangeV 0 s).length = s := by simp [rangeV]
    have ez : (Int.toNat (s : Int)) = s := by omega
    simp only [rangeV, List.length_map, List.length_range, ez] at l TU
    have nr : n < U.length := by omega
    exact ⟨r, ys, zs, rfl, g_r, k_U1 _ _ hz, pm, l, TU.fr k_U1, kU.trans (.kn k_U1), by omega, by omega, by omega, by omega⟩
theorem pop3_wp {S : Sto} {B : Int} {n s : Nat} {xs : List Str} {a1 a2 a4 a5 a6 a7 a8 a10 a11 a12 a13 : Option Val} (T : Tf S B) (hn : 3 ≤ n) (h : S[n]? = some (.lst (xs.map .str))) (hs : s ≤ xs.length) (hx : xs.length ≤ 8) (hB : B + 8 < 2 ^ 40) :
    Wp ((eLc (.nm 8) (iRg1 (aCons (eV 9) aNil)) bYes (eMt isL gPop (eV 3) (aCons (eDef drawL_ 2 (aCons (eV 0) (aCons (eCall gLen (aCons (eV 3) aNil)) aNil))) aNil)) [8]) [some (.ref 0), a1, a2, some (.ref n), a4, a5, a6, a7, a8, some (.int (s : Nat)), a10, a11, a12, a13] S) fun v U => ∃ (r : Nat) (ys zs : List Str), v = .ref r ∧ U[r]? = some (.lst (ys.map .str)) ∧ U[n]? = some (.lst (zs.map .str)) ∧ (ys ++ zs).Perm xs ∧ ys.length = s ∧ Tf U (B + s) ∧ K2 0 n S U ∧ n < U.length ∧ n ≠ r ∧ 3 ≤ r ∧ S.length ≤ r := by
  have n1 := lt_of_at h
  array_get_dec
  refine ⟨s, rfl, ?_, by omega, by omega⟩
  refine lc_inv (fun i a U => ∃ ys zs : List Str, a = ys.map Val.str ∧ U[n]? = some (.lst (zs.map .str)) ∧ (ys ++ zs).Perm xs ∧ ys.length = i ∧ i ≤ s ∧ Tf U (B + i) ∧ K2 0 n S U ∧ S.length ≤ U.length) (by simp [rangeV]; omega) ⟨[], xs, rfl, h, .refl _, rfl, by omega, by simpa using T, .refl _, by omega⟩ (fun _ _ _ _ _ => trivial) (fun i a U ⟨ys, zs, e, _, _, l, _⟩ => by rw [e, List.length_map]; omega) ?_ ?_
  · rintro i v a U hv ⟨ys, zs, rfl, hz, pm, l, li, TU, kU, lU⟩
    have hi : i < s := by
      have := (List.getElem?_eq_some_iff.mp hv).1
      simp [rangeV] at this
      omega
    have lz : ys.length + zs.length = xs.length := by rw [← List.length_append]; exact pm.length_eq
    refine bn rfl ?_
    array_get_dec
    rw [List.length_map]
    refine (draw_wp TU (m := (zs.length : Int)) (by omega) (by omega) (by omega)).imp ?_
    rintro _ U1 ⟨d, rfl, d0, d1, T1, k1⟩
    obtain ⟨k, rfl⟩ := Int.eq_ofNat_of_zero_le d0
    have hk : k < zs.length := by omega
    array_get_dec
    have z1 : U1[n]? = some (.lst (zs.map .str)) := k1 n _ (by omega) hz
    refine vPop (k := k) rfl z1 rfl (by rw [List.getElem?_map, List.getElem?_eq_getElem hk]; rfl) (by rw [List.length_map]; omega) ?_
    intro U2 l_U2 g_U2 k_U2
    have l1 : U.length ≤ U1.length := k1.len (by omega)
    refine ⟨ys ++ [zs[k]], zs.eraseIdx k, by rw [List.map_append]; rfl, by rw [g_U2, erase_map], perm_pop pm (List.getElem?_eq_getElem hk), by rw [List.length_append, l]; rfl, by omega, ?_, kU.trans ((K2.kx k1).trans (K2.ky k_U2)), by omega⟩
    have := T1.kx k_U2 hn
    rw [show (B : Int) + ((i + 1 : Nat) : Int) = B + i + 1 by omega]
    exact this
  · rintro a U ⟨ys, zs, rfl, hz, pm, l, li, TU, kU, lU⟩
    intro U1 r e_r l_U1 g_r k_U1
    have e : (rangeV 0 s).length = s := by simp [rangeV]
    have ez : (Int.toNat (s : Int)) = s := by omega
    simp only [rangeV, List.length_map, List.length_range, ez] at l TU
    have nr : n < U.length := by omega
    exact ⟨r, ys, zs, rfl, g_r, k_U1 _ _ hz, pm, l, TU.fr k_U1, kU.trans (.kn k_U1), by omega, by omega, by omega, by omega⟩
end K57
namespace K57
open PySem PySem.Spec PyProof.Rows L2 G Th AL KL Fr Od
open K37 (fmod_lt p60 p40 p62 TxOk Sh ShL)
open K08 (ws_cut)
section
variable {S : Sto} {Q : Val → Sto → Prop} {x y : Val} {a b : Str}
theorem or_some {α : Type} {o p : Option α} {z : α} (h : o = some z) : o.or p = some z := by rw [h]; rfl
theorem vMinG2 (hx : x = .str a) (hy : y = .str b) (q : Q (.str (if b.cps.toList < a.cps.toList then b else a)) S) : Wp (gMinG [x, y] S) Q := by
  subst hx hy
  exact ⟨_, _, or_some rfl, q⟩
theorem vMaxB2 (hx : x = .str a) (hy : y = .str b) (q : Q (.str (if a.cps.toList < b.cps.toList then b else a)) S) : Wp (gMaxB [x, y] S) Q := by
  subst hx hy
  exact ⟨_, _, rfl, q⟩
theorem strs_map : ∀ ss : List Str, strsOf (ss.map .str) = some ss
  | [] => rfl
  | x :: r => by rw [List.map_cons, strsOf, strs_map r]; rfl
theorem vSortGS {n : Nat} {ss : List Str} (hx : x = .ref n) (h : S[n]? = some (.lst (ss.map .str))) (hl : ss.length < 64) (q : Nw S (.lst ((sortS ss).map .str)) Q) : Wp (gSortedG [x] S) Q := by
  subst hx
  exact ⟨_, _, or_some (by simp only [gSorted, h, strs_map, if_pos hl]), q.use⟩
theorem vSortGD {n : Nat} {kvs : List (Key × Val)} {ss : List Str} (hx : x = .ref n) (h : S[n]? = some (.dic kvs)) (hk : keysS kvs = some ss) (hl : ss.length < 64) (q : Nw S (.lst ((sortS ss).map Val.str)) Q) : Wp (gSortedG [x] S) Q := by
  subst hx
  exact ⟨_, _, or_some (by simp only [gSorted, h, hk, if_pos hl]), q.use⟩
theorem vSortGT {n : Nat} {vs : List Val} (hx : x = .ref n) (h : S[n]? = some (.lst vs)) (hv : ∀ v ∈ vs, ∃ xs, v = .tup xs) (ok : okSort vs = true) (q : Nw S (.lst (sortT vs)) Q) : Wp (gSortedG [x] S) Q := by
  subst hx
  refine ⟨.ref S.length, S ++ [.lst (sortT vs)], ?_, q.use⟩
  cases vs with
  | nil =>
    refine or_some ?_
    have e : sortS [] = [] := List.Perm.eq_nil (List.mergeSort_perm [] leS)
    simp only [gSorted, h, strsOf, e]
    rfl
  | cons v l =>
    obtain ⟨xs, rfl⟩ := hv v List.mem_cons_self
    have e : gSorted [.ref n] S = none := by simp only [gSorted, h, strsOf]
    unfold gSortedG
    rw [e]
    simp only [gSortT, h, if_pos ok, Option.none_or]
theorem sortS_perm (l : List Str) : (sortS l).Perm l := List.mergeSort_perm l leS
end
abbrev tl (x : Str) : List Nat := x.cps.toList
theorem tl_inj {x y : Str} (h : tl x = tl y) : x = y := str_inj h
theorem tl_tri {x y : Str} (h : x ≠ y) : (tl x < tl y ∧ ¬ tl y < tl x) ∨ (tl y < tl x ∧ ¬ tl x < tl y) := by
  have a : strKind.blt (tl x) (tl y) = decide (tl x < tl y) := rfl
  have b : strKind.blt (tl y) (tl x) = decide (tl y < tl x) := rfl
  have as : ∀ u v : List Nat, u < v → ¬ v < u := fun u v h1 h2 => by
    have := strKind.trans u v u (decide_eq_true h1) (decide_eq_true h2)
    rw [strKind.irrefl] at this
    cases this
  by_cases c : tl x < tl y
  · exact .inl ⟨c, as _ _ c⟩
  · by_cases d : tl y < tl x
    · exact .inr ⟨d, c⟩
    · exact absurd (tl_inj (strKind.total _ _ (by rw [a]; exact decide_eq_false c) (by rw [b]; exact decide_eq_false d))) h
def wireV (w : Str × Str) : Val := .tup [.str w.1, .str w.2]
def wr (o : List Str) (p : Nat × Nat) : Str × Str :=
  let a := o.getD p.1 ""; let b := o.getD p.2 ""
  (if tl b < tl a then b else a, if tl a < tl b then b else a)
theorem wr_at {o : List Str} (nd : o.Nodup) {p : Nat × Nat} (h1 : p.1 < p.2) (h2 : p.2 < o.length) : ∃ a b, o[p.1]? = some a ∧ o[p.2]? = some b ∧ a ≠ b ∧ ((wr o p = (a, b) ∧ tl a < tl b) ∨ (wr o p = (b, a) ∧ tl b < tl a)) := by
  have l1 : p.1 < o.length := by omega
  refine ⟨o[p.1], o[p.2], List.getElem?_eq_getElem l1, List.getElem?_eq_getElem h2, fun e => ?_, ?_⟩
  · have := (List.getElem_inj (h₀ := l1) (h₁ := h2) nd).mp e
    omega
  · have ne : o[p.1] ≠ o[p.2] := fun e => by
      have := (List.getElem_inj (h₀ := l1) (h₁ := h2) nd).mp e
      omega
    have e1 : o.getD p.1 "" = o[p.1] := by rw [List.getD_eq_getElem?_getD, List.getElem?_eq_getElem l1]; rfl
    have e2 : o.getD p.2 "" = o[p.2] := by rw [List.getD_eq_getElem?_getD, List.getElem?_eq_getElem h2]; rfl
    unfold wr
    simp only [e1, e2]
    rcases tl_tri ne with ⟨c, d⟩ | ⟨c, d⟩
    · exact .inl ⟨by rw [if_neg d, if_pos c], c⟩
    · exact .inr ⟨by rw [if_pos c, if_neg d], c⟩
theorem wr_inj {o : List Str} (nd : o.Nodup) {p q : Nat × Nat} (h1 : p.1 < p.2) (h2 : p.2 < o.length) (g1 : q.1 < q.2) (g2 : q.2 < o.length) (e : wr o p = wr o q) : p = q := by
  obtain ⟨a, b, e1, e2, ne, h⟩ := wr_at nd h1 h2
  obtain ⟨c, d, f1, f2, nf, g⟩ := wr_at nd g1 g2
  have at_ : ∀ {i j : Nat} {x : Str}, o[i]? = some x → o[j]? = some x → i = j := fun {i j x} hi hj => (List.getElem?_inj (List.getElem?_eq_some_iff.mp hi).1 nd).mp (hi.trans hj.symm)
  rcases h with ⟨h, _⟩ | ⟨h, _⟩ <;> rcases g with ⟨g, _⟩ | ⟨g, _⟩ <;> (rw [h, g] at e; obtain ⟨rfl, rfl⟩ := Prod.mk.inj e)
  · exact Prod.ext (at_ e1 f1) (at_ e2 f2)
  · have := at_ e1 f2
    have := at_ e2 f1
    omega
  · have := at_ e1 f2
    have := at_ e2 f1
    omega
  · exact Prod.ext (at_ e1 f1) (at_ e2 f2)
structure Mb where
  name : Str
  pri : Int
  cls : Int
def mbV (m : Mb) : Val := .tup [.str m.name, .int m.pri, .int m.cls]
structure Net where
  ms : List Mb
  ws : List (Str × Str)
def netV (n : Net) : Val := .tup [.tup (n.ms.map mbV), .tup (n.ws.map wireV)]
def Net.names (n : Net) : List Str := n.ms.map Mb.name
def pool : List Str := ["a", "ab", "b", "c", "d", "yy", "z", "zzzzzzzz"]
structure WOk (ns : List Str) (ws : List (Str × Str)) : Prop where
  nd : ws.Nodup
  len : ws.length ≤ 12
  mem : ∀ w ∈ ws, w.1 ∈ ns ∧ w.2 ∈ ns ∧ tl w.1 < tl w.2
structure NOk (n : Net) : Prop where
  nd : n.names.Nodup
  pos : 0 < n.ms.length
  len : n.ms.length ≤ 8
  inp : ∀ x ∈ n.names, x ∈ pool
  num : ∀ m ∈ n.ms, 0 ≤ m.pri ∧ m.pri < 4 ∧ 0 ≤ m.cls ∧ m.cls < 2
  w : WOk n.names n.ws
  srt : Srt (n.ws.map wireV)
  nsrt : sortS n.names = n.names
/-- a name as met -/
def NmOk (x : Str) : Prop := PyData.strOk x = true ∧ x.cps.size ≤ 8
theorem nm_pool {x : Str} (h : x ∈ pool) : NmOk x := by
  simp only [pool, List.mem_cons, List.not_mem_nil, or_false] at h
  rcases h with rfl | rfl | rfl | rfl | rfl | rfl | rfl | rfl <;> exact ⟨by decide +kernel, by decide +kernel⟩
theorem pool_nd : pool.Nodup := by decide +kernel
theorem NOk.nm {n : Net} (h : NOk n) {x : Str} (hx : x ∈ n.names) : NmOk x := nm_pool (h.inp x hx)
theorem wire_ok {w : Str × Str} (h1 : NmOk w.1) (h2 : NmOk w.2) : okV (wireV w) = true ∧ hd1 (dV (wireV w)) = true := by
  refine ⟨?_, rfl⟩
  simp only [okV, wireV, pureV, pureVs, dV, dVs, PyData.canLay0, PyData.canLayAll0, h1.1, h2.1, PyData.depth, PyData.depthAll, Bool.and_true, Bool.true_and]
  decide
theorem wire_sm (w u : Str × Str) : smV (wireV w) (wireV u) = true := rfl
theorem ok_sort {vs : List Val} (h1 : ∀ v ∈ vs, okV v = true ∧ hd1 (dV v) = true) (h2 : ∀ a ∈ vs, ∀ b ∈ vs, smV a b = true) (hl : vs.length < 1000000) : okSort vs = true := by
  unfold okSort
  simp only [Bool.and_eq_true, List.all_eq_true, decide_eq_true_eq]
  exact ⟨⟨⟨fun v hv => (h1 v hv).1, fun v hv => (h1 v hv).2⟩, h2⟩, hl⟩
/-- whether a pair is wired, by the way drawn -/
theorem near_wp {B : Int} {k j sz wy : Nat} {S : Sto} {a1 a2 a3 a4 a5 a6 a7 a12 a13 : Option Val} (T : Tf S B) (hw : wy < 5) (hB : B + 8 < 2 ^ 40) :
    Wp ((eB gIxA (eLst (aCons (eB gEq (eB gSub (eV 8) (eV 11)) (eC (.int 1))) (aCons (eOr (eB gEq (eB gSub (eV 8) (eV 11)) (eC (.int 1))) (eB gEq (eB gSub (eV 8) (eV 11)) (eB gSub (eV 9) (eC (.int 1))))) (aCons (eB gEq (eV 11) (eC (.int 0))) (aCons (eB gEq (eDef drawL_ 2 (aCons (eV 0) (aCons (eC (.int 2)) aNil))) (eC (.int 0))) (aCons (eB gLt (eB gSub (eV 8) (eV 11)) (eC (.int 3))) aNil)))))) (eV 10))
      [some (.ref 0), a1, a2, a3, a4, a5, a6, a7, some (.int (k : Nat)), some (.int (sz : Nat)), some (.int (wy : Nat)), some (.int (j : Nat)), a12, a13] S) fun v U => ∃ b : Bool, v = .bl b ∧ Tf U (B + 1) ∧ Kx 0 S U := by
  have at5 : ∀ b0 b1 b2 b3 b4 : Bool, ∃ b : Bool, atI [Val.bl b0, Val.bl b1, Val.bl b2, Val.bl b3, Val.bl b4] (wy : Nat) = some (Val.bl b) := fun b0 b1 b2 b3 b4 => by
    have w5 : wy = 0 ∨ wy = 1 ∨ wy = 2 ∨ wy = 3 ∨ wy = 4 := by omega
    rcases w5 with rfl | rfl | rfl | rfl | rfl <;> exact ⟨_, rfl⟩
  have fin : ∀ (b0 b1 b2 b3 b4 : Bool) (U U1 : Sto) (r : Nat), Tf U (B + 1) → Kx 0 S U → U1[r]? = some (.lst [.bl b0, .bl b1, .bl b2, .bl b3, .bl b4]) → Kn U U1 → Wp (gIxA (.ref r) (.int (wy : Nat)) U1) fun v U => ∃ b : Bool, v = .bl b ∧ Tf U (B + 1) ∧ Kx 0 S U := fun b0 b1 b2 b3 b4 U U1 r T1 k1 g kn => by
    obtain ⟨b, e⟩ := at5 b0 b1 b2 b3 b4
    exact vIxL rfl rfl g e ⟨b, rfl, T1.fr kn, k1.trans (kn.kx 0)⟩
  array_get_dec
  refine Br.of (fun c => ?_) (fun c => ?_)
  · array_get_dec
    refine (draw_wp T (m := 2) (by decide) (by decide) (by omega)).imp ?_
    rintro _ U ⟨d, rfl, d0, d1, T1, k1⟩
    array_get_dec
    intro U1 r e_r l_U1 g_r k_U1
    array_get_dec
    exact fin _ _ _ _ _ U U1 r T1 k1 g_r k_U1
  · array_get_dec
    refine (draw_wp T (m := 2) (by decide) (by decide) (by omega)).imp ?_
    rintro _ U ⟨d, rfl, d0, d1, T1, k1⟩
    array_get_dec
    intro U1 r e_r l_U1 g_r k_U1
    array_get_dec
    exact fin _ _ _ _ _ U U1 r T1 k1 g_r k_U1
end K57
namespace K57
open PySem PySem.Spec PyProof.Rows L2 G Th AL KL Fr Od
open K37 (fmod_lt p60 p40 p62 TxOk Sh ShL)
open K08 (ws_cut)
/-- how far the pairs have gone -/
structure Pr (sz k j : Nat) (L : List (Nat × Nat)) : Prop where
  nd : L.Nodup
  lt : ∀ p ∈ L, p.1 < p.2 ∧ p.2 < sz ∧ (p.2 < k ∨ (p.2 = k ∧ p.1 < j))
  len : L.length ≤ 12
theorem Pr.next {sz k j : Nat} {L : List (Nat × Nat)} (h : Pr sz k j L) : Pr sz k (j + 1) L := ⟨h.nd, fun p hp => by have := h.lt p hp; omega, h.len⟩
theorem Pr.row {sz k : Nat} {L : List (Nat × Nat)} (h : Pr sz k k L) : Pr sz (k + 1) 0 L := ⟨h.nd, fun p hp => by have := h.lt p hp; omega, h.len⟩
theorem Pr.add {sz k j : Nat} {L : List (Nat × Nat)} (h : Pr sz k j L) (hj : j < k) (hk : k < sz) (hl : L.length < 12) : Pr sz k (j + 1) (L ++ [(j, k)]) := by
  refine ⟨?_, fun p hp => ?_, by rw [List.length_append, List.length_singleton]; omega⟩
  · rw [List.nodup_append]
    refine ⟨h.nd, by simp, fun a ha b hb e => ?_⟩
    have := h.lt a ha
    rw [List.mem_singleton.mp hb] at e
    rw [e] at this
    simp only at this
    omega
  · rcases List.mem_append.mp hp with hp | hp
    · have := h.lt p hp
      omega
    · rw [List.mem_singleton.mp hp]
      exact ⟨hj, hk, .inr ⟨rfl, Nat.lt_succ_self _⟩⟩
theorem Pr.wok {o : List Str} {L : List (Nat × Nat)} {k : Nat} (h : Pr o.length k 0 L) (nd : o.Nodup) : WOk o (L.map (wr o)) := by
  refine ⟨?_, by rw [List.length_map]; exact h.len, fun w hw => ?_⟩
  · refine List.pairwise_map.mpr (h.nd.imp_of_mem fun {p q} hp hq ne e => ne ?_)
    have a := h.lt p hp
    have b := h.lt q hq
    exact wr_inj nd a.1 a.2.1 b.1 b.2.1 e
  · obtain ⟨p, hp, rfl⟩ := List.mem_map.mp hw
    have a := h.lt p hp
    obtain ⟨x, y, h1, h2, _, h3⟩ := wr_at nd a.1 a.2.1
    have m1 := List.mem_of_getElem? h1
    have m2 := List.mem_of_getElem? h2
    rcases h3 with ⟨e, l⟩ | ⟨e, l⟩ <;> (rw [e])
    · exact ⟨m1, m2, l⟩
    · exact ⟨m2, m1, l⟩
theorem WOk.perm {ns : List Str} {ws us : List (Str × Str)} (h : WOk ns ws) (p : us.Perm ws) : WOk ns us := ⟨p.nodup_iff.mpr h.nd, by rw [p.length_eq]; exact h.len, fun w hw => h.mem w (p.mem_iff.mp hw)⟩
theorem WOk.names {ns ms : List Str} {ws : List (Str × Str)} (h : WOk ns ws) (e : ∀ x, x ∈ ns → x ∈ ms) : WOk ms ws := ⟨h.nd, h.len, fun w hw => by obtain ⟨a, b, c⟩ := h.mem w hw; exact ⟨e _ a, e _ b, c⟩⟩
section
variable {S : Sto} {B : Int} {a1 a2 a3 a4 a5 a13 : Option Val} {ro rf : Nat} {o : List Str} {sz wy : Nat}
/-- one pair -/
theorem pair_wp {k j : Nat} {L : List (Nat × Nat)} {v12 : Option Val} (T : Tf S B) (hB : B + 8 < 2 ^ 40) (hw : wy < 5) (hr : 3 ≤ ro) (hf : 3 ≤ rf) (hne : ro ≠ rf) (ho : S[ro]? = some (.lst (o.map .str))) (hL : S[rf]? = some (.lst (L.map fun p => wireV (wr o p)))) (pr : Pr o.length k j L) (hj : j < k) (hk : k < o.length) :
    Ws ((sSeq (sAsg (.nm 12) (eB gIxA (eLst (aCons (eB gEq (eB gSub (eV 8) (eV 11)) (eC (.int 1))) (aCons (eOr (eB gEq (eB gSub (eV 8) (eV 11)) (eC (.int 1))) (eB gEq (eB gSub (eV 8) (eV 11)) (eB gSub (eV 9) (eC (.int 1))))) (aCons (eB gEq (eV 11) (eC (.int 0))) (aCons (eB gEq (eDef drawL_ 2 (aCons (eV 0) (aCons (eC (.int 2)) aNil))) (eC (.int 0))) (aCons (eB gLt (eB gSub (eV 8) (eV 11)) (eC (.int 3))) aNil)))))) (eV 10)))
    (sIf (bAnd (eT (eV 12)) (eT (eB gLt (eCall gLen (aCons (eV 7) aNil)) (eC (.int 12))))) (sExpr (eMt isL gApp (eV 7) (aCons (eTup (aCons (eCall gMinG (aCons (eB gIxA (eV 6) (eV 11)) (aCons (eB gIxA (eV 6) (eV 8)) aNil))) (aCons (eCall gMaxB (aCons (eB gIxA (eV 6) (eV 11)) (aCons (eB gIxA (eV 6) (eV 8)) aNil))) aNil))) aNil))) sNil))
      [some (.ref 0), a1, a2, a3, a4, a5, some (.ref ro), some (.ref rf), some (.int (k : Nat)), some (.int (sz : Nat)), some (.int (wy : Nat)), some (.int (j : Nat)), v12, a13] S)
      (fun ρ U => ∃ (b : Bool) (L' : List (Nat × Nat)), ρ = [some (.ref 0), a1, a2, a3, a4, a5, some (.ref ro), some (.ref rf), some (.int (k : Nat)), some (.int (sz : Nat)), some (.int (wy : Nat)), some (.int (j : Nat)), some (.bl b), a13] ∧ U[rf]? = some (.lst (L'.map fun p => wireV (wr o p))) ∧ Pr o.length k (j + 1) L' ∧ Tf U (B + 1) ∧ K2 0 rf S U ∧ S.length ≤ U.length) (fun _ _ => False) := by
  refine ws_seq (ws_asg ((near_wp T hw hB).imp ?_))
  rintro _ U ⟨b, rfl, T1, k1⟩
  have o1 : U[ro]? = some (.lst (o.map .str)) := k1 _ _ (by omega) ho
  have f1 : U[rf]? = some (.lst (L.map fun p => wireV (wr o p))) := k1 _ _ (by omega) hL
  have l1 : S.length ≤ U.length := k1.len (by have := lt_of_at ho; omega)
  array_get_dec
  refine Br.of (fun c => ?_) (fun c => ?_)
  · array_get_dec
    rw [List.length_map]
    refine Br.of (fun d => ?_) (fun d => ?_)
    · have d : L.length < 12 := by
        have := of_decide_eq_true d
        omega
      have lj : j < o.length := by omega
      have ej : atI (o.map Val.str) (j : Nat) = some (.str o[j]) := atI_nat (by rw [List.getElem?_map, List.getElem?_eq_getElem lj]; rfl)
      have ek : atI (o.map Val.str) (k : Nat) = some (.str o[k]) := atI_nat (by rw [List.getElem?_map, List.getElem?_eq_getElem hk]; rfl)
      have wj : o.getD j "" = o[j] := by rw [List.getD_eq_getElem?_getD, List.getElem?_eq_getElem lj]; rfl
      have wk : o.getD k "" = o[k] := by rw [List.getD_eq_getElem?_getD, List.getElem?_eq_getElem hk]; rfl
      array_get_dec
      refine vIxL rfl rfl o1 ej ?_
      array_get_dec
      refine vIxL rfl rfl o1 ek ?_
      array_get_dec
      refine vMinG2 rfl rfl ?_
      array_get_dec
      refine vIxL rfl rfl o1 ej ?_
      array_get_dec
      refine vIxL rfl rfl o1 ek ?_
      array_get_dec
      refine vMaxB2 rfl rfl ?_
      array_get_dec
      refine vApp rfl f1 ?_ (small (by rw [List.length_map]; omega))
      intro U2 l_U2 g_U2 k_U2
      refine ⟨b, L ++ [(j, k)], rfl, ?_, pr.add hj hk d, T1.kx k_U2 hf, (K2.kx k1).trans (K2.ky k_U2), by omega⟩
      rw [g_U2, List.map_append]
      simp only [List.map_cons, List.map_nil, wireV, wr, wj, wk]
    · array_get_dec
      exact ⟨b, L, rfl, f1, pr.next, T1, K2.kx k1, l1⟩
  · array_get_dec
    exact ⟨b, L, rfl, f1, pr.next, T1, K2.kx k1, l1⟩
/-- all pairs -/
theorem pairs_wp {v8 v11 v12 : Option Val} (T : Tf S B) (hB : B + 100 < 2 ^ 40) (hw : wy < 5) (hr : 3 ≤ ro) (hf : 3 ≤ rf) (hne : ro ≠ rf) (ho : S[ro]? = some (.lst (o.map .str))) (hL : S[rf]? = some (.lst [])) (hz : sz = o.length) (h8 : o.length ≤ 8) :
    Ws ((sFor (.nm 8) (iRg1 (aCons (eV 9) aNil)) (sFor (.nm 11) (iRg1 (aCons (eV 8) aNil)) (sSeq (sAsg (.nm 12) (eB gIxA (eLst (aCons (eB gEq (eB gSub (eV 8) (eV 11)) (eC (.int 1))) (aCons (eOr (eB gEq (eB gSub (eV 8) (eV 11)) (eC (.int 1))) (eB gEq (eB gSub (eV 8) (eV 11)) (eB gSub (eV 9) (eC (.int 1))))) (aCons (eB gEq (eV 11) (eC (.int 0))) (aCons (eB gEq (eDef drawL_ 2 (aCons (eV 0) (aCons (eC (.int 2)) aNil))) (eC (.int 0))) (aCons (eB gLt (eB gSub (eV 8) (eV 11)) (eC (.int 3))) aNil)))))) (eV 10)))
    (sIf (bAnd (eT (eV 12)) (eT (eB gLt (eCall gLen (aCons (eV 7) aNil)) (eC (.int 12))))) (sExpr (eMt isL gApp (eV 7) (aCons (eTup (aCons (eCall gMinG (aCons (eB gIxA (eV 6) (eV 11)) (aCons (eB gIxA (eV 6) (eV 8)) aNil))) (aCons (eCall gMaxB (aCons (eB gIxA (eV 6) (eV 11)) (aCons (eB gIxA (eV 6) (eV 8)) aNil))) aNil))) aNil))) sNil))))
      [some (.ref 0), a1, a2, a3, a4, a5, some (.ref ro), some (.ref rf), v8, some (.int (sz : Nat)), some (.int (wy : Nat)), v11, v12, a13] S)
      (fun ρ U => ∃ (w8 w11 w12 : Option Val) (L : List (Nat × Nat)), ρ = [some (.ref 0), a1, a2, a3, a4, a5, some (.ref ro), some (.ref rf), w8, some (.int (sz : Nat)), some (.int (wy : Nat)), w11, w12, a13] ∧ U[rf]? = some (.lst (L.map fun p => wireV (wr o p))) ∧ Pr o.length o.length 0 L ∧ Tf U (B + 64) ∧ K2 0 rf S U ∧ S.length ≤ U.length) (fun _ _ => False) := by
  subst hz
  array_get_dec
  refine ⟨_, rfl, ?_, by omega, by omega⟩
  have e1 : (rangeV 0 (o.length : Int).toNat).length = o.length := by simp [rangeV]
  refine ws_loop (fun k ρ U => ∃ (w8 w11 w12 : Option Val) (L : List (Nat × Nat)), ρ = [some (.ref 0), a1, a2, a3, a4, a5, some (.ref ro), some (.ref rf), w8, some (.int (o.length : Nat)), some (.int (wy : Nat)), w11, w12, a13] ∧ U[rf]? = some (.lst (L.map fun p => wireV (wr o p))) ∧ Pr o.length k 0 L ∧ Tf U (B + 8 * (k : Nat)) ∧ K2 0 rf S U ∧ S.length ≤ U.length ∧ k ≤ o.length) ⟨v8, v11, v12, [], rfl, hL, ⟨by simp, by simp, by simp⟩, by simpa using T, .refl _, Nat.le_refl _, Nat.zero_le _⟩ (fun _ _ _ _ _ => trivial) ?_ ?_
  · rintro k v ρ U hv ⟨w8, w11, w12, L, rfl, hL, pr, TU, kU, lU, lk⟩
    have hk : k < o.length := by
      have := (List.getElem?_eq_some_iff.mp hv).1
      rw [e1] at this
      exact this
    have ev : v = .int (k : Nat) := by
      simp only [rangeV, List.getElem?_map] at hv
      obtain ⟨m, hm, rfl⟩ := Option.map_eq_some_iff.mp hv
      obtain ⟨_, rfl⟩ := List.getElem?_eq_some_iff.mp hm
      simp
    subst ev
    refine bn rfl ?_
    array_get_dec
    refine ⟨_, rfl, ?_, by omega, by omega⟩
    have e2 : (rangeV 0 (k : Int).toNat).length = k := by simp [rangeV]
    refine ws_loop (fun j ρ V => ∃ (u11 u12 : Option Val) (L : List (Nat × Nat)), ρ = [some (.ref 0), a1, a2, a3, a4, a5, some (.ref ro), some (.ref rf), some (.int (k : Nat)), some (.int (o.length : Nat)), some (.int (wy : Nat)), u11, u12, a13] ∧ V[rf]? = some (.lst (L.map fun p => wireV (wr o p))) ∧ Pr o.length k j L ∧ Tf V (B + 8 * (k : Nat) + (j : Nat)) ∧ K2 0 rf S V ∧ S.length ≤ V.length ∧ j ≤ k) ⟨w11, w12, L, rfl, hL, pr, by simpa using TU, kU, lU, Nat.zero_le _⟩ (fun _ _ _ _ _ => trivial) ?_ ?_
    · rintro j v ρ V hv ⟨u11, u12, L, rfl, hL, pr, TV, kV, lV, lj⟩
      have hj : j < k := by
        have := (List.getElem?_eq_some_iff.mp hv).1
        rw [e2] at this
        exact this
      have ev : v = .int (j : Nat) := by
        simp only [rangeV, List.getElem?_map] at hv
        obtain ⟨m, hm, rfl⟩ := Option.map_eq_some_iff.mp hv
        obtain ⟨_, rfl⟩ := List.getElem?_eq_some_iff.mp hm
        simp
      subst ev
      refine bn rfl ?_
      refine ws_cut (pair_wp (L := L) TV (by omega) hw hr hf hne (kV _ _ (by omega) hne ho) hL pr hj hk) ?_
      rintro ρ W ⟨b, L', rfl, h1, h2, h3, h4, h5⟩
      exact ⟨_, _, L', rfl, h1, h2, by rw [show (B + 8 * (k : Nat) + ((j + 1 : Nat) : Int)) = B + 8 * (k : Nat) + (j : Nat) + 1 by omega]; exact h3, kV.trans h4, by omega, hj⟩
    · rintro ρ V ⟨u11, u12, L, rfl, hL, pr, TV, kV, lV, lj⟩
      rw [e2] at pr TV
      exact ⟨_, u11, u12, L, rfl, hL, pr.row, TV.mono (by omega), kV, lV, hk⟩
  · rintro ρ U ⟨w8, w11, w12, L, rfl, hL, pr, TU, kU, lU, lk⟩
    rw [e1] at pr TU
    exact ⟨w8, w11, w12, L, rfl, hL, pr, TU.mono (by omega), kU, lU⟩
end
end K57
namespace K57
open PySem PySem.Spec PyProof.Rows L2 G Th AL KL Fr Od
open K37 (fmod_lt p60 p40 p62 TxOk Sh ShL)
open K08 (ws_cut)
theorem sortS_pw (l : List Str) : (sortS l).Pairwise (fun a b => leS a b = true) := List.pairwise_mergeSort leS_trans leS_total l
theorem sortS_eq {l m : List Str} (h : l.Pairwise (fun a b => leS a b = true)) (p : l.Perm m) : l = sortS m := List.Perm.eq_of_pairwise (fun a b _ _ h1 h2 => leS_anti h1 h2) h (sortS_pw m) (p.trans (sortS_perm m).symm)
theorem sortS_of_perm {l m : List Str} (p : l.Perm m) : sortS l = sortS m := sortS_eq (sortS_pw l) ((sortS_perm l).trans p)
theorem names_nd {ys zs : List Str} (h : (ys ++ zs).Perm pool) : ys.Nodup ∧ ∀ x ∈ ys, x ∈ pool := by
  have := h.nodup_iff.mpr pool_nd
  exact ⟨(List.nodup_append.mp this).1, fun x hx => h.mem_iff.mp (List.mem_append_left _ hx)⟩
theorem net_wp {S : Sto} {B : Int} {m : Nat} (T : Tf S B) (m0 : 0 < m) (m8 : m ≤ 8) (hB : B + 200 < 2 ^ 40) : Wp (netL_ [.ref 0, .int (m : Nat)] S) fun v U => ∃ n : Net, v = netV n ∧ NOk n ∧ n.ms.length ≤ m ∧ Tf U (B + 120) ∧ Kx 0 S U := by
  have s3 : 3 ≤ S.length := by
    obtain ⟨_, _, _, _, h, _⟩ := T.ex
    have := lt_of_at h
    omega
  refine AL.wf ?_; simp only [List.map_cons, List.map_nil, List.length_cons, List.length_nil, Nat.reduceAdd, Nat.reduceSub, List.replicate_succ, List.replicate_zero, List.cons_append, List.nil_append]; unfold netL_B; array_get_dec
  intro S1 p e_p l_S1 g_p k_S1
  array_get_dec
  refine (draw_wp (T.fr k_S1) (m := (m : Nat)) (by omega) (by omega) (by omega)).imp ?_
  rintro _ S2 ⟨d, rfl, d0, d1, T2, k2⟩
  obtain ⟨d, rfl⟩ := Int.eq_ofNat_of_zero_le d0
  array_get_dec
  refine (draw_wp T2 (m := 5) (by omega) (by omega) (by omega)).imp ?_
  rintro _ S3 ⟨wy, rfl, w0, w1, T3, k3⟩
  obtain ⟨wy, rfl⟩ := Int.eq_ofNat_of_zero_le w0
  have e1 : (1 : Int) + (d : Nat) = ((d + 1 : Nat) : Int) := by omega
  rw [e1]
  refine wa0 (bn rfl ?_)
  dsimp only [List.set_cons_zero, List.set_cons_succ]
  have p2 : p ≠ 0 := by omega
  have hp3 : S3[p]? = some (.lst (pool.map .str)) := k3 _ _ p2 (k2 _ _ p2 g_p)
  refine ws_seq (ws_asg (wCall (wa1 ((pop2_wp (s := d + 1) T3 (by omega) hp3 (by show d + 1 ≤ 8; omega) (by decide) (by omega)).imp ?_))))
  rintro _ U ⟨r, ys, zs, rfl, hr, hz, pm, ly, TU, kU, pU, pr, r3, lr⟩
  obtain ⟨nd, inp⟩ := names_nd pm
  refine wa0 (vSortGS rfl hr (by omega) ?_)
  intro U1 q e_q l_U1 g_q k_U1
  refine bn rfl ?_
  dsimp only [List.set_cons_zero, List.set_cons_succ]
  have T4 := TU.fr k_U1
  have l3 : S.length + 1 ≤ S3.length := by
    have := k2.len (by omega)
    have := k3.len (by omega)
    omega
  have q3 : S.length < q := by
    have := lt_of_at hr
    omega
  generalize hns : sortS ys = ns at g_q
  have pn : ns.Perm ys := hns ▸ sortS_perm ys
  have ln : ns.length = d + 1 := by rw [pn.length_eq, ly]
  have ndn : ns.Nodup := pn.nodup_iff.mpr nd
  have inn : ∀ x ∈ ns, x ∈ pool := fun x hx => inp x (pn.mem_iff.mp hx)
  have sn : sortS ns = ns := by
    rw [← hns]
    exact sortS_of_perm (sortS_perm ys)
  clear hns
  array_get_dec
  refine (draw_wp T4 (m := 3) (by omega) (by omega) (by omega)).imp ?_
  rintro _ U2 ⟨fl, rfl, f0, f1, T5, k5⟩
  have q0 : q ≠ 0 := by omega
  have hq2 : U2[q]? = some (.lst (ns.map .str)) := k5 _ _ q0 g_q
  array_get_dec
  generalize decide (fl = 0) = flat
  refine .inr ⟨_, _, rfl, hq2, ?_⟩
  refine lc_inv (fun i a V => ∃ ms : List Mb, a = ms.map mbV ∧ ms.map Mb.name = ns.take i ∧ (∀ x ∈ ms, 0 ≤ x.pri ∧ x.pri < 4 ∧ 0 ≤ x.cls ∧ x.cls < 2) ∧ i ≤ ns.length ∧ Tf V (B + 12 + 2 * (i : Nat)) ∧ Kx 0 U2 V) (by rw [List.length_map]; omega) ⟨[], rfl, rfl, by simp, by omega, T5.mono (by omega), .refl _ _⟩ (fun i a V _ ⟨_, _, _, _, _, _, k⟩ => k _ _ q0 hq2) (fun i a V ⟨ms, e, e2, _, hi, _⟩ => by rw [e, List.length_map, ← List.length_map (f := Mb.name), e2, List.length_take]; omega) ?_ ?_
  · rintro i v a V hv ⟨ms, rfl, e2, nm, hi, TV, kV⟩
    have li : i < ns.length := by
      have := (List.getElem?_eq_some_iff.mp hv).1
      rwa [List.length_map] at this
    have ev : v = .str ns[i] := by
      rw [List.getElem?_map, List.getElem?_eq_getElem li] at hv
      exact (Option.some.inj hv).symm
    subst ev
    have tk : ns.take (i + 1) = ns.take i ++ [ns[i]] := List.take_succ_eq_append_getElem li
    refine bn rfl ?_
    array_get_dec
    have fin : ∀ (x y : Int) (W : Sto), 0 ≤ x → x < 4 → 0 ≤ y → y < 2 → Tf W (B + 12 + 2 * (i : Nat) + 2) → Kx 0 V W → ∃ ms' : List Mb, ms.map mbV ++ [.tup [.str ns[i], .int x, .int y]] = ms'.map mbV ∧ ms'.map Mb.name = ns.take (i + 1) ∧ (∀ x ∈ ms', 0 ≤ x.pri ∧ x.pri < 4 ∧ 0 ≤ x.cls ∧ x.cls < 2) ∧ i + 1 ≤ ns.length ∧ Tf W (B + 12 + 2 * ((i + 1 : Nat) : Int)) ∧ Kx 0 U2 W := fun x y W x0 x1 y0 y1 TW kW => by
      refine ⟨ms ++ [⟨ns[i], x, y⟩], by rw [List.map_append]; rfl, by rw [List.map_append, e2, tk]; rfl, fun z hz => ?_, li, TW.mono (by omega), kV.trans kW⟩
      rcases List.mem_append.mp hz with hz | hz
      · exact nm z hz
      · rw [List.mem_singleton.mp hz]
        exact ⟨x0, x1, y0, y1⟩
    refine Br.of (fun c => ?_) (fun c => ?_)
    · array_get_dec
      refine (draw_wp TV (m := 2) (by omega) (by omega) (by omega)).imp ?_
      rintro _ W ⟨y, rfl, y0, y1, TW, kW⟩
      array_get_dec
      exact fin 0 y W (by omega) (by omega) y0 y1 (TW.mono (by omega)) kW
    · array_get_dec
      refine (draw_wp TV (m := 4) (by omega) (by omega) (by omega)).imp ?_
      rintro _ W0 ⟨x, rfl, x0, x1, TW0, kW0⟩
      array_get_dec
      refine (draw_wp TW0 (m := 2) (by omega) (by omega) (by omega)).imp ?_
      rintro _ W ⟨y, rfl, y0, y1, TW, kW⟩
      array_get_dec
      exact fin x y W x0 x1 y0 y1 (TW.mono (by omega)) (kW0.trans kW)
  · rintro a V ⟨ms, rfl, e2, nm, _, TV, kV⟩
    rw [List.length_map] at e2 TV
    rw [List.take_length] at e2
    have lms : ms.length = d + 1 := by rw [← List.length_map (f := Mb.name), e2, ln]
    intro V1 r1 e_r1 l_V1 g_r1 k_V1
    refine wa0 (vTupL rfl g_r1 (bn rfl ?_))
    dsimp only [List.set_cons_zero, List.set_cons_succ]
    have hq3 : V1[q]? = some (.lst (ns.map .str)) := k_V1 _ _ (kV _ _ q0 hq2)
    refine ws_seq (ws_asg ((pop3_wp (s := d + 1) (TV.fr k_V1) (by omega) hq3 (by omega) (by omega) (by omega)).imp ?_))
    rintro _ W ⟨ro, o, zs2, rfl, ho, hz2, pm2, lo, TW, kW, qW, qro, ro3, lro⟩
    have z0 : zs2 = [] := by
      have := pm2.length_eq
      rw [List.length_append] at this
      exact List.eq_nil_of_length_eq_zero (by omega)
    subst z0
    rw [List.append_nil] at pm2
    refine bn rfl ?_
    dsimp only [List.set_cons_zero, List.set_cons_succ]
    array_get_dec
    intro W1 rf e_rf l_W1 g_rf k_W1
    refine bn rfl ?_
    dsimp only [List.set_cons_zero, List.set_cons_succ]
    have ho1 : W1[ro]? = some (.lst (o.map .str)) := k_W1 _ _ ho
    have rrf : ro ≠ rf := by
      have := lt_of_at ho
      omega
    refine ws_seq (ws_cut' (pairs_wp (o := o) (wy := wy) (TW.fr k_W1) (by omega) (by omega) ro3 (by have := lt_of_at ho; omega) rrf ho1 g_rf lo.symm (by omega)) ?_ (fun _ _ h => h.elim))
    rintro _ X ⟨w8, w11, w12, L, rfl, hL, pr2, TX, kX, lX⟩
    have ndo : o.Nodup := pm2.nodup_iff.mpr ndn
    have wk := pr2.wok ndo
    have eL : (L.map fun p => wireV (wr o p)) = (L.map (wr o)).map wireV := by rw [List.map_map]; rfl
    rw [eL] at hL
    obtain ⟨ws, pw, ew⟩ := perm_up (f := wireV) (sortT_perm ((L.map (wr o)).map wireV)) (L.map (wr o)) rfl
    have wk2 : WOk ns ws := (wk.perm pw).names fun x hx => pm2.mem_iff.mp hx
    have nmo : ∀ w ∈ L.map (wr o), NmOk w.1 ∧ NmOk w.2 := fun w hw => by
      obtain ⟨a, b, _⟩ := wk.mem w hw
      exact ⟨nm_pool (inn _ (pm2.mem_iff.mp a)), nm_pool (inn _ (pm2.mem_iff.mp b))⟩
    array_get_dec
    refine vSortGT rfl hL (fun v hv => ?_) (ok_sort (fun v hv => ?_) (fun a ha b hb => ?_) ?_) ?_
    · obtain ⟨w, _, rfl⟩ := List.mem_map.mp hv
      exact ⟨_, rfl⟩
    · obtain ⟨w, hw, rfl⟩ := List.mem_map.mp hv
      exact wire_ok (nmo w hw).1 (nmo w hw).2
    · obtain ⟨w, _, rfl⟩ := List.mem_map.mp ha
      obtain ⟨u, _, rfl⟩ := List.mem_map.mp hb
      exact wire_sm w u
    · rw [List.length_map]
      have := wk.len
      omega
    · intro X1 r9 e_r9 l_X1 g_r9 k_X1
      array_get_dec
      rw [← ew]
      refine ⟨⟨ms, ws⟩, rfl, ⟨?_, by show 0 < ms.length; omega, by show ms.length ≤ 8; omega, ?_, nm, ?_, ?_, ?_⟩, by show ms.length ≤ m; omega, (TX.fr k_X1).mono (by omega), ?_⟩
      · show (ms.map Mb.name).Nodup
        rw [e2]
        exact ndn
      · show ∀ x ∈ ms.map Mb.name, x ∈ pool
        rw [e2]
        exact inn
      · show WOk (ms.map Mb.name) ws
        rw [e2]
        exact wk2
      · show Srt (ws.map wireV)
        rw [ew]
        exact sortT_srt _
      · show sortS (ms.map Mb.name) = ms.map Mb.name
        rw [e2]
        exact sn
      · intro k o hk h
        have lk := lt_of_at h
        have a1 := k3 _ _ hk (k2 _ _ hk (k_S1 _ _ h))
        have a2 := k_U1 _ _ (kU _ _ hk (by omega) a1)
        have a3 := k_V1 _ _ (kV _ _ hk (k5 _ _ hk a2))
        have a4 := k_W1 _ _ (kW _ _ hk (by omega) a3)
        have lrf : S.length < rf := by
          have := lt_of_at ho
          omega
        exact k_X1 _ _ (kX _ _ hk (by omega) a4)
end K57
namespace K57
open PySem PySem.Spec PyProof.Rows L2 G Th AL KL Fr Od
open K37 (fmod_lt p60 p40 p62 TxOk Sh ShL)
open K08 (ws_cut)
def endsL (ws : List (Str × Str)) (x : Str) : List Str := (ws.filter fun w => decide (w.2 = x)).map (·.1) ++ (ws.filter fun w => decide (w.1 = x)).map (·.2)
def ends (ws : List (Str × Str)) (x : Str) : List Str := sortS (endsL ws x)
/-- as the program goes over them -/
def oes (ws : List (Str × Str)) (x : Str) : List Str := (ws.filter fun w => decide (x = w.1) || decide (x = w.2)).map fun w => if w.1 = x then w.2 else w.1
theorem tl_irr (x : Str) : ¬ tl x < tl x := fun h => by
  have := strKind.irrefl (tl x)
  rw [show strKind.blt (tl x) (tl x) = decide (tl x < tl x) from rfl, decide_eq_true h] at this
  cases this
theorem tl_asym {x y : Str} (h : tl x < tl y) : ¬ tl y < tl x := fun g => by
  have := strKind.trans (tl x) (tl y) (tl x) (decide_eq_true h) (decide_eq_true g)
  rw [strKind.irrefl] at this
  cases this
theorem oes_perm {x : Str} : ∀ {ws : List (Str × Str)}, (∀ w ∈ ws, tl w.1 < tl w.2) → (oes ws x).Perm (endsL ws x)
  | [], _ => .refl _
  | w :: ws, h => by
    have ih := oes_perm (x := x) (ws := ws) fun u hu => h u (List.mem_cons_of_mem _ hu)
    have lt := h w List.mem_cons_self
    unfold oes endsL at ih ⊢
    by_cases a : w.1 = x
    · have b : ¬ w.2 = x := fun b => tl_irr x (by rw [a, b] at lt; exact lt)
      rw [List.filter_cons_of_pos (by simp [a]), List.filter_cons_of_neg (by simp [b]), List.filter_cons_of_pos (by simp [a]), List.map_cons, List.map_cons, if_pos a]
      exact (ih.cons _).trans List.perm_middle.symm
    · by_cases b : w.2 = x
      · rw [List.filter_cons_of_pos (by simp [b]), List.filter_cons_of_pos (by simp [b]), List.filter_cons_of_neg (by simp [a]), List.map_cons, List.map_cons, if_neg a]
        exact ih.cons _
      · have a' : ¬ x = w.1 := fun z => a z.symm
        have b' : ¬ x = w.2 := fun z => b z.symm
        rw [List.filter_cons_of_neg (by simp [a', b']), List.filter_cons_of_neg (by simp [b]), List.filter_cons_of_neg (by simp [a])]
        exact ih
theorem mem_endsL {ws : List (Str × Str)} {x y : Str} : y ∈ endsL ws x ↔ (y, x) ∈ ws ∨ (x, y) ∈ ws := by
  unfold endsL
  simp only [List.mem_append, List.mem_map, List.mem_filter, decide_eq_true_eq]
  constructor
  · rintro (⟨w, ⟨h, e⟩, e2⟩ | ⟨w, ⟨h, e⟩, e2⟩)
    · exact .inl (by rw [← e, ← e2]; exact h)
    · exact .inr (by rw [← e, ← e2]; exact h)
  · rintro (h | h)
    · exact .inl ⟨_, ⟨h, rfl⟩, rfl⟩
    · exact .inr ⟨_, ⟨h, rfl⟩, rfl⟩
theorem WOk.ends_nd {ns : List Str} {ws : List (Str × Str)} (h : WOk ns ws) (x : Str) : (endsL ws x).Nodup := by
  unfold endsL
  rw [List.nodup_append]
  have n1 : ((ws.filter fun w => decide (w.2 = x)).map (·.1)).Nodup := by
    refine List.pairwise_map.mpr ((h.nd.filter _).imp_of_mem fun {a b} ha hb ne e => ne ?_)
    simp only [List.mem_filter, decide_eq_true_eq] at ha hb
    exact Prod.ext e (ha.2.trans hb.2.symm)
  have n2 : ((ws.filter fun w => decide (w.1 = x)).map (·.2)).Nodup := by
    refine List.pairwise_map.mpr ((h.nd.filter _).imp_of_mem fun {a b} ha hb ne e => ne ?_)
    simp only [List.mem_filter, decide_eq_true_eq] at ha hb
    exact Prod.ext (ha.2.trans hb.2.symm) e
  refine ⟨n1, n2, fun a ha b hb e => ?_⟩
  simp only [List.mem_map, List.mem_filter, decide_eq_true_eq] at ha hb
  obtain ⟨w, ⟨h1, e1⟩, rfl⟩ := ha
  obtain ⟨u, ⟨h2, e2⟩, rfl⟩ := hb
  have l1 := (h.mem w h1).2.2
  have l2 := (h.mem u h2).2.2
  rw [e1, e] at l1
  rw [e2] at l2
  exact tl_asym l1 l2
theorem WOk.ends_in {ns : List Str} {ws : List (Str × Str)} (h : WOk ns ws) {x y : Str} (hy : y ∈ endsL ws x) : y ∈ ns := by
  rcases mem_endsL.mp hy with m | m
  · exact (h.mem _ m).1
  · exact (h.mem _ m).2.1
theorem nd_len {α : Type} [DecidableEq α] : ∀ {xs ys : List α}, xs.Nodup → (∀ x ∈ xs, x ∈ ys) → xs.length ≤ ys.length
  | [], ys, _, _ => Nat.zero_le _
  | x :: xs, ys, nd, h => by
    obtain ⟨h1, h2⟩ := List.nodup_cons.mp nd
    have hx := h x List.mem_cons_self
    have := nd_len (xs := xs) (ys := ys.erase x) h2 fun z hz => (List.mem_erase_of_ne (fun e => h1 (by rw [← e]; exact hz))).mpr (h z (List.mem_cons_of_mem _ hz))
    rw [List.length_erase_of_mem hx] at this
    have := List.length_pos_of_mem hx
    simp only [List.length_cons]
    omega
theorem WOk.ends_len {ns : List Str} {ws : List (Str × Str)} (h : WOk ns ws) (h8 : ns.length ≤ 8) (x : Str) : (endsL ws x).length ≤ 8 := Nat.le_trans (nd_len (h.ends_nd x) fun _ hy => h.ends_in hy) h8
section
variable {S : Sto} {B : Int}
def g1 : Val → Val
  | .tup [a, _] => a
  | _ => .non
def g2 : Val → Val
  | .tup [_, a] => a
  | _ => .non
def isS (x : Str) : Val → Bool
  | .str y => decide (y = x)
  | _ => false
theorem endsL_wp {ws : List (Str × Str)} {x : Str} (hl : ws.length ≤ 12) : Wp (endsL_ [.tup (ws.map wireV), .str x] S) fun v U => ∃ r, v = .ref r ∧ U[r]? = some (.lst ((ends ws x).map .str)) ∧ Kn S U ∧ S.length ≤ r := by
  have m1 : ∀ (f : Str × Str → Bool), ((ws.map wireV).filter (fun v => isS x (g2 v))).map g1 = ((ws.filter fun w => decide (w.2 = x)).map (·.1)).map Val.str := fun _ => by
    rw [List.filter_map, List.map_map, List.map_map]
    rfl
  have m2 : ((ws.map wireV).filter (fun v => isS x (g1 v))).map g2 = ((ws.filter fun w => decide (w.1 = x)).map (·.2)).map Val.str := by
    rw [List.filter_map, List.map_map, List.map_map]
    rfl
  have fl : ∀ f : Str × Str → Bool, (ws.filter f).length ≤ 12 := fun f => Nat.le_trans (List.length_filter_le _ _) hl
  refine AL.wf ?_; simp only [List.map_cons, List.map_nil, List.length_cons, List.length_nil, Nat.reduceAdd, Nat.reduceSub, List.replicate_succ, List.replicate_zero, List.cons_append, List.nil_append]; unfold endsL_B; array_get_dec
  refine .inl ⟨_, rfl, ?_⟩
  refine lc_pure (fun v => isS x (g2 v)) g1 trivial (by rw [List.length_map]; omega) (fun v hv => ?_) ?_
  · obtain ⟨w, _, rfl⟩ := List.mem_map.mp hv
    refine bn rfl ?_
    array_get_dec
    exact ⟨rfl, rfl, fun _ => by array_get_dec; exact ⟨rfl, rfl⟩⟩
  · rw [m1 fun _ => true]
    intro U1 r1 e_r1 l_U1 g_r1 k_U1
    array_get_dec
    refine .inl ⟨_, rfl, ?_⟩
    refine lc_pure (fun v => isS x (g1 v)) g2 trivial (by rw [List.length_map]; omega) (fun v hv => ?_) ?_
    · obtain ⟨w, _, rfl⟩ := List.mem_map.mp hv
      refine bn rfl ?_
      array_get_dec
      exact ⟨rfl, rfl, fun _ => by array_get_dec; exact ⟨rfl, rfl⟩⟩
    · rw [m2]
      intro U2 r2 e_r2 l_U2 g_r2 k_U2
      array_get_dec
      have f1 := fl fun w => decide (w.2 = x)
      have f2 := fl fun w => decide (w.1 = x)
      refine vCatL rfl rfl (k_U2 _ _ g_r1) g_r2 (by simp only [List.length_map]; omega) ?_
      rw [← List.map_append]
      intro U3 r3 e_r3 l_U3 g_r3 k_U3
      array_get_dec
      refine vSortGS rfl g_r3 (by simp only [List.length_append, List.length_map]; omega) ?_
      intro U4 r4 e_r4 l_U4 g_r4 k_U4
      refine ⟨r4, rfl, g_r4, k_U1.trans (k_U2.trans (k_U3.trans k_U4)), by omega⟩
end
end K57
namespace K57
open PySem PySem.Spec PyProof.Rows L2 G Th AL KL Fr Od
open K37 (fmod_lt p60 p40 p62 TxOk Sh ShL)
open K08 (ws_cut)
structure Ky where
  p : Int
  c : Int
  nm : Str
def keyV (k : Ky) : Val := .tup [.int k.p, .int k.c, .str k.nm]
structure Bs where
  key : Ky
  st : Int
  who : Str
def bsV (b : Bs) : Val := .tup [keyV b.key, .int b.st, .str b.who]
def boV : Option Bs → Val
  | none => .non
  | some b => bsV b
structure Hd where
  who : Str
  key : Ky
  st : Int
  old : Int
def hdV (h : Hd) : Val := .tup [.str h.who, keyV h.key, .int h.st, .int h.old]
structure Rw where
  name : Str
  best : Option Bs
  hs : List Hd
def rwV (r : Rw) : Val := .tup [.str r.name, boV r.best, .tup (r.hs.map hdV)]
def stV (s : List Rw) : Val := .tup (s.map rwV)
structure KyOk (k : Ky) : Prop where
  p0 : 0 ≤ k.p
  p1 : k.p < 4
  c0 : 0 ≤ k.c
  c1 : k.c < 2
  nm : NmOk k.nm
structure BsOk (ns : List Str) (b : Bs) : Prop where
  key : KyOk b.key
  s0 : 0 ≤ b.st
  s1 : b.st ≤ 9
  who : b.who ∈ ns
structure HdOk (ns : List Str) (h : Hd) : Prop where
  key : KyOk h.key
  s0 : 0 ≤ h.st
  s1 : h.st ≤ 9
  o0 : 0 ≤ h.old
  o1 : h.old ≤ 4
  who : h.who ∈ ns
structure RwOk (ns : List Str) (r : Rw) : Prop where
  best : ∀ b, r.best = some b → BsOk ns b
  hs : ∀ h ∈ r.hs, HdOk ns h
  nd : (r.hs.map Hd.who).Nodup
structure SOk (n : Net) (s : List Rw) : Prop where
  nm : s.map Rw.name = n.names
  row : ∀ r ∈ s, RwOk n.names r
theorem RwOk.len {n : Net} (hn : NOk n) {r : Rw} (h : RwOk n.names r) : r.hs.length ≤ 8 := by
  have := nd_len h.nd (ys := n.names) fun x hx => by
    obtain ⟨d, hd, rfl⟩ := List.mem_map.mp hx
    exact (h.hs d hd).who
  rw [List.length_map] at this
  have l := hn.len
  unfold Net.names at this
  rw [List.length_map] at this
  omega
section
variable {S : Sto} {B : Int} {n : Net}
def mkey (m : Mb) : Ky := ⟨m.pri, m.cls, m.name⟩
theorem keyL_wp {m : Mb} : Wp (keyL_ [mbV m] S) fun v U => v = keyV (mkey m) ∧ S = U := by
  refine AL.wf ?_; simp only [List.map_cons, List.map_nil, List.length_cons, List.length_nil, Nat.reduceAdd, Nat.reduceSub, List.replicate_succ, List.replicate_zero, List.cons_append, List.nil_append]; unfold keyL_B; array_get_dec
  exact ⟨rfl, rfl⟩
theorem mkey_ok (hn : NOk n) {m : Mb} (hm : m ∈ n.ms) : KyOk (mkey m) := by
  obtain ⟨a, b, c, d⟩ := hn.num m hm
  exact ⟨a, b, c, d, hn.nm (List.mem_map_of_mem hm)⟩
theorem any_key_wp (hn : NOk n) (T : Tf S B) (hB : B + 8 < 2 ^ 40) : Wp (any_keyL_ [.ref 0, netV n] S) fun v U => ∃ k, v = keyV k ∧ KyOk k ∧ Tf U (B + 4) ∧ Kx 0 S U := by
  refine AL.wf ?_; simp only [List.map_cons, List.map_nil, List.length_cons, List.length_nil, Nat.reduceAdd, Nat.reduceSub, List.replicate_succ, List.replicate_zero, List.cons_append, List.nil_append]; unfold any_keyL_B; array_get_dec
  refine (draw_wp T (m := 3) (by omega) (by omega) (by omega)).imp ?_
  rintro _ U ⟨d, rfl, d0, d1, T1, k1⟩
  array_get_dec
  refine Br.of (fun c => ?_) (fun c => ?_)
  · array_get_dec
    have := hn.pos
    have := hn.len
    rw [List.length_map]
    refine (draw_wp T1 (m := (n.ms.length : Nat)) (by omega) (by omega) (by omega)).imp ?_
    rintro _ U2 ⟨i, rfl, i0, i1, T2, k2⟩
    obtain ⟨i, rfl⟩ := Int.eq_ofNat_of_zero_le i0
    have li : i < n.ms.length := by omega
    array_get_dec
    refine vIxT rfl rfl (atI_nat (j := i) (by rw [List.getElem?_map, List.getElem?_eq_getElem li]; rfl)) ?_
    array_get_dec
    refine keyL_wp.imp ?_
    rintro _ _ ⟨rfl, rfl⟩
    exact ⟨_, rfl, mkey_ok hn (List.getElem_mem li), T2.mono (by omega), k1.trans k2⟩
  · array_get_dec
    refine (draw_wp T1 (m := 3) (by omega) (by omega) (by omega)).imp ?_
    rintro _ U2 ⟨p, rfl, p0, p1, T2, k2⟩
    array_get_dec
    refine (draw_wp T2 (m := 2) (by omega) (by omega) (by omega)).imp ?_
    rintro _ U3 ⟨q, rfl, q0, q1, T3, k3⟩
    array_get_dec
    intro U4 r e_r l_U4 g_r k_U4
    array_get_dec
    refine (draw_wp (T3.fr k_U4) (m := 3) (by omega) (by omega) (by omega)).imp ?_
    rintro _ U5 ⟨w, rfl, w0, w1, T5, k5⟩
    obtain ⟨w, rfl⟩ := Int.eq_ofNat_of_zero_le w0
    have r0 : r ≠ 0 := by
      obtain ⟨_, _, _, _, h, _⟩ := T3.ex
      have := lt_of_at h
      omega
    have hr := k5 _ _ r0 g_r
    have K : Kx 0 S U5 := k1.trans (k2.trans (k3.trans ((k_U4.kx 0).trans k5)))
    have fin : ∀ x : Str, NmOk x → ∃ k, Val.tup [.int p, .int q, .str x] = keyV k ∧ KyOk k ∧ Tf U5 (B + 4) ∧ Kx 0 S U5 := fun x hx => ⟨⟨p, q, x⟩, rfl, ⟨p0, by show p < 4; omega, q0, q1, hx⟩, T5.mono (by omega), K⟩
    have w3 : w = 0 ∨ w = 1 ∨ w = 2 := by omega
    array_get_dec
    rcases w3 with rfl | rfl | rfl
    · refine vIxL rfl rfl hr rfl ?_
      array_get_dec
      exact fin _ ⟨by decide +kernel, by decide +kernel⟩
    · refine vIxL rfl rfl hr rfl ?_
      array_get_dec
      exact fin _ ⟨by decide +kernel, by decide +kernel⟩
    · refine vIxL rfl rfl hr rfl ?_
      array_get_dec
      exact fin _ ⟨by decide +kernel, by decide +kernel⟩
/-- some of the wires -/
theorem WOk.filter {ns : List Str} {ws : List (Str × Str)} (h : WOk ns ws) (us : List (Str × Str)) (s : us.Sublist ws) : WOk ns us := ⟨h.nd.sublist s, Nat.le_trans s.length_le h.len, fun w hw => h.mem w (s.subset hw)⟩
theorem some_wires_wp (hn : NOk n) (T : Tf S B) (hB : B + 20 < 2 ^ 40) : Wp (some_wiresL_ [.ref 0, netV n] S) fun v U => ∃ ws : List (Str × Str), v = .tup (ws.map wireV) ∧ ws.Sublist n.ws ∧ Tf U (B + 20) ∧ Kx 0 S U := by
  have h12 := hn.w.len
  refine AL.wf ?_; simp only [List.map_cons, List.map_nil, List.length_cons, List.length_nil, Nat.reduceAdd, Nat.reduceSub, List.replicate_succ, List.replicate_zero, List.cons_append, List.nil_append]; unfold some_wiresL_B; array_get_dec
  refine (draw_wp T (m := 4) (by omega) (by omega) (by omega)).imp ?_
  rintro _ U ⟨d, rfl, d0, d1, T1, k1⟩
  array_get_dec
  refine .inl ⟨_, rfl, ?_⟩
  refine lc_inv (fun i a V => ∃ us : List (Str × Str), a = us.map wireV ∧ us.Sublist (n.ws.take i) ∧ i ≤ n.ws.length ∧ Tf V (B + 1 + (i : Nat)) ∧ Kx 0 U V) (by rw [List.length_map]; omega) ⟨[], rfl, by simp, by omega, by simpa using T1, .refl _ _⟩ (fun _ _ _ _ _ => trivial) (fun i a V ⟨us, e, s, _⟩ => by
    rw [e, List.length_map]
    have := s.length_le
    rw [List.length_take] at this
    omega) ?_ ?_
  · rintro i v a V hv ⟨us, rfl, s, li, TV, kV⟩
    have lt : i < n.ws.length := by
      have := (List.getElem?_eq_some_iff.mp hv).1
      rwa [List.length_map] at this
    have ev : v = wireV n.ws[i] := by
      rw [List.getElem?_map, List.getElem?_eq_getElem lt] at hv
      exact (Option.some.inj hv).symm
    subst ev
    have tk : n.ws.take (i + 1) = n.ws.take i ++ [n.ws[i]] := List.take_succ_eq_append_getElem lt
    have put : ∀ W : Sto, Tf W (B + 1 + ((i + 1 : Nat) : Int)) → Kx 0 U W → ∃ us' : List (Str × Str), us.map wireV ++ [wireV n.ws[i]] = us'.map wireV ∧ us'.Sublist (n.ws.take (i + 1)) ∧ i + 1 ≤ n.ws.length ∧ Tf W (B + 1 + ((i + 1 : Nat) : Int)) ∧ Kx 0 U W := fun W TW kW => ⟨us ++ [n.ws[i]], by rw [List.map_append]; rfl, by rw [tk]; exact s.append (.refl _), lt, TW, kW⟩
    refine bn rfl ?_
    array_get_dec
    refine Br.of (fun c => ?_) (fun c => ?_)
    · array_get_dec
      exact put V (TV.mono (by omega)) kV
    · array_get_dec
      refine (draw_wp TV (m := 3) (by omega) (by omega) (by omega)).imp ?_
      rintro _ W ⟨x, rfl, x0, x1, TW, kW⟩
      array_get_dec
      have TW' : Tf W (B + 1 + ((i + 1 : Nat) : Int)) := TW.mono (by omega)
      refine Br.of (fun c => ?_) (fun c => ?_)
      · array_get_dec
        exact put W TW' (kV.trans kW)
      · exact ⟨us, rfl, by rw [tk]; exact s.trans (List.sublist_append_left _ _), lt, TW', kV.trans kW⟩
  · rintro a V ⟨us, rfl, s, _, TV, kV⟩
    rw [List.length_map] at s TV
    rw [List.take_length] at s
    intro V1 r e_r l_V1 g_r k_V1
    array_get_dec
    exact ⟨us, rfl, s, (TV.fr k_V1).mono (by omega), k1.trans (kV.trans (k_V1.kx 0))⟩
theorem K2.len {a b : Nat} {S T : Sto} (h : K2 a b S T) (l : a + 1 < S.length ∧ b + 1 < S.length ∨ ∃ o, S[S.length - 1]? = some o ∧ S.length - 1 ≠ a ∧ S.length - 1 ≠ b) : S.length ≤ T.length := by
  have go : ∀ k : Nat, k ≠ a → k ≠ b → k < S.length → k < T.length := fun k ha hb hk => lt_of_at (h k _ ha hb (List.getElem?_eq_getElem hk))
  rcases l with ⟨l1, l2⟩ | ⟨o, h1, h2, h3⟩
  · have := go (S.length - 1) (by omega) (by omega) (by omega)
    omega
  · have := lt_of_at h1
    have := go (S.length - 1) h2 h3 (by omega)
    omega
/-- what a member says it has heard -/
theorem heard_wp (hn : NOk n) {ws es : List Str} {rh re : Nat} {a2 a3 a4 a6 a7 : Option Val} (T : Tf S B) (hB : B + 100 < 2 ^ 40) (h3 : 3 ≤ rh) (hne : re ≠ rh) (he : S[re]? = some (.lst (es.map .str))) (hh : S[rh]? = some (.lst [])) (ein : ∀ x ∈ es, x ∈ n.names) (e8 : es.length ≤ 8) :
    Ws (forR (.nm 7) (sIf (eT (eB gGt (eDef drawL_ 2 (aCons (eV 0) (aCons (eC (.int 3)) aNil))) (eC (.int 0)))) (sExpr (eMt isL gApp (eV 5) (aCons (eTup (aCons (eV 7) (aCons (eDef any_keyL_ 2 (aCons (eV 0) (aCons (eV 1) aNil))) (aCons (eDef drawL_ 2 (aCons (eV 0) (aCons (eC (.int 6)) aNil))) (aCons (eDef drawL_ 2 (aCons (eV 0) (aCons (eC (.int 4)) aNil))) aNil))))) aNil))) sNil) (fun U => U[re]? = some (.lst (es.map .str))) (es.map .str)
      [some (.ref 0), some (netV n), a2, a3, a4, some (.ref rh), a6, a7] S)
      (fun ρ U => ∃ (w7 : Option Val) (hs : List Hd), ρ = [some (.ref 0), some (netV n), a2, a3, a4, some (.ref rh), a6, w7] ∧ U[rh]? = some (.lst (hs.map hdV)) ∧ (hs.map Hd.who).Sublist es ∧ (∀ h ∈ hs, HdOk n.names h) ∧ Tf U (B + 64) ∧ K2 0 rh S U ∧ S.length ≤ U.length) (fun _ _ => False) := by
  have sl : 3 ≤ S.length := by
    obtain ⟨_, _, _, _, h, _⟩ := T.ex
    have := lt_of_at h
    omega
  have rl := lt_of_at hh
  refine ws_loop (fun i ρ U => ∃ (w7 : Option Val) (hs : List Hd), ρ = [some (.ref 0), some (netV n), a2, a3, a4, some (.ref rh), a6, w7] ∧ U[rh]? = some (.lst (hs.map hdV)) ∧ (hs.map Hd.who).Sublist (es.take i) ∧ (∀ h ∈ hs, HdOk n.names h) ∧ Tf U (B + 8 * (i : Nat)) ∧ K2 0 rh S U ∧ S.length ≤ U.length ∧ i ≤ es.length) ⟨a7, [], rfl, hh, by simp, by simp, by simpa using T, .refl _, Nat.le_refl _, Nat.zero_le _⟩ (fun i ρ U _ ⟨_, _, _, _, _, _, _, k, _⟩ => k _ _ (fun z => ?_) hne he) ?_ ?_
  · subst z
    obtain ⟨_, _, _, _, _, h, _⟩ := T.ex
    rw [he] at h
    cases h
  · rintro i v ρ U hv ⟨w7, hs, rfl, hU, sb, ok, TU, kU, lU, li⟩
    have lt : i < es.length := by
      have := (List.getElem?_eq_some_iff.mp hv).1
      rwa [List.length_map] at this
    have ev : v = .str es[i] := by
      rw [List.getElem?_map, List.getElem?_eq_getElem lt] at hv
      exact (Option.some.inj hv).symm
    subst ev
    have tk : es.take (i + 1) = es.take i ++ [es[i]] := List.take_succ_eq_append_getElem lt
    have hs8 : hs.length ≤ 8 := by
      have := sb.length_le
      rw [List.length_map, List.length_take] at this
      omega
    refine bn rfl ?_
    array_get_dec
    refine (draw_wp TU (m := 3) (by omega) (by omega) (by omega)).imp ?_
    rintro _ V ⟨d, rfl, d0, d1, TV, kV⟩
    array_get_dec
    refine Br.of (fun c => ?_) (fun c => ?_)
    · array_get_dec
      refine (any_key_wp hn TV (by omega)).imp ?_
      rintro _ V2 ⟨k, rfl, kok, TV2, kV2⟩
      array_get_dec
      refine (draw_wp TV2 (m := 6) (by omega) (by omega) (by omega)).imp ?_
      rintro _ V3 ⟨x, rfl, x0, x1, TV3, kV3⟩
      array_get_dec
      refine (draw_wp TV3 (m := 4) (by omega) (by omega) (by omega)).imp ?_
      rintro _ V4 ⟨y, rfl, y0, y1, TV4, kV4⟩
      array_get_dec
      have K : Kx 0 U V4 := kV.trans (kV2.trans (kV3.trans kV4))
      have hU4 := K _ _ (by omega) hU
      refine vApp rfl hU4 ?_ (small (by rw [List.length_map]; omega))
      intro V5 l_V5 g_V5 k_V5
      have l4 : U.length ≤ V4.length := K.len (by omega)
      refine ⟨_, hs ++ [⟨es[i], k, x, y⟩], rfl, by rw [g_V5, List.map_append]; rfl, by rw [List.map_append, tk]; exact sb.append (.refl _), fun h hh => ?_, (TV4.kx k_V5 h3).mono (by omega), kU.trans ((K2.kx K).trans (K2.ky k_V5)), by omega, lt⟩
      rcases List.mem_append.mp hh with hh | hh
      · exact ok h hh
      · rw [List.mem_singleton.mp hh]
        exact ⟨kok, x0, by show x ≤ 9; omega, y0, by show y ≤ 4; omega, ein _ (List.getElem_mem lt)⟩
    · array_get_dec
      have l4 : U.length ≤ V.length := kV.len (by omega)
      exact ⟨_, hs, rfl, kV _ _ (by omega) hU, by rw [tk]; exact sb.trans (List.sublist_append_left _ _), ok, TV.mono (by omega), kU.trans (K2.kx kV), by omega, lt⟩
  · rintro ρ U ⟨w7, hs, rfl, hU, sb, ok, TU, kU, lU, li⟩
    rw [List.length_map] at sb TU
    rw [List.take_length] at sb
    exact ⟨w7, hs, rfl, hU, sb, ok, TU.mono (by omega), kU, lU⟩
theorem state_wp (hn : NOk n) (T : Tf S B) (hB : B + 1000 < 2 ^ 40) : Wp (stateL_ [.ref 0, netV n] S) fun v U => ∃ s, v = stV s ∧ SOk n s ∧ Tf U (B + 700) ∧ Kx 0 S U := by
  have sl : 3 ≤ S.length := by
    obtain ⟨_, _, _, _, h, _⟩ := T.ex
    have := lt_of_at h
    omega
  have h8 := hn.len
  refine AL.wf ?_; simp only [List.map_cons, List.map_nil, List.length_cons, List.length_nil, Nat.reduceAdd, Nat.reduceSub, List.replicate_succ, List.replicate_zero, List.cons_append, List.nil_append]; unfold stateL_B; array_get_dec
  intro S1 rf e_rf l_S1 g_rf k_S1
  array_get_dec
  refine .inl ⟨_, rfl, ?_⟩
  refine ws_loop (fun i ρ U => ∃ (w3 w4 w5 w6 w7 : Option Val) (s : List Rw), ρ = [some (.ref 0), some (netV n), some (.ref rf), w3, w4, w5, w6, w7] ∧ U[rf]? = some (.lst (s.map rwV)) ∧ s.map Rw.name = n.names.take i ∧ (∀ r ∈ s, RwOk n.names r) ∧ Tf U (B + 80 * (i : Nat)) ∧ K2 0 rf S1 U ∧ S1.length ≤ U.length ∧ i ≤ n.ms.length) ⟨_, _, _, _, _, [], rfl, g_rf, rfl, by simp, (T.fr k_S1).mono (by omega), .refl _, Nat.le_refl _, Nat.zero_le _⟩ (fun _ _ _ _ _ => trivial) ?_ ?_
  · rintro i v ρ U hv ⟨w3, w4, w5, w6, w7, s, rfl, hU, nm, ok, TU, kU, lU, li⟩
    have lt : i < n.ms.length := by
      have := (List.getElem?_eq_some_iff.mp hv).1
      rwa [List.length_map] at this
    have ev : v = mbV n.ms[i] := by
      rw [List.getElem?_map, List.getElem?_eq_getElem lt] at hv
      exact (Option.some.inj hv).symm
    subst ev
    have ln : i < n.names.length := by
      unfold Net.names
      rw [List.length_map]
      exact lt
    have en : n.names[i] = n.ms[i].name := by simp [Net.names]
    have tk : n.names.take (i + 1) = n.names.take i ++ [n.ms[i].name] := by rw [← en]; exact List.take_succ_eq_append_getElem ln
    have s8 : s.length ≤ 8 := by
      have := congrArg List.length nm
      rw [List.length_map, List.length_take] at this
      unfold Net.names at this
      rw [List.length_map] at this
      omega
    have put : ∀ (bo : Option Bs) (hs : List Hd) (u6 u7 : Option Val) (rh : Nat) (W : Sto), (∀ b, bo = some b → BsOk n.names b) → (∀ h ∈ hs, HdOk n.names h) → (hs.map Hd.who).Nodup → W[rh]? = some (.lst (hs.map hdV)) → rf ≠ rh → W[rf]? = some (.lst (s.map rwV)) → Tf W (B + 80 * (i : Nat) + 78) → K2 0 rf S1 W → S1.length ≤ W.length →
        Ws (sExpr (eMt isL gApp (eV 2) (aCons (eTup (aCons (eB gIxA (eV 3) (eC (.int 0))) (aCons (eV 4) (aCons (eCall gTuple (aCons (eV 5) aNil)) aNil)))) aNil)) [some (.ref 0), some (netV n), some (.ref rf), some (mbV n.ms[i]), some (boV bo), some (.ref rh), u6, u7] W) (fun ρ U => ∃ (w3 w4 w5 w6 w7 : Option Val) (s : List Rw), ρ = [some (.ref 0), some (netV n), some (.ref rf), w3, w4, w5, w6, w7] ∧ U[rf]? = some (.lst (s.map rwV)) ∧ s.map Rw.name = n.names.take (i + 1) ∧ (∀ r ∈ s, RwOk n.names r) ∧ Tf U (B + 80 * ((i + 1 : Nat) : Int)) ∧ K2 0 rf S1 U ∧ S1.length ≤ U.length ∧ i + 1 ≤ n.ms.length) (fun v U => ∃ s, v = stV s ∧ SOk n s ∧ Tf U (B + 700) ∧ Kx 0 S U) := by
      intro bo hs u6 u7 rh W hb hh nd gh ne gf TW kW lW
      array_get_dec
      refine vApp rfl gf ?_ (small (by rw [List.length_map]; omega))
      intro W2 l_W2 g_W2 k_W2
      refine ⟨_, _, _, _, _, s ++ [⟨n.ms[i].name, bo, hs⟩], rfl, by rw [g_W2, List.map_append]; rfl, by rw [List.map_append, nm, tk]; rfl, fun r hr => ?_, (TW.kx k_W2 (by omega)).mono (by omega), kW.trans (K2.ky k_W2), by omega, lt⟩
      rcases List.mem_append.mp hr with hr | hr
      · exact ok r hr
      · rw [List.mem_singleton.mp hr]
        exact ⟨hb, hh, nd⟩
    have f0 : rf ≠ 0 := by omega
    refine bn rfl ?_
    array_get_dec
    intro U1 rh e_rh l_U1 g_rh k_U1
    array_get_dec
    have hU1 : U1[rf]? = some (.lst (s.map rwV)) := k_U1 _ _ hU
    have nfh : rf ≠ rh := by
      have := lt_of_at hU
      omega
    refine (draw_wp (TU.fr k_U1) (m := 6) (by omega) (by omega) (by omega)).imp ?_
    rintro _ V ⟨d, rfl, d0, d1, TV, kV⟩
    have lV : S1.length ≤ V.length := by
      have := kV.len (by omega)
      omega
    have rh0 : rh ≠ 0 := by omega
    array_get_dec
    refine Br.of (fun c => ?_) (fun c => ?_)
    · array_get_dec
      have := hn.pos
      rw [List.length_map]
      refine (draw_wp TV (m := (n.ms.length : Nat)) (by omega) (by omega) (by omega)).imp ?_
      rintro _ V2 ⟨j, rfl, j0, j1, TV2, kV2⟩
      obtain ⟨j, rfl⟩ := Int.eq_ofNat_of_zero_le j0
      have lj : j < n.ms.length := by omega
      array_get_dec
      refine vIxT rfl rfl (atI_nat (j := j) (by rw [List.getElem?_map, List.getElem?_eq_getElem lj]; rfl)) ?_
      array_get_dec
      refine (any_key_wp hn TV2 (by omega)).imp ?_
      rintro _ V3 ⟨k, rfl, kok, TV3, kV3⟩
      array_get_dec
      refine (draw_wp TV3 (m := 7) (by omega) (by omega) (by omega)).imp ?_
      rintro _ V4 ⟨x, rfl, x0, x1, TV4, kV4⟩
      have K4 : Kx 0 U1 V4 := kV.trans (kV2.trans (kV3.trans kV4))
      array_get_dec
      refine (endsL_wp hn.w.len).imp ?_
      rintro _ V5 ⟨re, rfl, he, k5, lre⟩
      have l4 : U1.length ≤ V4.length := K4.len (by omega)
      have e8 : (ends n.ws n.ms[i].name).length ≤ 8 := by
        unfold ends
        rw [(sortS_perm _).length_eq]
        exact hn.w.ends_len (by unfold Net.names; rw [List.length_map]; exact h8) _
      refine .inr ⟨re, _, rfl, he, ?_⟩
      refine ws_cut' (heard_wp (ws := []) hn (TV4.fr k5) (by omega) (by omega) (by have := lt_of_at g_rh; omega) he (k5 _ _ (K4 _ _ rh0 g_rh)) (fun y hy => hn.w.ends_in ((sortS_perm _).mem_iff.mp hy)) e8) ?_ (fun _ _ h => h.elim)
      rintro _ W ⟨u7, hs, rfl, gh, sb, hok, TW, kW, lW⟩
      have K5 : Kx 0 U1 V5 := K4.trans (k5.kx 0)
      have l5 : V4.length ≤ V5.length := k5.len
      refine put (some ⟨k, x, n.ms[j].name⟩) hs _ u7 rh W (fun b hb => ?_) hok ?_ gh nfh (kW _ _ f0 nfh (K5 _ _ f0 hU1)) (TW.mono (by omega)) ?_ (by omega)
      · cases hb
        exact ⟨kok, x0, by show x ≤ 9; omega, List.mem_map_of_mem (List.getElem_mem lj)⟩
      · refine sb.nodup ?_
        exact (sortS_perm _).nodup_iff.mpr (hn.w.ends_nd _)
      · intro q o q0 qf hq
        have lq := lt_of_at hq
        exact kW _ _ q0 (by omega) (K5 _ _ q0 (k_U1 _ _ (kU _ _ q0 qf hq)))
    · refine ws_nil ?_
      refine put none [] _ _ rh V (fun b hb => by cases hb) (by simp) (by simp) (kV _ _ rh0 g_rh) nfh (kV _ _ f0 hU1) (TV.mono (by omega)) ?_ lV
      intro q o q0 qf hq
      exact kV _ _ q0 (k_U1 _ _ (kU _ _ q0 qf hq))
  · rintro ρ U ⟨w3, w4, w5, w6, w7, s, rfl, hU, nm, ok, TU, kU, lU, li⟩
    array_get_dec
    have e : n.names.take n.ms.length = n.names := List.take_of_length_le (by unfold Net.names; rw [List.length_map]; exact Nat.le_refl _)
    rw [List.length_map] at nm TU
    refine ⟨s, rfl, ⟨nm.trans e, ok⟩, TU.mono (by omega), fun q o q0 hq => ?_⟩
    have := lt_of_at hq
    exact kU _ _ q0 (by omega) (k_S1 _ _ hq)
end
end K57
namespace K57
open PySem PySem.Spec PyProof.Rows L2 G Th AL KL Fr Od
open K37 (fmod_lt p60 p40 p62 TxOk Sh ShL)
open K08 (ws_cut)
def bestOf (s : List Rw) (x : Str) : Option Bs := (s.find? fun r => decide (r.name = x)).bind (·.best)
theorem bestOf_snoc {s : List Rw} {r : Rw} (h : r.name ∉ s.map Rw.name) (x : Str) : bestOf (s ++ [r]) x = if x = r.name then r.best else bestOf s x := by
  unfold bestOf
  rw [List.find?_append]
  by_cases e : x = r.name
  · have n : s.find? (fun r => decide (r.name = x)) = none := by
      rw [List.find?_eq_none]
      intro q hq hd
      exact h (List.mem_map.mpr ⟨q, hq, (of_decide_eq_true hd).trans e⟩)
    rw [n, if_pos e, Option.none_or]
    simp [e]
  · rw [if_neg e]
    have : [r].find? (fun r => decide (r.name = x)) = none := by rw [List.find?_cons, decide_eq_false (fun z : r.name = x => e z.symm)]; rfl
    rw [this, Option.or_none]
theorem bestOf_ok {n : Net} {s : List Rw} (so : SOk n s) {x : Str} {b : Bs} (h : bestOf s x = some b) : BsOk n.names b := by
  unfold bestOf at h
  obtain ⟨r, h1, h2⟩ := Option.bind_eq_some_iff.mp h
  exact (so.row r (List.mem_of_find?_eq_some h1)).best b h2
def frs (s : List Rw) (es : List Str) : List Hd := es.filterMap fun e => (bestOf s e).map fun b => ⟨e, b.key, b.st, 0⟩
def kps (fr hs : List Hd) (age : Int) : List Hd := (hs.filter fun h => !decide (h.who ∈ fr.map Hd.who) && decide (h.old < age)).map fun h => ⟨h.who, h.key, h.st, h.old + 1⟩
def sortH (l : List Hd) : List Hd := l.mergeSort fun a b => leS a.who b.who
theorem sortH_perm (l : List Hd) : (sortH l).Perm l := List.mergeSort_perm _ _
theorem sortH_pw (l : List Hd) : (sortH l).Pairwise fun a b => leS a.who b.who = true := List.pairwise_mergeSort (le := fun a b : Hd => leS a.who b.who) (fun a b c => leS_trans _ _ _) (fun a b => leS_total _ _) l
theorem frs_who (s : List Rw) : ∀ es : List Str, ((frs s es).map Hd.who).Sublist es
  | [] => by simp [frs]
  | e :: es => by
    have ih := frs_who s es
    unfold frs at ih ⊢
    rw [List.filterMap_cons]
    cases bestOf s e with
    | none => exact ih.trans (List.sublist_cons_self _ _)
    | some b => exact ih.cons_cons e
theorem mem_frs {s : List Rw} {es : List Str} {h : Hd} : h ∈ frs s es ↔ ∃ b, h.who ∈ es ∧ bestOf s h.who = some b ∧ h = ⟨h.who, b.key, b.st, 0⟩ := by
  unfold frs
  rw [List.mem_filterMap]
  constructor
  · rintro ⟨e, he, h1⟩
    obtain ⟨b, hb, rfl⟩ := Option.map_eq_some_iff.mp h1
    exact ⟨b, he, hb, rfl⟩
  · rintro ⟨b, h1, h2, h3⟩
    exact ⟨h.who, h1, by rw [h2]; exact congrArg some h3.symm⟩
theorem mem_kps {fr hs : List Hd} {age : Int} {h : Hd} : h ∈ kps fr hs age ↔ ∃ g ∈ hs, g.who ∉ fr.map Hd.who ∧ g.old < age ∧ h = ⟨g.who, g.key, g.st, g.old + 1⟩ := by
  unfold kps
  simp only [List.mem_map, List.mem_filter, Bool.and_eq_true, Bool.not_eq_true', decide_eq_false_iff_not, decide_eq_true_eq]
  constructor
  · rintro ⟨g, ⟨h1, h2, h3⟩, rfl⟩
    exact ⟨g, h1, h2, h3, rfl⟩
  · rintro ⟨g, h1, h2, h3, rfl⟩
    exact ⟨g, ⟨h1, h2, h3⟩, rfl⟩
theorem kps_who (fr hs : List Hd) (age : Int) : ((kps fr hs age).map Hd.who).Sublist (hs.map Hd.who) := by
  unfold kps
  rw [List.map_map]
  exact (List.filter_sublist (l := hs)).map Hd.who
theorem both_nd {s : List Rw} {es : List Str} {hs : List Hd} {age : Int} (n1 : es.Nodup) (n2 : (hs.map Hd.who).Nodup) : ((frs s es ++ kps (frs s es) hs age).map Hd.who).Nodup := by
  rw [List.map_append, List.nodup_append]
  refine ⟨(frs_who s es).nodup n1, (kps_who _ _ _).nodup n2, fun a ha b hb e => ?_⟩
  obtain ⟨h, hh, rfl⟩ := List.mem_map.mp hb
  obtain ⟨g, _, h2, _, rfl⟩ := mem_kps.mp hh
  exact h2 (e ▸ ha)
/-- one of a kind, by who -/
theorem who_inj {l : List Hd} (nd : (l.map Hd.who).Nodup) : ∀ {a b : Hd}, a ∈ l → b ∈ l → a.who = b.who → a = b := by
  induction l with
  | nil => intro a b h; simp at h
  | cons x l ih =>
    rw [List.map_cons, List.nodup_cons] at nd
    intro a b ha hb e
    rcases List.mem_cons.mp ha with e1 | ha <;> rcases List.mem_cons.mp hb with e2 | hb
    · rw [e1, e2]
    · exact absurd (by rw [← e1, e]; exact List.mem_map_of_mem hb) nd.1
    · exact absurd (by rw [← e2, ← e]; exact List.mem_map_of_mem ha) nd.1
    · exact ih nd.2 ha hb e
theorem sortH_uniq {l m : List Hd} (nd : (m.map Hd.who).Nodup) (h : l.Pairwise fun a b => leS a.who b.who = true) (p : l.Perm m) : l = sortH m :=
  List.Perm.eq_of_pairwise (fun a b ha hb h1 h2 => who_inj nd (p.mem_iff.mp ha) ((sortH_perm m).mem_iff.mp hb) (leS_anti h1 h2)) h (sortH_pw m) (p.trans (sortH_perm m).symm)
theorem nd_perm {l m : List Hd} (h : ∀ x, x ∈ l ↔ x ∈ m) (n1 : (l.map Hd.who).Nodup) (n2 : (m.map Hd.who).Nodup) : l.Perm m := by
  have a : l.Nodup := (List.pairwise_map.mp n1).imp fun h e => h (by rw [e])
  have b : m.Nodup := (List.pairwise_map.mp n2).imp fun h e => h (by rw [e])
  exact (List.perm_ext_iff_of_nodup a b).mpr h
theorem lt_of_leS {a b : Str} (h : leS a b = true) (ne : a ≠ b) : tl a < tl b := by
  rw [leS_iff] at h
  rcases tl_tri ne with ⟨c, _⟩ | ⟨c, _⟩
  · exact c
  · exact absurd c h
theorem sortH_T {l : List Hd} (nd : (l.map Hd.who).Nodup) : sortT (l.map hdV) = (sortH l).map hdV := by
  refine (sortT_uniq (List.pairwise_map.mpr ?_) ((sortH_perm l).map hdV) fun v hv => ?_).symm
  · have nd2 : ((sortH l).map Hd.who).Nodup := ((sortH_perm l).map Hd.who).nodup_iff.mpr nd
    refine ((sortH_pw l).and (List.pairwise_map.mp nd2)).imp fun {a b} h => ?_
    have c := lt_of_leS h.1 h.2
    have ne : Tr.s (tl b.who) ≠ Tr.s (tl a.who) := fun e => h.2 (tl_inj (Tr.s.inj e)).symm
    show lts (Tr.s (tl b.who) :: _) (Tr.s (tl a.who) :: _) = false
    rw [lts_other ne, lt]
    exact decide_eq_false (tl_asym c)
  · obtain ⟨h, _, rfl⟩ := List.mem_map.mp hv
    rfl
theorem hd_okV {h : Hd} (h1 : NmOk h.who) (h2 : NmOk h.key.nm) : okV (hdV h) = true ∧ hd1 (dV (hdV h)) = true := by
  refine ⟨?_, rfl⟩
  simp only [okV, hdV, keyV, pureV, pureVs, dV, dVs, PyData.canLay0, PyData.canLayAll0, h1.1, h2.1, PyData.depth, PyData.depthAll, Bool.and_true, Bool.true_and]
  decide
theorem hd_sort {l : List Hd} (h : ∀ x ∈ l, NmOk x.who ∧ NmOk x.key.nm) (hl : l.length < 1000000) : okSort (l.map hdV) = true := by
  refine ok_sort (fun v hv => ?_) (fun a ha b hb => ?_) (by rw [List.length_map]; exact hl)
  · obtain ⟨x, hx, rfl⟩ := List.mem_map.mp hv
    exact hd_okV (h x hx).1 (h x hx).2
  · obtain ⟨x, _, rfl⟩ := List.mem_map.mp ha
    obtain ⟨y, _, rfl⟩ := List.mem_map.mp hb
    rfl
theorem bs_okV {b : Bs} (h1 : NmOk b.key.nm) (h2 : NmOk b.who) : okV (bsV b) = true := by
  simp only [okV, bsV, keyV, pureV, pureVs, dV, dVs, PyData.canLay0, PyData.canLayAll0, h1.1, h2.1, PyData.depth, PyData.depthAll, Bool.and_true, Bool.true_and]
  decide
theorem bs_sm (a b : Bs) : smV (bsV a) (bsV b) = true := rfl
def offers (most : Int) (l : List Hd) : List Bs := (l.filter fun h => decide (h.st < most)).map fun h => ⟨h.key, h.st + 1, h.who⟩
def bet (b o : Bs) : Bs := if ltV (bsV o) (bsV b) = true then o else b
def minB (b : Bs) (l : List Bs) : Bs := l.foldl bet b
theorem minT_B : ∀ (l : List Bs) (b : Bs), minT (bsV b) (l.map bsV) = bsV (minB b l)
  | [], b => rfl
  | o :: l, b => by
    rw [List.map_cons, minT]
    have e : (if ltV (bsV o) (bsV b) = true then bsV o else bsV b) = bsV (bet b o) := by
      unfold bet
      split <;> rfl
    rw [e, minT_B l]
    rfl
theorem minB_mem : ∀ (l : List Bs) (b : Bs), minB b l = b ∨ minB b l ∈ l
  | [], b => .inl rfl
  | o :: l, b => by
    have e : minB b (o :: l) = minB (bet b o) l := rfl
    rw [e]
    rcases minB_mem l (bet b o) with h | h
    · rw [h]
      unfold bet
      split
      · exact .inr List.mem_cons_self
      · exact .inl rfl
    · exact .inr (List.mem_cons_of_mem _ h)
theorem minB_snoc (b : Bs) (l : List Bs) (o : Bs) : minB b (l ++ [o]) = bet (minB b l) o := by
  unfold minB
  rw [List.foldl_append]
  rfl
def own (m : Mb) : Bs := ⟨mkey m, 0, m.name⟩
def heardN (s : List Rw) (ws : List (Str × Str)) (age : Int) (r : Rw) : List Hd := sortH (frs s (oes ws r.name) ++ kps (frs s (oes ws r.name)) r.hs age)
def rowN (s : List Rw) (ws : List (Str × Str)) (most age : Int) (m : Mb) (r : Rw) : Rw := match r.best with
  | none => r
  | some _ => ⟨r.name, some (minB (own m) (offers most (heardN s ws age r))), heardN s ws age r⟩
def rnd (n : Net) (s : List Rw) (ws : List (Str × Str)) (most age : Int) : List Rw := List.zipWith (rowN s ws most age) n.ms s
section
variable {n : Net} {s : List Rw} {ws : List (Str × Str)} {most age : Int}
theorem SOk.len (so : SOk n s) : s.length = n.ms.length := by
  have := congrArg List.length so.nm
  unfold Net.names at this
  rwa [List.length_map, List.length_map] at this
theorem SOk.nd (hn : NOk n) (so : SOk n s) : (s.map Rw.name).Nodup := so.nm ▸ hn.nd
theorem oes_in (w : WOk n.names ws) {x y : Str} (h : y ∈ oes ws x) : y ∈ n.names := w.ends_in ((oes_perm fun u hu => (w.mem u hu).2.2).mem_iff.mp h)
theorem oes_nd (w : WOk n.names ws) (x : Str) : (oes ws x).Nodup := (oes_perm fun u hu => (w.mem u hu).2.2).nodup_iff.mpr (w.ends_nd x)
theorem hd_fr (so : SOk n s) {es : List Str} (he : ∀ x ∈ es, x ∈ n.names) {h : Hd} (hh : h ∈ frs s es) : HdOk n.names h := by
  obtain ⟨b, h1, h2, h3⟩ := mem_frs.mp hh
  have ok := bestOf_ok so h2
  rw [h3]
  exact ⟨ok.key, ok.s0, ok.s1, by show (0 : Int) ≤ 0; omega, by show (0 : Int) ≤ 4; omega, he _ h1⟩
theorem hd_kp {r : Rw} {fr : List Hd} (ro : RwOk n.names r) (a4 : age ≤ 4) {h : Hd} (hh : h ∈ kps fr r.hs age) : HdOk n.names h := by
  obtain ⟨g, h1, _, h3, rfl⟩ := mem_kps.mp hh
  have ok := ro.hs g h1
  exact ⟨ok.key, ok.s0, ok.s1, by have := ok.o0; show (0 : Int) ≤ g.old + 1; omega, by show g.old + 1 ≤ 4; omega, ok.who⟩
theorem row_ok (hn : NOk n) (so : SOk n s) (w : WOk n.names ws) (a4 : age ≤ 4) (m9 : most ≤ 9) {m : Mb} {r : Rw} (hm : m ∈ n.ms) (hr : r ∈ s) : RwOk n.names (rowN s ws most age m r) ∧ (rowN s ws most age m r).name = r.name := by
  have ro := so.row r hr
  unfold rowN
  cases hb : r.best with
  | none => exact ⟨ro, rfl⟩
  | some b =>
    have nd := both_nd (s := s) (age := age) (oes_nd w r.name) ro.nd
    have all : ∀ h ∈ heardN s ws age r, HdOk n.names h := fun h hh => by
      rcases List.mem_append.mp ((sortH_perm _).mem_iff.mp hh) with hh | hh
      · exact hd_fr so (fun x hx => oes_in w hx) hh
      · exact hd_kp ro a4 hh
    refine ⟨⟨fun b' hb' => ?_, all, ((sortH_perm _).map Hd.who).nodup_iff.mpr nd⟩, rfl⟩
    cases hb'
    rcases minB_mem (offers most (heardN s ws age r)) (own m) with e | h
    · rw [e]
      exact ⟨mkey_ok hn hm, by show (0 : Int) ≤ 0; omega, by show (0 : Int) ≤ 9; omega, List.mem_map_of_mem hm⟩
    · obtain ⟨g, hg, e⟩ := List.mem_map.mp h
      obtain ⟨h1, h2⟩ := List.mem_filter.mp hg
      have h2 := of_decide_eq_true h2
      have ok := all g h1
      rw [← e]
      exact ⟨ok.key, by have := ok.s0; show (0 : Int) ≤ g.st + 1; omega, by show g.st + 1 ≤ 9; omega, ok.who⟩
theorem zip_names {f : Mb → Rw → Rw} : ∀ {ms : List Mb} {s : List Rw}, ms.length = s.length → (∀ m ∈ ms, ∀ r ∈ s, (f m r).name = r.name) → (List.zipWith f ms s).map Rw.name = s.map Rw.name
  | [], [], _, _ => rfl
  | m :: ms, r :: s, h, g => by
    rw [List.zipWith_cons_cons, List.map_cons, List.map_cons, g m List.mem_cons_self r List.mem_cons_self, zip_names (by simpa using h) fun m hm r hr => g m (List.mem_cons_of_mem _ hm) r (List.mem_cons_of_mem _ hr)]
theorem rnd_ok (hn : NOk n) (so : SOk n s) (w : WOk n.names ws) (a4 : age ≤ 4) (m9 : most ≤ 9) : SOk n (rnd n s ws most age) := by
  refine ⟨?_, fun q hq => ?_⟩
  · rw [← so.nm]
    exact zip_names so.len.symm fun m hm r hr => (row_ok hn so w a4 m9 hm hr).2
  · unfold rnd at hq
    obtain ⟨i, hi⟩ := List.getElem?_of_mem hq
    rw [List.getElem?_zipWith] at hi
    cases e1 : n.ms[i]? with
    | none => rw [e1] at hi; cases hi
    | some m =>
      cases e2 : s[i]? with
      | none => rw [e1, e2] at hi; cases hi
      | some r =>
        rw [e1, e2] at hi
        cases hi
        exact (row_ok hn so w a4 m9 (List.mem_of_getElem? e1) (List.mem_of_getElem? e2)).1
end
end K57
namespace K57
open PySem PySem.Spec PyProof.Rows L2 G Th AL KL Fr Od
open K37 (fmod_lt p60 p40 p62 TxOk Sh ShL valA_put putA_len merge_app)
open K08 (ws_cut)
section
variable {S : Sto} {Q : Val → Sto → Prop} {x : Str}
theorem in_strs (x : Str) : ∀ ss : List Str, inA (.str x) (ss.map .str) = decide (x ∈ ss)
  | [] => rfl
  | a :: ss => by
    have ih := in_strs x ss
    unfold inA at ih ⊢
    rw [List.map_cons, List.any_cons, ih]
    show (a == x || decide (x ∈ ss)) = _
    by_cases e : a = x
    · simp [e]
    · have e2 : ¬ x = a := fun z => e z.symm
      simp [e, e2]
theorem flat_strs : ∀ ss : List Str, (ss.map Val.str).all flatA = true
  | [] => rfl
  | a :: ss => by rw [List.map_cons, List.all_cons, flat_strs ss]; rfl
theorem vInP {a b : Str} (q : Q (.bl (decide (x = a) || decide (x = b))) S) : Wp (gIn false (.str x) (.tup [.str a, .str b]) S) Q := by
  have this : decide (x ∈ [a, b]) = (decide (x = a) || decide (x = b)) := by simp
  have e : inA (.str x) [.str a, .str b] = (decide (x = a) || decide (x = b)) := (in_strs x [a, b]).trans this
  refine ⟨_, S, ?_, q⟩
  rw [← e]
  simp only [gIn, gInS, flatA, List.all_cons, List.all_nil, Bool.and_true, Bool.and_self, if_true, Bool.false_eq_true, if_false]
theorem vInL {n : Nat} {neg : Bool} {ss : List Str} (h : S[n]? = some (.lst (ss.map .str))) (q : Q (.bl (if neg then !decide (x ∈ ss) else decide (x ∈ ss))) S) : Wp (gIn neg (.str x) (.ref n) S) Q := by
  refine ⟨_, S, ?_, q⟩
  simp only [gIn, gInS, h, flat_strs, in_strs, flatA, Bool.true_and, if_true]
theorem vMinGT {n : Nat} {xs : List Val} {l : List Val} (h : S[n]? = some (.lst (.tup xs :: l))) (ok : okMin (.tup xs :: l) = true) (q : Q (minT (.tup xs) l) S) : Wp (gMinG [.ref n] S) Q := by
  have e : gMinB [.ref n] S = none := by
    show gMinA [.ref n] S = none
    simp only [gMinA, h, intsOf]
  refine ⟨_, S, ?_, q⟩
  unfold gMinG
  rw [e]
  simp only [gMinT, h, if_pos ok, Option.none_or]
theorem vInD {n : Nat} {neg : Bool} {kvs : List (Key × Val)} (h : S[n]? = some (.dic kvs)) (q : Q (.bl (if neg then !(valA kvs (.inr x)).isSome else (valA kvs (.inr x)).isSome)) S) : Wp (gIn neg (.str x) (.ref n) S) Q := vIn rfl h rfl q
def isW (x : Str) : Val → Bool
  | .tup [.str a, .str b] => decide (x = a) || decide (x = b)
  | _ => false
def gW (x : Str) : Val → Val
  | .tup [.str a, .str b] => if a = x then .str b else .str a
  | _ => .non
theorem other_wp {ws : List (Str × Str)} (hl : ws.length ≤ 12) : Wp (other_ends_ [.tup (ws.map wireV), .str x] S) fun v U => ∃ r, v = .ref r ∧ U[r]? = some (.lst ((oes ws x).map .str)) ∧ Kn S U ∧ S.length ≤ r := by
  have e : ((ws.map wireV).filter (isW x)).map (gW x) = (oes ws x).map Val.str := by
    unfold oes
    rw [List.filter_map, List.map_map, List.map_map]
    refine List.map_congr_left fun w _ => ?_
    show (if w.1 = x then Val.str w.2 else Val.str w.1) = Val.str (if w.1 = x then w.2 else w.1)
    split <;> rfl
  refine AL.wf ?_; simp only [List.map_cons, List.map_nil, List.length_cons, List.length_nil, Nat.reduceAdd, Nat.reduceSub, List.replicate_succ, List.replicate_zero, List.cons_append, List.nil_append]; unfold other_ends_B; array_get_dec
  refine .inl ⟨_, rfl, ?_⟩
  refine lc_pure (isW x) (gW x) trivial (by rw [List.length_map]; omega) (fun v hv => ?_) ?_
  · obtain ⟨w, _, rfl⟩ := List.mem_map.mp hv
    refine bn rfl ?_
    array_get_dec
    refine vInP ?_
    array_get_dec
    refine ⟨rfl, rfl, fun _ => ?_⟩
    array_get_dec
    refine Br.of (fun c => ?_) (fun c => ?_)
    · have c : w.1 = x := of_decide_eq_true c
      array_get_dec
      exact ⟨(if_pos c).symm, rfl⟩
    · have c : ¬ w.1 = x := of_decide_eq_false c
      array_get_dec
      exact ⟨(if_neg c).symm, rfl⟩
  · rw [e]
    intro U r e_r l_U g_r k_U
    exact ⟨r, rfl, g_r, k_U, by omega⟩
theorem own_wp {m : Mb} : Wp (own_best_ [mbV m] S) fun v U => v = bsV (own m) ∧ S = U := by
  refine AL.wf ?_; simp only [List.map_cons, List.map_nil, List.length_cons, List.length_nil, Nat.reduceAdd, Nat.reduceSub, List.replicate_succ, List.replicate_zero, List.cons_append, List.nil_append]; unfold own_best_B; array_get_dec
  exact ⟨rfl, rfl⟩
def whoV : Val → Val
  | .tup (w :: _) => w
  | _ => .non
def isK (ss : List Str) (age : Int) : Val → Bool
  | .tup [.str w, _, _, .int o] => !decide (w ∈ ss) && decide (o < age)
  | _ => false
def upV : Val → Val
  | .tup [w, k, s, .int o] => .tup [w, k, s, .int (o + 1)]
  | _ => .non
def isM (most : Int) : Val → Bool
  | .tup [_, _, .int s, _] => decide (s < most)
  | _ => false
def offV : Val → Val
  | .tup [w, k, .int s, _] => .tup [k, .int (s + 1), w]
  | _ => .non
theorem row_wp {m : Mb} {fr hs : List Hd} {most age : Int} {f : Nat} (hf : S[f]? = some (.lst (fr.map hdV))) (l1 : fr.length ≤ 8) (l2 : hs.length ≤ 8) (nd : ((fr ++ kps fr hs age).map Hd.who).Nodup) (ok : ∀ h ∈ fr ++ kps fr hs age, NmOk h.who ∧ NmOk h.key.nm) (okm : NmOk m.name) :
    Wp (row_behind_ [mbV m, .ref f, .tup (hs.map hdV), .int most, .int age] S) fun v U => v = rwV ⟨m.name, some (minB (own m) (offers most (sortH (fr ++ kps fr hs age)))), sortH (fr ++ kps fr hs age)⟩ ∧ Kn S U := by
  have e1 : ((fr.map hdV).filter (fun _ => true)).map whoV = (fr.map Hd.who).map Val.str := by
    rw [List.filter_eq_self.mpr fun _ _ => rfl, List.map_map, List.map_map]
    rfl
  have e2 : ((hs.map hdV).filter (isK (fr.map Hd.who) age)).map upV = (kps fr hs age).map hdV := by
    unfold kps
    rw [List.filter_map, List.map_map, List.map_map]
    rfl
  have lk : (kps fr hs age).length ≤ 8 := by
    unfold kps
    rw [List.length_map]
    exact Nat.le_trans (List.length_filter_le _ _) l2
  generalize hkp : kps fr hs age = kp at nd ok e2 lk ⊢
  refine AL.wf ?_; simp only [List.map_cons, List.map_nil, List.length_cons, List.length_nil, Nat.reduceAdd, Nat.reduceSub, List.replicate_succ, List.replicate_zero, List.cons_append, List.nil_append]; unfold row_behind_B; array_get_dec
  refine .inr ⟨f, _, rfl, hf, ?_⟩
  refine lc_pure (fun _ => true) whoV hf (by rw [List.length_map]; omega) (fun v hv => ?_) ?_
  · obtain ⟨h, _, rfl⟩ := List.mem_map.mp hv
    refine bn rfl ?_
    array_get_dec
    exact ⟨rfl, rfl, fun _ => by array_get_dec; exact ⟨rfl, rfl⟩⟩
  rw [e1]
  intro U1 r1 e_r1 l_U1 g_r1 k_U1
  array_get_dec
  refine .inl ⟨_, rfl, ?_⟩
  refine lc_pure (isK (fr.map Hd.who) age) upV trivial (by rw [List.length_map]; omega) (fun v hv => ?_) ?_
  · obtain ⟨h, _, rfl⟩ := List.mem_map.mp hv
    refine bn rfl ?_
    array_get_dec
    refine vInL g_r1 ?_
    array_get_dec
    refine Br.of (fun c => ?_) (fun c => ?_)
    · array_get_dec
      refine ⟨?_, rfl, fun _ => by array_get_dec; exact ⟨rfl, rfl⟩⟩
      show _ = (!decide (h.who ∈ fr.map Hd.who) && decide (h.old < age))
      have c : (!decide (h.who ∈ fr.map Hd.who)) = true := c
      rw [c]
      rfl
    · refine ⟨?_, rfl, fun c2 => ?_⟩
      · show _ = (!decide (h.who ∈ fr.map Hd.who) && decide (h.old < age))
        have c : (!decide (h.who ∈ fr.map Hd.who)) = false := c
        rw [c]
        rfl
      · have c : (!decide (h.who ∈ fr.map Hd.who)) = false := c
        have c2 : (!decide (h.who ∈ fr.map Hd.who) && decide (h.old < age)) = true := c2
        rw [c] at c2
        cases c2
  rw [e2]
  intro U2 r2 e_r2 l_U2 g_r2 k_U2
  array_get_dec
  refine vCatL rfl rfl (k_U2 _ _ (k_U1 _ _ hf)) g_r2 (by simp only [List.length_map]; omega) ?_
  rw [← List.map_append]
  intro U3 r3 e_r3 l_U3 g_r3 k_U3
  array_get_dec
  refine vSortGT rfl g_r3 (fun v hv => ?_) (hd_sort ok (by rw [List.length_append]; omega)) ?_
  · obtain ⟨h, _, rfl⟩ := List.mem_map.mp hv
    exact ⟨_, rfl⟩
  rw [sortH_T nd]
  have lH : (sortH (fr ++ kp)).length ≤ 16 := by
    rw [(sortH_perm _).length_eq, List.length_append]
    omega
  have okH : ∀ h ∈ sortH (fr ++ kp), NmOk h.who ∧ NmOk h.key.nm := fun h hh => ok h ((sortH_perm _).mem_iff.mp hh)
  generalize sortH (fr ++ kp) = H at lH okH ⊢
  have e3 : ((H.map hdV).filter (isM most)).map offV = (offers most H).map bsV := by
    unfold offers
    rw [List.filter_map, List.map_map, List.map_map]
    rfl
  intro U4 r4 e_r4 l_U4 g_r4 k_U4
  array_get_dec
  refine .inl ⟨_, rfl, ?_⟩
  refine lc_pure (isM most) offV trivial (by rw [List.length_map]; omega) (fun v hv => ?_) ?_
  · obtain ⟨h, _, rfl⟩ := List.mem_map.mp hv
    refine bn rfl ?_
    array_get_dec
    exact ⟨rfl, rfl, fun _ => by array_get_dec; exact ⟨rfl, rfl⟩⟩
  rw [e3]
  intro U5 r5 e_r5 l_U5 g_r5 k_U5
  array_get_dec
  refine own_wp.imp ?_
  rintro _ _ ⟨rfl, rfl⟩
  array_get_dec
  intro U6 r6 e_r6 l_U6 g_r6 k_U6
  array_get_dec
  refine vCatL rfl rfl g_r6 (k_U6 _ _ g_r5) (by
    simp only [List.length_map, List.length_cons, List.length_nil]
    have : (offers most H).length ≤ H.length := by
      unfold offers
      rw [List.length_map]
      exact List.length_filter_le _ _
    omega) ?_
  intro U7 r7 e_r7 l_U7 g_r7 k_U7
  array_get_dec
  have okb : ∀ o ∈ own m :: offers most H, okV (bsV o) = true := fun o ho => by
    rcases List.mem_cons.mp ho with rfl | ho
    · exact bs_okV okm okm
    · unfold offers at ho
      obtain ⟨h, hh, rfl⟩ := List.mem_map.mp ho
      have := okH h (List.mem_filter.mp hh).1
      exact bs_okV this.2 this.1
  refine vMinGT g_r7 ?_ ?_
  · have : okMin ((own m :: offers most H).map bsV) = true := by
      unfold okMin
      simp only [Bool.and_eq_true, List.all_eq_true]
      refine ⟨fun v hv => ?_, fun a ha b hb => ?_⟩
      · obtain ⟨o, ho, rfl⟩ := List.mem_map.mp hv
        exact okb o ho
      · obtain ⟨o, ho, rfl⟩ := List.mem_map.mp ha
        obtain ⟨o2, ho2, rfl⟩ := List.mem_map.mp hb
        rfl
    exact this
  · have e4 := minT_B (offers most H) (own m)
    array_get_dec
    refine ⟨?_, k_U1.trans (k_U2.trans (k_U3.trans (k_U4.trans (k_U5.trans (k_U6.trans k_U7)))))⟩
    show Val.tup [.str m.name, minT (bsV (own m)) ((offers most H).map bsV), .tup (H.map hdV)] = _
    rw [e4]
    rfl
end
end K57
namespace K57
open PySem PySem.Spec PyProof.Rows L2 G Th AL KL Fr Od
open K37 (fmod_lt p60 p40 p62 TxOk Sh ShL valA_put putA_len merge_app)
open K08 (ws_cut)
section
variable {S : Sto} {n : Net} {s : List Rw} {ws : List (Str × Str)} {most age : Int}
theorem SOk.name (so : SOk n s) {i : Nat} (h1 : i < s.length) (h2 : i < n.ms.length) : s[i].name = n.ms[i].name := by
  have := so.nm
  have e : (s.map Rw.name)[i]? = (n.names)[i]? := by rw [this]
  unfold Net.names at e
  rw [List.getElem?_map, List.getElem?_map, List.getElem?_eq_getElem h1, List.getElem?_eq_getElem h2] at e
  exact Option.some.inj e
def upE (s : List Rw) : Val → Bool
  | .str e => (bestOf s e).isSome
  | _ => false
def frE (s : List Rw) : Val → Val
  | .str e => match bestOf s e with
    | some b => .tup [.str e, keyV b.key, .int b.st, .int 0]
    | none => .non
  | _ => .non
theorem frs_map (s : List Rw) : ∀ es : List Str, (((es.filter fun e => (bestOf s e).isSome).map Val.str)).map (frE s) = (frs s es).map hdV
  | [] => rfl
  | e :: es => by
    have ih := frs_map s es
    unfold frs at ih ⊢
    cases h : bestOf s e with
    | none => rw [List.filter_cons_of_neg (by rw [h]; decide), List.filterMap_cons, h]; exact ih
    | some b =>
      rw [List.filter_cons_of_pos (by rw [h]; rfl), List.filterMap_cons, h, List.map_cons, List.map_cons, ih]
      show _ = hdV _ :: _
      have : frE s (.str e) = hdV ⟨e, b.key, b.st, 0⟩ := by
        unfold frE
        simp only [h]
        rfl
      rw [this]
/-- of a member -/
theorem each_wp (hn : NOk n) (so : SOk n s) (w : WOk n.names ws) (a4 : age ≤ 4) (m9 : most ≤ 9) {d rr i : Nat} {rows : List Rw} {kvs : List (Key × Val)} {a10 a11 a12 a13 a14 a15 a2 : Option Val} (hd : S[d]? = some (.dic kvs)) (hv : ∀ x, valA kvs (.inr x) = (bestOf s x).map bsV)
    (hr : S[rr]? = some (.lst (rows.map rwV))) (lr : rows.length ≤ 8) (i1 : i < n.ms.length) (i2 : i < s.length) :
    Ws ((sSeq (sAsg (.nm 10) (eLc (.nm 15) (iSeq (eDef other_ends_ 2 (aCons (eV 5) (aCons (eB gIxA (eV 9) (eC (.int 0))) aNil)))) (eT (eB (gIn false) (eV 15) (eV 6))) (eV 15) [15]))
    (sSeq (sAsg (.nm 11) (eLc (.nm 15) (iSeq (eV 10)) bYes (eTup (aCons (eV 15) (aCons (eB gIxA (eB gIxA (eV 6) (eV 15)) (eC (.int 0))) (aCons (eB gIxA (eB gIxA (eV 6) (eV 15)) (eC (.int 1))) (aCons (eC (.int 0)) aNil))))) [15]))
    (sExpr (eMt isL gApp (eV 7) (aCons (eIf (eT (eB gIs (eB gIxA (eV 9) (eC (.int 1))) (eC .non))) (eV 9) (eDef row_behind_ 5 (aCons (eV 8) (aCons (eV 11) (aCons (eB gIxA (eV 9) (eC (.int 2))) (aCons (eV 3) (aCons (eV 4) aNil))))))) aNil)))))
      [some (netV n), some (stV s), a2, some (.int most), some (.int age), some (.tup (ws.map wireV)), some (.ref d), some (.ref rr), some (mbV n.ms[i]), some (rwV s[i]), a10, a11, a12, a13, a14, a15] S)
      (fun ρ U => ∃ a10 a11 a15, ρ = [some (netV n), some (stV s), a2, some (.int most), some (.int age), some (.tup (ws.map wireV)), some (.ref d), some (.ref rr), some (mbV n.ms[i]), some (rwV s[i]), a10, a11, a12, a13, a14, a15] ∧ U[rr]? = some (.lst ((rows ++ [rowN s ws most age n.ms[i] s[i]]).map rwV)) ∧ Kx rr S U) (fun _ _ => False) := by
  have h8 := hn.len
  have ro := so.row s[i] (List.getElem_mem i2)
  have en := so.name i2 i1
  have lo : (oes ws s[i].name).length ≤ 8 := by
    rw [(oes_perm fun u hu => (w.mem u hu).2.2).length_eq]
    exact w.ends_len (by unfold Net.names; rw [List.length_map]; exact h8) _
  array_get_dec
  refine (other_wp w.len).imp ?_
  rintro _ S1 ⟨r, rfl, g1, k1, l1⟩
  refine .inr ⟨r, _, rfl, g1, ?_⟩
  refine lc_pure (upE s) id g1 (by rw [List.length_map]; omega) (fun v hv2 => ?_) ?_
  · obtain ⟨e, _, rfl⟩ := List.mem_map.mp hv2
    refine bn rfl ?_
    array_get_dec
    refine vInD (k1 _ _ hd) ?_
    array_get_dec
    refine ⟨?_, rfl, fun _ => by array_get_dec; exact ⟨rfl, rfl⟩⟩
    rw [hv]
    show (Option.map bsV _).isSome = (bestOf s e).isSome
    rw [Option.isSome_map]
  have e1 : (((oes ws s[i].name).map Val.str).filter (upE s)).map id = ((oes ws s[i].name).filter fun e => (bestOf s e).isSome).map Val.str := by
    rw [List.map_id, List.filter_map]
    rfl
  rw [e1]
  have lf : ((oes ws s[i].name).filter fun e => (bestOf s e).isSome).length ≤ 8 := Nat.le_trans (List.length_filter_le _ _) lo
  intro S2 r2 e_r2 l_S2 g_r2 k_S2
  array_get_dec
  refine .inr ⟨r2, _, rfl, g_r2, ?_⟩
  refine lc_pure (fun _ => true) (frE s) g_r2 (by rw [List.length_map]; omega) (fun v hv2 => ?_) ?_
  · obtain ⟨e, he, rfl⟩ := List.mem_map.mp hv2
    obtain ⟨b, hb⟩ := Option.isSome_iff_exists.mp (List.mem_filter.mp he).2
    have hb2 : valA kvs (.inr e) = some (bsV b) := by rw [hv, hb]; rfl
    have hd2 : S2[d]? = some (.dic kvs) := k_S2 _ _ (k1 _ _ hd)
    refine bn rfl ?_
    array_get_dec
    refine ⟨rfl, rfl, fun _ => ?_⟩
    array_get_dec
    refine vIxD rfl hd2 rfl hb2 ?_
    array_get_dec
    refine vIxD rfl hd2 rfl hb2 ?_
    array_get_dec
    refine ⟨?_, rfl⟩
    unfold frE
    simp only [hb]
  rw [List.filter_eq_self.mpr fun _ _ => rfl, frs_map]
  have lfr : (frs s (oes ws s[i].name)).length ≤ 8 := by
    have := (frs_who s (oes ws s[i].name)).length_le
    rw [List.length_map] at this
    omega
  intro S3 r3 e_r3 l_S3 g_r3 k_S3
  have K3 : Kn S S3 := k1.trans (k_S2.trans k_S3)
  have hr3 := K3 _ _ hr
  have put : ∀ (U : Sto), Kn S3 U → Wp (gApp (.ref rr) [rwV (rowN s ws most age n.ms[i] s[i])] U) fun _ V => ∃ b10 b11 b15, [some (netV n), some (stV s), a2, some (.int most), some (.int age), some (.tup (ws.map wireV)), some (.ref d), some (.ref rr), some (mbV n.ms[i]), some (rwV s[i]), some (.ref r2), some (.ref r3), a12, a13, a14, a15] = [some (netV n), some (stV s), a2, some (.int most), some (.int age), some (.tup (ws.map wireV)), some (.ref d), some (.ref rr), some (mbV n.ms[i]), some (rwV s[i]), b10, b11, a12, a13, a14, b15] ∧ V[rr]? = some (.lst ((rows ++ [rowN s ws most age n.ms[i] s[i]]).map rwV)) ∧ Kx rr S V := fun U kU => by
    refine vApp rfl (kU _ _ hr3) ?_ (small (by rw [List.length_map]; omega))
    intro V l_V g_V k_V
    exact ⟨_, _, _, rfl, by rw [g_V, List.map_append]; rfl, ((K3.trans kU).kx _).trans k_V⟩
  array_get_dec
  cases hb : s[i].best with
  | none =>
    have e : rowN s ws most age n.ms[i] s[i] = s[i] := by
      unfold rowN
      rw [hb]
    rw [e] at put
    refine brT rfl ?_
    array_get_dec
    simp only [e]
    exact put S3 (.refl _)
  | some b =>
    have e : rowN s ws most age n.ms[i] s[i] = ⟨n.ms[i].name, some (minB (own n.ms[i]) (offers most (heardN s ws age s[i]))), heardN s ws age s[i]⟩ := by
      unfold rowN
      rw [hb, ← en]
    rw [e] at put
    have nd := both_nd (s := s) (age := age) (oes_nd w s[i].name) ro.nd
    refine brF rfl ?_
    array_get_dec
    refine (row_wp g_r3 lfr (ro.len hn) nd (fun h hh => ?_) (hn.nm (List.mem_map_of_mem (List.getElem_mem i1)))).imp ?_
    · rcases List.mem_append.mp hh with hh | hh
      · have := hd_fr so (fun x hx => oes_in w hx) hh
        exact ⟨hn.nm this.who, this.key.nm⟩
      · have := hd_kp ro a4 hh
        exact ⟨hn.nm this.who, this.key.nm⟩
    rintro _ S4 ⟨rfl, k4⟩
    simp only [e]
    exact wa0 (put S4 k4)
theorem round_wp (hn : NOk n) (so : SOk n s) (w : WOk n.names ws) (a4 : age ≤ 4) (m9 : most ≤ 9) {wv : Val} (hw : wv = .tup (ws.map wireV) ∨ (wv = .non ∧ ws = n.ws)) :
    Wp (state_round_ [netV n, stV s, wv, .int most, .int age] S) fun v U => v = stV (rnd n s ws most age) ∧ Kn S U := by
  have h8 := hn.len
  have ls := so.len
  have nds := so.nd hn
  have lR : (rnd n s ws most age).length = n.ms.length := by
    unfold rnd
    rw [List.length_zipWith, ls, Nat.min_self]
  have rest : ∀ (S : Sto) (wv : Val), Ws ((sSeq (sAsg (.nm 6) (eDc (.tp [(.nm 12), (.nm 13), (.nm 14)]) (iSeq (eV 1)) (eT (eB gIsN (eV 13) (eC .non))) (eV 12) (eV 13) [12, 13, 14]))
    (sSeq (sAsg (.nm 7) (eLst aNil))
    (sSeq (sFor (.tp [(.nm 8), (.nm 9)]) (iZp (aCons (eB gIxA (eV 0) (eC (.int 0))) (aCons (eV 1) aNil))) (sSeq (sAsg (.nm 10) (eLc (.nm 15) (iSeq (eDef other_ends_ 2 (aCons (eV 5) (aCons (eB gIxA (eV 9) (eC (.int 0))) aNil)))) (eT (eB (gIn false) (eV 15) (eV 6))) (eV 15) [15]))
    (sSeq (sAsg (.nm 11) (eLc (.nm 15) (iSeq (eV 10)) bYes (eTup (aCons (eV 15) (aCons (eB gIxA (eB gIxA (eV 6) (eV 15)) (eC (.int 0))) (aCons (eB gIxA (eB gIxA (eV 6) (eV 15)) (eC (.int 1))) (aCons (eC (.int 0)) aNil))))) [15]))
    (sExpr (eMt isL gApp (eV 7) (aCons (eIf (eT (eB gIs (eB gIxA (eV 9) (eC (.int 1))) (eC .non))) (eV 9) (eDef row_behind_ 5 (aCons (eV 8) (aCons (eV 11) (aCons (eB gIxA (eV 9) (eC (.int 2))) (aCons (eV 3) (aCons (eV 4) aNil))))))) aNil))))))
    (sRet (eCall gTuple (aCons (eV 7) aNil))))))
      [some (netV n), some (stV s), some wv, some (.int most), some (.int age), some (.tup (ws.map wireV)), none, none, none, none, none, none, none, none, none, none] S) (fun _ U => False) (fun v U => v = stV (rnd n s ws most age) ∧ Kn S U) := by
    intro S wv
    array_get_dec
    refine wDc ?_
    array_get_dec
    refine .inl ⟨_, rfl, ?_⟩
    refine dc_inv (fun i a T => (∀ x, valA a (.inr x) = (bestOf (s.take i) x).map bsV) ∧ a.length ≤ i ∧ i ≤ s.length ∧ T = S) (fun _ _ _ _ _ => trivial) (fun i a T ⟨_, h, h2, _⟩ => by omega) ?_ ?_ ⟨fun x => rfl, Nat.le_refl _, Nat.zero_le _, rfl⟩
    · rintro i v a T hv ⟨h1, h2, h3, rfl⟩
      have lt : i < s.length := by
        have := (List.getElem?_eq_some_iff.mp hv).1
        rwa [List.length_map] at this
      have ev : v = rwV s[i] := by
        rw [List.getElem?_map, List.getElem?_eq_getElem lt] at hv
        exact (Option.some.inj hv).symm
      subst ev
      have tk : s.take (i + 1) = s.take i ++ [s[i]] := List.take_succ_eq_append_getElem lt
      have nin : s[i].name ∉ (s.take i).map Rw.name := by
        have nd2 : ((s.take (i + 1)).map Rw.name).Nodup := ((List.take_sublist _ _).map Rw.name).nodup nds
        rw [tk, List.map_append, List.nodup_append] at nd2
        exact fun m => nd2.2.2 _ m _ (by simp) rfl
      refine bn rfl ?_
      array_get_dec
      cases hb : s[i].best with
      | none =>
        refine brF rfl ⟨fun x => ?_, by omega, lt, rfl⟩
        rw [h1, tk, bestOf_snoc nin]
        by_cases e : x = s[i].name
        · rw [if_pos e, hb]
          have : bestOf (s.take i) x = none := by
            unfold bestOf
            rw [List.find?_eq_none.mpr]
            · rfl
            · intro q hq hd
              exact nin (List.mem_map.mpr ⟨q, hq, (of_decide_eq_true hd).trans e⟩)
          rw [this]
        · rw [if_neg e]
      | some b =>
        refine brT rfl ?_
        array_get_dec
        refine ⟨.inr s[i].name, rfl, fun x => ?_, by have := putA_len a (.inr s[i].name) (boV (some b)); omega, lt, rfl⟩
        rw [valA_put, tk, bestOf_snoc nin]
        by_cases e : x = s[i].name
        · rw [if_pos e, e, if_pos rfl, hb]
          rfl
        · rw [if_neg e, if_neg (fun z : (Sum.inr x : Key) = .inr s[i].name => e (Sum.inr.inj z)), h1]
    · rintro kvs T ⟨h1, _, _, rfl⟩
      rw [List.length_map, List.take_length] at h1
      intro S1 d e_d l_S1 g_d k_S1
      array_get_dec
      intro S2 rr e_rr l_S2 g_rr k_S2
      array_get_dec
      refine ⟨_, _, rfl, ?_⟩
      have lz : (zipV (n.ms.map mbV) (s.map rwV)).length = n.ms.length := by
        unfold zipV
        rw [List.length_map, List.length_zip, List.length_map, List.length_map, ls, Nat.min_self]
      refine ws_loop (fun i ρ U => ∃ a8 a9 a10 a11 a12 a13 a14 a15, ρ = [some (netV n), some (stV s), some wv, some (.int most), some (.int age), some (.tup (ws.map wireV)), some (.ref d), some (.ref rr), a8, a9, a10, a11, a12, a13, a14, a15] ∧ U[rr]? = some (.lst (((rnd n s ws most age).take i).map rwV)) ∧ Kx rr S2 U ∧ i ≤ n.ms.length) ⟨_, _, _, _, _, _, _, _, rfl, g_rr, .refl _ _, Nat.zero_le _⟩ (fun _ _ _ _ _ => trivial) ?_ ?_
      · rintro i v ρ U hv ⟨a8, a9, a10, a11, a12, a13, a14, a15, rfl, gU, kU, li⟩
        have i1 : i < n.ms.length := by
          have := (List.getElem?_eq_some_iff.mp hv).1
          rwa [lz] at this
        have i2 : i < s.length := by omega
        obtain ⟨x, y, hx, hy, rfl⟩ := zipV_get hv
        rw [List.getElem?_map, List.getElem?_eq_getElem i1] at hx
        rw [List.getElem?_map, List.getElem?_eq_getElem i2] at hy
        cases hx
        cases hy
        refine bn rfl ?_
        dsimp only [List.set_cons_zero, List.set_cons_succ]
        have ddr : d ≠ rr := by
          have := lt_of_at g_d
          omega
        refine ws_cut' (each_wp (rows := (rnd n s ws most age).take i) hn so w a4 m9 (kU _ _ ddr (k_S2 _ _ g_d)) h1 gU (by rw [List.length_take]; omega) i1 i2) ?_ (fun _ _ h => h.elim)
        rintro _ V ⟨a10, a11, a15, rfl, gV, kV⟩
        have lt : i < (rnd n s ws most age).length := by omega
        have tk : (rnd n s ws most age).take (i + 1) = (rnd n s ws most age).take i ++ [rowN s ws most age n.ms[i] s[i]] := by
          rw [List.take_succ_eq_append_getElem lt]
          congr 2
          simp [rnd]
        exact ⟨_, _, _, _, _, _, _, _, rfl, by rw [tk]; exact gV, kU.trans kV, i1⟩
      · rintro ρ U ⟨a8, a9, a10, a11, a12, a13, a14, a15, rfl, gU, kU, li⟩
        rw [lz, ← lR, List.take_length] at gU
        array_get_dec
        refine ⟨rfl, fun q o hq => ?_⟩
        have := lt_of_at hq
        exact kU _ _ (by omega) (k_S2 _ _ (k_S1 _ _ hq))
  refine AL.wf ?_
  simp only [List.map_cons, List.map_nil, List.length_cons, List.length_nil, Nat.reduceAdd, Nat.reduceSub, List.replicate_succ, List.replicate_zero, List.cons_append, List.nil_append]
  unfold state_round_B
  rcases hw with rfl | ⟨rfl, rfl⟩
  · refine ws_seq (ws_asg (weI (wT (wB (wv rfl (wc (vIs rfl (tb rfl (brF rfl (wv rfl (bn rfl ?_)))))))))))
    exact ws_cut (rest S _) (fun _ _ h => h.elim)
  · refine ws_seq (ws_asg (weI (wT (wB (wv rfl (wc (vIs rfl (tb rfl (brT rfl (wB (wv rfl (wc (vIxT rfl rfl rfl (bn rfl ?_))))))))))))))
    exact ws_cut (rest S _) (fun _ _ h => h.elim)
end
end K57
namespace K57
open PySem PySem.Spec PyProof.Rows L2 G Th AL KL Fr Od
open K37 (fmod_lt p60 p40 p62 TxOk Sh ShL valA_put putA_len merge_app)
open K08 (ws_cut)
section
variable {S : Sto} {Q : Val → Sto → Prop}
theorem Kn.up {S U V : Sto} {r : Nat} (h : Kn S U) (k : Kx r U V) (l : S.length ≤ r) : Kn S V := fun q o hq => k q o (by have := lt_of_at hq; omega) (h q o hq)
theorem vDictN {n : Nat} {vs : List Val} {kvs : List (Key × Val)} (h : S[n]? = some (.lst vs)) (hk : pairsK vs = some kvs) (nd : (kvs.map (·.1)).Nodup) (q : Nw S (.dic kvs) Q) : Wp (gDict [.ref n] S) Q := by
  have e : mergeA [] kvs = kvs := merge_app kvs [] (by simpa using nd)
  exact ⟨_, _, by simp only [gDict, h, hk, e], q.use⟩
theorem vLtD {x y : Val} (h1 : okV x = true) (h2 : okV y = true) (h3 : smV x y = true) (q : Q (.bl (ltV x y)) S) : Wp (gLtD x y S) Q := ⟨_, _, if_pos ⟨h1, h2, h3⟩, q⟩
theorem pairs_map {α : Type} (f : α → Str) (g : α → Val) : ∀ l : List α, pairsK (l.map fun a => .tup [.str (f a), g a]) = some (l.map fun a => (.inr (f a), g a))
  | [] => rfl
  | a :: l => by
    have ih := pairs_map f g l
    unfold pairsK at ih ⊢
    rw [List.map_cons, mapO, ih]
    rfl
theorem keys_map {α : Type} (f : α → Str) (g : α → Val) : ∀ l : List α, keysS (l.map fun a => (.inr (f a), g a)) = some (l.map f)
  | [] => rfl
  | a :: l => by rw [List.map_cons, keysS, keys_map f g l]; rfl
theorem val_map {α : Type} (f : α → Str) (g : α → Val) (x : Str) : ∀ l : List α, valA (l.map fun a => (.inr (f a), g a)) (.inr x) = (l.find? fun a => decide (f a = x)).map g
  | [] => rfl
  | a :: l => by
    have ih := val_map f g x l
    unfold valA at ih ⊢
    rw [List.map_cons, List.find?_cons, List.find?_cons]
    by_cases e : f a = x
    · simp [e]
    · have e2 : ¬ ((Sum.inr (f a) : Key) = .inr x) := fun z => e (Sum.inr.inj z)
      rw [decide_eq_false e, decide_eq_false e2]
      exact ih
theorem nd_inr {α : Type} (f : α → Str) (g : α → Val) {l : List α} (h : (l.map f).Nodup) : ((l.map fun a => ((.inr (f a), g a) : Key × Val)).map (·.1)).Nodup := by
  rw [List.map_map]
  exact List.pairwise_map.mpr ((List.pairwise_map.mp h).imp fun h e => h (Sum.inr.inj e))
def hdK (h : Hd) : Key × Val := (.inr h.who, hdV h)
def putH (l : List Hd) (f : Hd) : List Hd := if f.who ∈ l.map Hd.who then l.map (fun h => if h.who = f.who then f else h) else l ++ [f]
theorem put_map (l : List Hd) (f : Hd) : putA (l.map hdK) (.inr f.who) (hdV f) = (putH l f).map hdK := by
  have a : ((l.map hdK).any fun kv => decide (kv.1 = .inr f.who)) = decide (f.who ∈ l.map Hd.who) := by
    rw [Bool.eq_iff_iff, List.any_eq_true, decide_eq_true_eq, List.mem_map]
    constructor
    · rintro ⟨kv, hk, e⟩
      obtain ⟨h, hh, rfl⟩ := List.mem_map.mp hk
      exact ⟨h, hh, Sum.inr.inj (of_decide_eq_true e)⟩
    · rintro ⟨h, hh, e⟩
      exact ⟨hdK h, List.mem_map_of_mem hh, by rw [← e]; exact decide_eq_true rfl⟩
  unfold putA putH
  rw [a]
  by_cases c : f.who ∈ l.map Hd.who
  · rw [if_pos (decide_eq_true c), if_pos c, List.map_map, List.map_map]
    refine List.map_congr_left fun h _ => ?_
    show (if (Sum.inr h.who : Key) = .inr f.who then ((Sum.inr h.who : Key), hdV f) else hdK h) = hdK (if h.who = f.who then f else h)
    by_cases e : h.who = f.who
    · rw [if_pos e, if_pos (congrArg Sum.inr e), e]
      rfl
    · rw [if_neg e, if_neg fun z => e (Sum.inr.inj z)]
  · rw [if_neg (by simpa using c), if_neg c, List.map_append]
    rfl
theorem putH_who (l : List Hd) (f : Hd) : (putH l f).map Hd.who = if f.who ∈ l.map Hd.who then l.map Hd.who else l.map Hd.who ++ [f.who] := by
  unfold putH
  split
  · rw [List.map_map]
    refine List.map_congr_left fun h _ => ?_
    show (if h.who = f.who then f else h).who = h.who
    split
    · next e => exact e.symm
    · rfl
  · rw [List.map_append]
    rfl
theorem putH_nd {l : List Hd} {f : Hd} (h : (l.map Hd.who).Nodup) : ((putH l f).map Hd.who).Nodup := by
  rw [putH_who]
  split
  · exact h
  · next c =>
    rw [List.nodup_append]
    exact ⟨h, by simp, fun a ha b hb e => c (by rw [← List.mem_singleton.mp hb, ← e]; exact ha)⟩
theorem putH_mem {l : List Hd} {f h : Hd} : h ∈ putH l f ↔ h = f ∨ (h ∈ l ∧ h.who ≠ f.who) := by
  unfold putH
  split
  · next c =>
    rw [List.mem_map]
    constructor
    · rintro ⟨g, hg, e⟩
      by_cases z : g.who = f.who
      · rw [if_pos z] at e
        exact .inl e.symm
      · rw [if_neg z] at e
        exact .inr ⟨e ▸ hg, e ▸ z⟩
    · rintro (rfl | ⟨hg, z⟩)
      · obtain ⟨g, hg, e⟩ := List.mem_map.mp c
        exact ⟨g, hg, if_pos e⟩
      · exact ⟨h, hg, if_neg z⟩
  · next c =>
    rw [List.mem_append, List.mem_singleton]
    constructor
    · rintro (hg | rfl)
      · exact .inr ⟨hg, fun e => c (e ▸ List.mem_map_of_mem hg)⟩
      · exact .inl rfl
    · rintro (rfl | ⟨hg, _⟩)
      · exact .inr rfl
      · exact .inl hg
theorem putH_len (l : List Hd) (f : Hd) : (putH l f).length ≤ l.length + 1 := by
  unfold putH
  split
  · rw [List.length_map]
    omega
  · rw [List.length_append]
    exact Nat.le_refl _
/-- what is kept, so far -/
structure Kpt (s : List Rw) (D0 : List Hd) (es : List Str) (Ds : List Hd) : Prop where
  nd : (Ds.map Hd.who).Nodup
  mem : ∀ h, h ∈ Ds ↔ h ∈ frs s es ∨ (h ∈ D0 ∧ h.who ∉ (frs s es).map Hd.who)
  len : Ds.length ≤ D0.length + es.length
theorem frs_app (s : List Rw) (es : List Str) (e : Str) : frs s (es ++ [e]) = frs s es ++ (match bestOf s e with | some b => [⟨e, b.key, b.st, 0⟩] | none => []) := by
  unfold frs
  rw [List.filterMap_append]
  congr 1
  cases h : bestOf s e with
  | none => simp [h]
  | some b => simp [h]
theorem Kpt.no {s : List Rw} {D0 Ds : List Hd} {es : List Str} {e : Str} (h : Kpt s D0 es Ds) (hb : bestOf s e = none) : Kpt s D0 (es ++ [e]) Ds := by
  have e1 : frs s (es ++ [e]) = frs s es := by rw [frs_app, hb]; simp
  exact ⟨h.nd, by rw [e1]; exact h.mem, by have := h.len; rw [List.length_append]; omega⟩
theorem Kpt.yes {s : List Rw} {D0 Ds : List Hd} {es : List Str} {e : Str} {b : Bs} (h : Kpt s D0 es Ds) (ne : e ∉ es) (hb : bestOf s e = some b) : Kpt s D0 (es ++ [e]) (putH Ds ⟨e, b.key, b.st, 0⟩) := by
  have e1 : frs s (es ++ [e]) = frs s es ++ [⟨e, b.key, b.st, 0⟩] := by rw [frs_app, hb]
  refine ⟨putH_nd h.nd, fun x => ?_, by have := h.len; have := putH_len Ds ⟨e, b.key, b.st, 0⟩; rw [List.length_append, List.length_singleton]; omega⟩
  rw [putH_mem, h.mem, e1, List.mem_append, List.mem_singleton, List.map_append, List.mem_append]
  constructor
  · rintro (rfl | ⟨hx | ⟨hx, hx2⟩, z⟩)
    · exact .inl (.inr rfl)
    · exact .inl (.inl hx)
    · exact .inr ⟨hx, fun w => w.elim hx2 fun w => z (by simpa using w)⟩
  · rintro ((hx | rfl) | ⟨hx, hx2⟩)
    · refine .inr ⟨.inl hx, fun z => ?_⟩
      obtain ⟨_, m, _, _⟩ := mem_frs.mp hx
      rw [show x.who = e from z] at m
      exact ne m
    · exact .inl rfl
    · exact .inr ⟨.inr ⟨hx, fun w => hx2 (.inl w)⟩, fun z => hx2 (.inr (by simpa using z))⟩
def kps0 (hs : List Hd) (age : Int) : List Hd := (hs.filter fun h => decide (h.old < age)).map fun h => ⟨h.who, h.key, h.st, h.old + 1⟩
theorem mem_kps0 {hs : List Hd} {age : Int} {h : Hd} : h ∈ kps0 hs age ↔ ∃ g ∈ hs, g.old < age ∧ h = ⟨g.who, g.key, g.st, g.old + 1⟩ := by
  unfold kps0
  simp only [List.mem_map, List.mem_filter, decide_eq_true_eq]
  constructor
  · rintro ⟨g, ⟨h1, h3⟩, rfl⟩
    exact ⟨g, h1, h3, rfl⟩
  · rintro ⟨g, h1, h3, rfl⟩
    exact ⟨g, ⟨h1, h3⟩, rfl⟩
theorem kps0_who (hs : List Hd) (age : Int) : ((kps0 hs age).map Hd.who).Sublist (hs.map Hd.who) := by
  unfold kps0
  rw [List.map_map]
  exact (List.filter_sublist (l := hs)).map Hd.who
theorem frs_iff {s : List Rw} {es es' : List Str} (h : ∀ x, x ∈ es ↔ x ∈ es') (z : Hd) : z ∈ frs s es ↔ z ∈ frs s es' := by
  rw [mem_frs, mem_frs]
  exact ⟨fun ⟨b, a, c⟩ => ⟨b, (h _).mp a, c⟩, fun ⟨b, a, c⟩ => ⟨b, (h _).mpr a, c⟩⟩
/-- all of it: what the program keeps -/
theorem Kpt.all {s : List Rw} {hs Ds : List Hd} {es es' : List Str} {age : Int} (h : Kpt s (kps0 hs age) es Ds) (e : ∀ x, x ∈ es ↔ x ∈ es') (nd' : es'.Nodup) (ndh : (hs.map Hd.who).Nodup) : sortH Ds = sortH (frs s es' ++ kps (frs s es') hs age) := by
  have fw : ∀ x, x ∈ (frs s es).map Hd.who ↔ x ∈ (frs s es').map Hd.who := fun x => by
    simp only [List.mem_map]
    exact ⟨fun ⟨a, b, c⟩ => ⟨a, (frs_iff e a).mp b, c⟩, fun ⟨a, b, c⟩ => ⟨a, (frs_iff e a).mpr b, c⟩⟩
  refine sortH_uniq (both_nd nd' ndh) (sortH_pw Ds) ((sortH_perm Ds).trans (nd_perm (fun x => ?_) h.nd (both_nd nd' ndh)))
  rw [h.mem, List.mem_append, frs_iff e, fw]
  refine or_congr Iff.rfl ?_
  rw [mem_kps0, mem_kps]
  constructor
  · rintro ⟨⟨g, h1, h2, rfl⟩, h3⟩
    exact ⟨g, h1, h3, h2, rfl⟩
  · rintro ⟨g, h1, h3, h2, rfl⟩
    exact ⟨⟨g, h1, h2, rfl⟩, h3⟩
theorem sortH_who (l : List Hd) : (sortH l).map Hd.who = sortS (l.map Hd.who) := sortS_eq (List.pairwise_map.mpr (sortH_pw l)) ((sortH_perm l).map Hd.who)
end
end K57
namespace K57
open PySem PySem.Spec PyProof.Rows L2 G Th AL KL Fr Od
open K37 (fmod_lt p60 p40 p62 TxOk Sh ShL valA_put putA_len merge_app)
open K08 (ws_cut)
section
variable {S : Sto} {n : Net} {s : List Rw} {ws : List (Str × Str)} {most age : Int}
def pairV : Val → Val
  | .tup (a :: b :: _) => .tup [a, b]
  | _ => .non
def isO (age : Int) : Val → Bool
  | .tup [_, _, _, .int o] => decide (o < age)
  | _ => false
def upP : Val → Val
  | .tup [w, k, s, .int o] => .tup [w, .tup [w, k, s, .int (o + 1)]]
  | _ => .non
def lookV (l : List Hd) : Val → Val
  | .str w => (valA (l.map hdK) (.inr w)).getD .non
  | _ => .non
theorem look_hd {l : List Hd} (nd : (l.map Hd.who).Nodup) {h : Hd} (hh : h ∈ l) : valA (l.map hdK) (.inr h.who) = some (hdV h) := by
  have := val_map Hd.who hdV h.who l
  rw [show l.map hdK = l.map fun a : Hd => ((.inr a.who, hdV a) : Key × Val) from rfl, this]
  have f : ∃ g, l.find? (fun a => decide (a.who = h.who)) = some g := by
    cases e : l.find? (fun a => decide (a.who = h.who)) with
    | none => exact absurd (decide_eq_true (p := h.who = h.who) rfl) (by simpa using List.find?_eq_none.mp e h hh)
    | some g => exact ⟨g, rfl⟩
  obtain ⟨g, hg⟩ := f
  have e1 : g.who = h.who := of_decide_eq_true (List.find?_some (p := fun a : Hd => decide (a.who = h.who)) hg)
  have e2 : g = h := who_inj nd (List.mem_of_find?_eq_some hg) hh e1
  rw [hg, e2]
  rfl
/-- the bests, by name -/
theorem bests_at (so : SOk n s) {x : Str} (hx : x ∈ n.names) : valA (s.map fun r => (.inr r.name, boV r.best)) (.inr x) = some (boV (bestOf s x)) := by
  rw [val_map Rw.name (fun r => boV r.best) x s]
  rw [← so.nm] at hx
  obtain ⟨r, hr, e⟩ := List.mem_map.mp hx
  cases f : s.find? (fun a => decide (a.name = x)) with
  | none => exact absurd (decide_eq_true (p := r.name = x) e) (by simpa using List.find?_eq_none.mp f r hr)
  | some q =>
    unfold bestOf
    rw [f]
    rfl
/-- the kept ones of a member -/
theorem keep_wp (hn : NOk n) (so : SOk n s) {D0 : List Hd} {es : List Str} (ein : ∀ x ∈ es, x ∈ n.names) (end_ : es.Nodup) (e8 : es.length ≤ 8) (d8 : D0.length ≤ 8) (dnd : (D0.map Hd.who).Nodup) {db dk re : Nat} {a1 a2 a3 a4 a6 a7 a8 a9 a10 a12 a13 a14 a15 a16 : Option Val} (g1 : S[db]? = some (.dic (s.map fun r => (.inr r.name, boV r.best)))) (g2 : S[dk]? = some (.dic (D0.map hdK))) (g3 : S[re]? = some (.lst (es.map .str))) (n1 : db ≠ dk) (n2 : re ≠ dk) :
    Ws (forR (.nm 12) (sIf (eT (eB gIsN (eB gIxA (eV 5) (eV 12)) (eC .non))) (sSub gSetA (eV 11) (eV 12) (eTup (aCons (eV 12) (aCons (eB gIxA (eB gIxA (eV 5) (eV 12)) (eC (.int 0))) (aCons (eB gIxA (eB gIxA (eV 5) (eV 12)) (eC (.int 1))) (aCons (eC (.int 0)) aNil)))))) sNil) (fun U => U[re]? = some (.lst (es.map .str))) (es.map .str)
      [some (netV n), a1, a2, a3, a4, some (.ref db), a6, a7, a8, a9, a10, some (.ref dk), a12, a13, a14, a15, a16] S)
      (fun ρ U => ∃ (w12 : Option Val) (Ds : List Hd), ρ = [some (netV n), a1, a2, a3, a4, some (.ref db), a6, a7, a8, a9, a10, some (.ref dk), w12, a13, a14, a15, a16] ∧ U[dk]? = some (.dic (Ds.map hdK)) ∧ Kpt s D0 es Ds ∧ Kx dk S U) (fun _ _ => False) := by
  refine ws_loop (fun i ρ U => ∃ (w12 : Option Val) (Ds : List Hd), ρ = [some (netV n), a1, a2, a3, a4, some (.ref db), a6, a7, a8, a9, a10, some (.ref dk), w12, a13, a14, a15, a16] ∧ U[dk]? = some (.dic (Ds.map hdK)) ∧ Kpt s D0 (es.take i) Ds ∧ Kx dk S U ∧ i ≤ es.length) ⟨a12, D0, rfl, g2, ⟨dnd, fun h => by simp [frs], by simp⟩, .refl _ _, Nat.zero_le _⟩ (fun i ρ U _ ⟨_, _, _, _, _, k, _⟩ => k _ _ n2 g3) ?_ ?_
  · rintro i v ρ U hv ⟨w12, Ds, rfl, gU, kp, kU, li⟩
    have lt : i < es.length := by
      have := (List.getElem?_eq_some_iff.mp hv).1
      rwa [List.length_map] at this
    have ev : v = .str es[i] := by
      rw [List.getElem?_map, List.getElem?_eq_getElem lt] at hv
      exact (Option.some.inj hv).symm
    subst ev
    have tk : es.take (i + 1) = es.take i ++ [es[i]] := List.take_succ_eq_append_getElem lt
    have nin : es[i] ∉ es.take i := by
      have nd2 : (es.take (i + 1)).Nodup := (List.take_sublist _ _).nodup end_
      rw [tk, List.nodup_append] at nd2
      exact fun m => nd2.2.2 _ m _ (by simp) rfl
    have gb := kU _ _ n1 g1
    have hb := bests_at so (ein _ (List.getElem_mem lt))
    refine bn rfl ?_
    array_get_dec
    refine vIxD rfl gb rfl hb ?_
    array_get_dec
    cases h : bestOf s es[i] with
    | none =>
      refine brF rfl ?_
      array_get_dec
      exact ⟨_, Ds, rfl, gU, by rw [tk]; exact kp.no h, kU, lt⟩
    | some b =>
      rw [h] at hb
      refine brT rfl ?_
      array_get_dec
      refine vIxD rfl gb rfl hb ?_
      array_get_dec
      refine vIxD rfl gb rfl hb ?_
      array_get_dec
      have lD := kp.len
      rw [List.length_take] at lD
      refine vPut gU rfl ?_ (small (by rw [List.length_map]; omega))
      intro V l_V g_V k_V
      refine ⟨_, putH Ds ⟨es[i], b.key, b.st, 0⟩, rfl, ?_, by rw [tk]; exact kp.yes nin h, kU.trans k_V, lt⟩
      rw [g_V, ← put_map]
      rfl
  · rintro ρ U ⟨w12, Ds, rfl, gU, kp, kU, li⟩
    rw [List.length_map, List.take_length] at kp
    exact ⟨w12, Ds, rfl, gU, kp, kU⟩
/-- the best of what is heard -/
theorem best_wp {H : List Hd} {b0 : Bs} (ok0 : okV (bsV b0) = true) (ok : ∀ h ∈ H, NmOk h.who ∧ NmOk h.key.nm) {a0 a1 a2 a4 a5 a6 a7 a8 a10 a11 a12 a13 a14 a15 a16 : Option Val} :
    Ws (forR (.tp [(.nm 13), (.nm 14), (.nm 15), (.nm 16)]) (sIf (bAnd (eT (eB gLt (eV 15) (eV 3))) (eT (eB gLtD (eTup (aCons (eV 14) (aCons (eB gAdd (eV 15) (eC (.int 1))) (aCons (eV 13) aNil)))) (eV 9)))) (sAsg (.nm 9) (eTup (aCons (eV 14) (aCons (eB gAdd (eV 15) (eC (.int 1))) (aCons (eV 13) aNil))))) sNil) (fun _ => True) (H.map hdV)
      [a0, a1, a2, some (.int most), a4, a5, a6, a7, a8, some (bsV b0), a10, a11, a12, a13, a14, a15, a16] S)
      (fun ρ U => ∃ w13 w14 w15 w16, ρ = [a0, a1, a2, some (.int most), a4, a5, a6, a7, a8, some (bsV (minB b0 (offers most H))), a10, a11, a12, w13, w14, w15, w16] ∧ S = U) (fun _ _ => False) := by
  refine ws_loop (fun i ρ U => ∃ w13 w14 w15 w16, ρ = [a0, a1, a2, some (.int most), a4, a5, a6, a7, a8, some (bsV (minB b0 (offers most (H.take i)))), a10, a11, a12, w13, w14, w15, w16] ∧ S = U ∧ i ≤ H.length ∧ okV (bsV (minB b0 (offers most (H.take i)))) = true) ⟨_, _, _, _, rfl, rfl, Nat.zero_le _, ok0⟩ (fun _ _ _ _ _ => trivial) ?_ ?_
  · rintro i v ρ U hv ⟨w13, w14, w15, w16, rfl, rfl, li, okb⟩
    have lt : i < H.length := by
      have := (List.getElem?_eq_some_iff.mp hv).1
      rwa [List.length_map] at this
    have ev : v = hdV H[i] := by
      rw [List.getElem?_map, List.getElem?_eq_getElem lt] at hv
      exact (Option.some.inj hv).symm
    subst ev
    have tk : H.take (i + 1) = H.take i ++ [H[i]] := List.take_succ_eq_append_getElem lt
    have oko := ok _ (List.getElem_mem lt)
    refine bn rfl ?_
    array_get_dec
    refine Br.of (fun c => ?_) (fun c => ?_)
    · have c : H[i].st < most := of_decide_eq_true c
      have eo : offers most (H.take (i + 1)) = offers most (H.take i) ++ [⟨H[i].key, H[i].st + 1, H[i].who⟩] := by
        rw [tk]
        unfold offers
        rw [List.filter_append, List.map_append, List.filter_cons_of_pos (by simpa using c)]
        rfl
      have okn : okV (bsV ⟨H[i].key, H[i].st + 1, H[i].who⟩) = true := bs_okV oko.2 oko.1
      array_get_dec
      refine vLtD okn okb (bs_sm ⟨H[i].key, H[i].st + 1, H[i].who⟩ (minB b0 (offers most (H.take i)))) ?_
      array_get_dec
      rw [eo, minB_snoc]
      unfold bet
      refine Br.of (fun d => ?_) (fun d => ?_)
      · have d : ltV (bsV ⟨H[i].key, H[i].st + 1, H[i].who⟩) (bsV (minB b0 (offers most (H.take i)))) = true := d
        array_get_dec
        rw [if_pos d]
        exact ⟨_, _, _, _, rfl, rfl, lt, okn⟩
      · have d : ltV (bsV ⟨H[i].key, H[i].st + 1, H[i].who⟩) (bsV (minB b0 (offers most (H.take i)))) = false := d
        array_get_dec
        rw [if_neg (by rw [d]; decide)]
        exact ⟨_, _, _, _, rfl, rfl, lt, okb⟩
    · have c : ¬ H[i].st < most := of_decide_eq_false c
      have eo : offers most (H.take (i + 1)) = offers most (H.take i) := by
        rw [tk]
        unfold offers
        rw [List.filter_append, List.map_append, List.filter_cons_of_neg (by simpa using c)]
        simp
      array_get_dec
      rw [eo]
      exact ⟨_, _, _, _, rfl, rfl, lt, okb⟩
  · rintro ρ U ⟨w13, w14, w15, w16, rfl, rfl, li, _⟩
    rw [List.length_map, List.take_length]
    exact ⟨_, _, _, _, rfl, rfl⟩
theorem turned_wp (hn : NOk n) (so : SOk n s) (w : WOk n.names ws) (a4 : age ≤ 4) (m9 : most ≤ 9) : Wp (turnedL_ [netV n, stV s, .tup (ws.map wireV), .int most, .int age] S) fun v U => v = stV (rnd n s ws most age) ∧ Kn S U := by
  have h8 := hn.len
  have ls := so.len
  have nds := so.nd hn
  have lR : (rnd n s ws most age).length = n.ms.length := by
    unfold rnd
    rw [List.length_zipWith, ls, Nat.min_self]
  have eb : ((s.map rwV).filter fun _ => true).map pairV = s.map fun r => .tup [.str r.name, boV r.best] := by
    rw [List.filter_eq_self.mpr fun _ _ => rfl, List.map_map]
    rfl
  refine AL.wf ?_; simp only [List.map_cons, List.map_nil, List.length_cons, List.length_nil, Nat.reduceAdd, Nat.reduceSub, List.replicate_succ, List.replicate_zero, List.cons_append, List.nil_append]; unfold turnedL_B; array_get_dec
  refine .inl ⟨_, rfl, ?_⟩
  refine lc_pure (fun _ => true) pairV trivial (by rw [List.length_map]; omega) (fun v hv => ?_) ?_
  · obtain ⟨r, _, rfl⟩ := List.mem_map.mp hv
    refine bn rfl ?_
    array_get_dec
    exact ⟨rfl, rfl, fun _ => by array_get_dec; exact ⟨rfl, rfl⟩⟩
  rw [eb]
  intro S1 r1 e_r1 l_S1 g_r1 k_S1
  array_get_dec
  refine vDictN g_r1 (pairs_map Rw.name (fun r => boV r.best) s) (nd_inr _ _ nds) ?_
  intro S2 db e_db l_S2 g_db k_S2
  array_get_dec
  intro S3 rf e_rf l_S3 g_rf k_S3
  array_get_dec
  refine ⟨_, rfl, ?_, by rw [List.length_map]; omega, by rw [List.length_map]; omega⟩
  rw [List.length_map]
  have lz : (rangeV 0 (n.ms.length : Int).toNat).length = n.ms.length := by simp [rangeV]
  have K3 : Kn S S3 := k_S1.trans (k_S2.trans k_S3)
  have dbf : db ≠ rf := by omega
  refine ws_loop (fun i ρ U => ∃ a7 a8 a9 a10 a11 a12 a13 a14 a15 a16, ρ = [some (netV n), some (stV s), some (.tup (ws.map wireV)), some (.int most), some (.int age), some (.ref db), some (.ref rf), a7, a8, a9, a10, a11, a12, a13, a14, a15, a16] ∧ U[rf]? = some (.lst (((rnd n s ws most age).take i).map rwV)) ∧ Kx rf S3 U ∧ i ≤ n.ms.length) ⟨_, _, _, _, _, _, _, _, _, _, rfl, g_rf, .refl _ _, Nat.zero_le _⟩ (fun _ _ _ _ _ => trivial) ?_ ?_
  · rintro i v ρ U hv ⟨a7, a8, a9, a10, a11, a12, a13, a14, a15, a16, rfl, gU, kU, li⟩
    have i1 : i < n.ms.length := by
      have := (List.getElem?_eq_some_iff.mp hv).1
      rwa [lz] at this
    have i2 : i < s.length := by omega
    have ev : v = .int (i : Nat) := by
      simp only [rangeV, List.getElem?_map] at hv
      obtain ⟨m, hm, rfl⟩ := Option.map_eq_some_iff.mp hv
      obtain ⟨_, rfl⟩ := List.getElem?_eq_some_iff.mp hm
      simp
    subst ev
    have en := so.name i2 i1
    have ro := so.row s[i] (List.getElem_mem i2)
    have lt : i < (rnd n s ws most age).length := by omega
    have tk : (rnd n s ws most age).take (i + 1) = (rnd n s ws most age).take i ++ [rowN s ws most age n.ms[i] s[i]] := by
      rw [List.take_succ_eq_append_getElem lt]
      congr 2
      simp [rnd]
    have lU : S3.length ≤ U.length := by
      have : ∀ k, k ≠ rf → k < S3.length → k < U.length := fun k h1 h2 => lt_of_at (kU k _ h1 (List.getElem?_eq_getElem h2))
      have := lt_of_at gU
      have := this
      by_cases c : S3.length ≤ U.length
      · exact c
      · omega
    have put : ∀ (bo : Option Bs) (hs : List Hd) (a11 a12 a13 a14 a15 a16 : Option Val) (V : Sto), (⟨s[i].name, bo, hs⟩ : Rw) = rowN s ws most age n.ms[i] s[i] → V[rf]? = some (.lst (((rnd n s ws most age).take i).map rwV)) → Kx rf S3 V →
        Ws (sExpr (eMt isL gApp (eV 6) (aCons (eTup (aCons (eV 8) (aCons (eV 9) (aCons (eV 10) aNil)))) aNil)) [some (netV n), some (stV s), some (.tup (ws.map wireV)), some (.int most), some (.int age), some (.ref db), some (.ref rf), some (.int (i : Nat)), some (.str s[i].name), some (boV bo), some (.tup (hs.map hdV)), a11, a12, a13, a14, a15, a16] V) (fun ρ U => ∃ a7 a8 a9 a10 a11 a12 a13 a14 a15 a16, ρ = [some (netV n), some (stV s), some (.tup (ws.map wireV)), some (.int most), some (.int age), some (.ref db), some (.ref rf), a7, a8, a9, a10, a11, a12, a13, a14, a15, a16] ∧ U[rf]? = some (.lst (((rnd n s ws most age).take (i + 1)).map rwV)) ∧ Kx rf S3 U ∧ i + 1 ≤ n.ms.length) (fun v U => v = stV (rnd n s ws most age) ∧ Kn S U) := by
      intro bo hs a11 a12 a13 a14 a15 a16 V e gV kV
      array_get_dec
      refine vApp rfl gV ?_ (small (by rw [List.length_map, List.length_take]; omega))
      intro W l_W g_W k_W
      refine ⟨_, _, _, _, _, _, _, _, _, _, rfl, ?_, kV.trans k_W, i1⟩
      rw [g_W, tk, List.map_append, ← e]
      rfl
    refine bn rfl ?_
    array_get_dec
    refine vIxT rfl rfl (atI_nat (j := i) (by rw [List.getElem?_map, List.getElem?_eq_getElem i2]; rfl)) ?_
    array_get_dec
    cases hb : s[i].best with
    | none =>
      have e : rowN s ws most age n.ms[i] s[i] = s[i] := by
        unfold rowN
        rw [hb]
      refine brF rfl (ws_nil ?_)
      refine put none s[i].hs _ _ _ _ _ _ U ?_ gU kU
      rw [e, ← hb]
    | some b =>
      have e : rowN s ws most age n.ms[i] s[i] = ⟨s[i].name, some (minB (own n.ms[i]) (offers most (heardN s ws age s[i]))), heardN s ws age s[i]⟩ := by
        unfold rowN
        rw [hb]
      have l8 := ro.len hn
      have ek : ((s[i].hs.map hdV).filter (isO age)).map upP = (kps0 s[i].hs age).map fun h => .tup [.str h.who, hdV h] := by
        unfold kps0
        rw [List.filter_map, List.map_map, List.map_map]
        rfl
      have d8 : (kps0 s[i].hs age).length ≤ 8 := by
        unfold kps0
        rw [List.length_map]
        exact Nat.le_trans (List.length_filter_le _ _) l8
      have dnd := (kps0_who s[i].hs age).nodup ro.nd
      refine brT rfl ?_
      array_get_dec
      refine .inl ⟨_, rfl, ?_⟩
      refine lc_pure (isO age) upP trivial (by rw [List.length_map]; omega) (fun v hv => ?_) ?_
      · obtain ⟨h, _, rfl⟩ := List.mem_map.mp hv
        refine bn rfl ?_
        array_get_dec
        exact ⟨rfl, rfl, fun _ => by array_get_dec; exact ⟨rfl, rfl⟩⟩
      rw [ek]
      intro U1 r2 e_r2 l_U1 g_r2 k_U1
      array_get_dec
      refine vDictN g_r2 (pairs_map Hd.who hdV _) (nd_inr _ _ dnd) ?_
      intro U2 dk e_dk l_U2 g_dk k_U2
      array_get_dec
      refine (endsL_wp w.len).imp ?_
      rintro _ U3 ⟨re, rfl, ge, k3, lre⟩
      have ein : ∀ x ∈ ends ws s[i].name, x ∈ n.names := fun x hx => w.ends_in ((sortS_perm _).mem_iff.mp hx)
      have endn : (ends ws s[i].name).Nodup := (sortS_perm _).nodup_iff.mpr (w.ends_nd _)
      have e8 : (ends ws s[i].name).length ≤ 8 := by
        unfold ends
        rw [(sortS_perm _).length_eq]
        exact w.ends_len (by unfold Net.names; rw [List.length_map]; exact h8) _
      have kU3 : Kn U U3 := k_U1.trans (k_U2.trans k3)
      have gb3 := kU3 _ _ (kU _ _ dbf (k_S3 _ _ g_db))
      have gd3 : U3[dk]? = some (.dic ((kps0 s[i].hs age).map hdK)) := k3 _ _ g_dk
      have l0 := lt_of_at (kU _ _ dbf (k_S3 _ _ g_db))
      refine .inr ⟨re, _, rfl, ge, ?_⟩
      refine ws_cut' (keep_wp hn so ein endn e8 d8 dnd gb3 gd3 ge (by omega) (by have := lt_of_at g_dk; omega)) ?_ (fun _ _ h => h.elim)
      rintro _ V ⟨w12, Ds, rfl, gV, kp, kV⟩
      have lD : Ds.length ≤ 16 := by
        have := kp.len
        omega
      have eq := kp.all (es' := oes ws s[i].name) (fun x => by
        rw [show x ∈ ends ws s[i].name ↔ x ∈ endsL ws s[i].name from (sortS_perm _).mem_iff, (oes_perm fun u hu => (w.mem u hu).2.2).mem_iff]) (oes_nd w _) ro.nd
      have eH : sortH Ds = heardN s ws age s[i] := eq
      array_get_dec
      refine vSortGD rfl gV (keys_map Hd.who hdV Ds) (by rw [List.length_map]; omega) ?_
      rw [← sortH_who]
      intro V1 r5 e_r5 l_V1 g_r5 k_V1
      refine .inr ⟨r5, _, rfl, g_r5, ?_⟩
      refine lc_pure (fun _ => true) (lookV Ds) g_r5 (by rw [List.length_map, List.length_map, (sortH_perm _).length_eq]; omega) (fun v hv => ?_) ?_
      · obtain ⟨x, hx, rfl⟩ := List.mem_map.mp hv
        obtain ⟨h, hh, rfl⟩ := List.mem_map.mp hx
        have lk := look_hd kp.nd ((sortH_perm Ds).mem_iff.mp hh)
        refine bn rfl ?_
        array_get_dec
        refine ⟨rfl, rfl, fun _ => ?_⟩
        array_get_dec
        refine vIxD rfl (k_V1 _ _ gV) rfl lk ⟨?_, rfl⟩
        unfold lookV
        simp only [lk]
        rfl
      have el : ((((sortH Ds).map Hd.who).map Val.str).filter fun _ => true).map (lookV Ds) = (sortH Ds).map hdV := by
        rw [List.filter_eq_self.mpr fun _ _ => rfl, List.map_map, List.map_map]
        refine List.map_congr_left fun h hh => ?_
        have lk := look_hd kp.nd ((sortH_perm Ds).mem_iff.mp hh)
        show lookV Ds (.str h.who) = hdV h
        unfold lookV
        simp only [lk]
        rfl
      rw [el, eH]
      intro V2 r6 e_r6 l_V2 g_r6 k_V2
      array_get_dec
      refine vIxT rfl rfl (atI_nat (j := i) (by rw [List.getElem?_map, List.getElem?_eq_getElem i1]; rfl)) ?_
      array_get_dec
      refine keyL_wp.imp ?_
      rintro _ _ ⟨rfl, rfl⟩
      array_get_dec
      have okm := hn.nm (List.mem_map_of_mem (List.getElem_mem i1))
      have okh : ∀ h ∈ heardN s ws age s[i], NmOk h.who ∧ NmOk h.key.nm := fun h hh => by
        rcases List.mem_append.mp ((sortH_perm _).mem_iff.mp hh) with hh | hh
        · have := hd_fr so (fun x hx => oes_in w hx) hh
          exact ⟨hn.nm this.who, this.key.nm⟩
        · have := hd_kp ro a4 hh
          exact ⟨hn.nm this.who, this.key.nm⟩
      have eo : Val.tup [keyV (mkey n.ms[i]), .int 0, .str s[i].name] = bsV (own n.ms[i]) := by rw [en]; rfl
      rw [eo]
      refine .inl ⟨_, rfl, ?_⟩
      refine ws_cut' (best_wp (bs_okV okm okm) okh) ?_ (fun _ _ h => h.elim)
      rintro _ _ ⟨w13, w14, w15, w16, rfl, rfl⟩
      have rfdk : rf ≠ dk := by
        have := lt_of_at gU
        omega
      refine put (some (minB (own n.ms[i]) (offers most (heardN s ws age s[i])))) (heardN s ws age s[i]) _ _ _ _ _ _ V2 e.symm (k_V2 _ _ (k_V1 _ _ (kV _ _ rfdk (kU3 _ _ gU)))) ?_
      intro q o hq h
      have := lt_of_at h
      exact k_V2 _ _ (k_V1 _ _ (kV _ _ (by omega) (kU3 _ _ (kU _ _ hq h))))
  · rintro ρ U ⟨a7, a8, a9, a10, a11, a12, a13, a14, a15, a16, rfl, gU, kU, li⟩
    rw [lz, ← lR, List.take_length] at gU
    array_get_dec
    refine ⟨rfl, fun q o hq => ?_⟩
    have := lt_of_at hq
    exact kU _ _ (by omega) (K3 _ _ hq)
end
end K57
namespace K57
open PySem PySem.Spec PyProof.Rows L2 G Th AL KL Fr Od
open K37 (fmod_lt p60 p40 p62 TxOk Sh ShL valA_put putA_len merge_app)
open K08 (ws_cut)
theorem sh_small {i : Int} (h0 : 0 ≤ i) (h1 : i < 1024) : Sh 0 10 (.int i) := Sh.int (b := 10) (by omega) (by decide)
theorem sh_ky {k : Ky} (h : KyOk k) : Sh 1 40 (keyV k) := by
  have a := h.p0
  have b := h.p1
  have c := h.c0
  have d := h.c1
  exact ((ShL.cons (sh_small a (by omega)) (ShL.cons (sh_small c (by omega)) (ShL.cons (Sh.str h.nm) (ShL.nil (w := 0))))).tup).mono (by omega) (by omega)
theorem sh_bs {ns : List Str} {b : Bs} (h : BsOk ns b) (nm : NmOk b.who) : Sh 2 70 (bsV b) := by
  have a := h.s0
  have c := h.s1
  exact ((ShL.cons (sh_ky h.key) (ShL.cons ((sh_small a (by omega)).mono (n' := 1) (by omega) (Nat.le_refl _)) (ShL.cons ((Sh.str nm).mono (n' := 1) (by omega) (Nat.le_refl _)) (ShL.nil (w := 0))))).tup).mono (by omega) (by omega)
theorem sh_hd {ns : List Str} {x : Hd} (h : HdOk ns x) (nm : NmOk x.who) : Sh 2 80 (hdV x) := by
  have a := h.s0
  have c := h.s1
  have d := h.o0
  have e := h.o1
  exact ((ShL.cons ((Sh.str nm).mono (n' := 1) (by omega) (Nat.le_refl _)) (ShL.cons (sh_ky h.key) (ShL.cons ((sh_small a (by omega)).mono (n' := 1) (by omega) (Nat.le_refl _)) (ShL.cons ((sh_small d (by omega)).mono (n' := 1) (by omega) (Nat.le_refl _)) (ShL.nil (w := 0)))))).tup).mono (by omega) (by omega)
section
variable {n : Net} {s : List Rw} {ws : List (Str × Str)} {most age : Int}
theorem sh_row (hn : NOk n) {r : Rw} (h : RwOk n.names r) (nm : NmOk r.name) : Sh 4 800 (rwV r) := by
  have l8 := h.len hn
  have hb : Sh 2 70 (boV r.best) := by
    cases e : r.best with
    | none => exact Sh.non
    | some b => exact sh_bs (h.best b e) (hn.nm (h.best b e).who)
  have hh : Sh 3 650 (.tup (r.hs.map hdV)) := (ShL.map (f := hdV) r.hs fun x hx => sh_hd (h.hs x hx) (hn.nm (h.hs x hx).who)).tup.mono (by omega) (by omega)
  exact ((ShL.cons ((Sh.str nm).mono (n' := 3) (by omega) (Nat.le_refl _)) (ShL.cons (hb.mono (n' := 3) (by omega) (Nat.le_refl _)) (ShL.cons hh (ShL.nil (w := 0))))).tup).mono (by omega) (by omega)
theorem SOk.nms (hn : NOk n) (so : SOk n s) {r : Rw} (hr : r ∈ s) : NmOk r.name := hn.nm (so.nm ▸ List.mem_map_of_mem hr)
theorem sh_st (hn : NOk n) (so : SOk n s) : Sh 5 6500 (stV s) := by
  have l8 := hn.len
  have ls := so.len
  exact (ShL.map (f := rwV) s fun r hr => sh_row hn (so.row r hr) (so.nms hn hr)).tup.mono (by omega) (by omega)
theorem sh_wires (hn : NOk n) (w : WOk n.names ws) : Sh 2 250 (.tup (ws.map wireV)) := by
  have l := w.len
  exact (ShL.map (f := wireV) (n := 1) (w := 18) ws fun x hx => by
    obtain ⟨a, b, _⟩ := w.mem x hx
    exact (ShL.cons (Sh.str (hn.nm a)) (ShL.cons (Sh.str (hn.nm b)) (ShL.nil (w := 0)))).tup.mono (by omega) (by omega)).tup.mono (by omega) (by omega)
theorem sh_net (hn : NOk n) : Sh 3 700 (netV n) := by
  have l8 := hn.len
  have hm : Sh 2 400 (.tup (n.ms.map mbV)) := (ShL.map (f := mbV) (n := 1) (w := 40) n.ms fun m hm => by
    obtain ⟨a, b, c, d⟩ := hn.num m hm
    exact (ShL.cons (Sh.str (hn.nm (List.mem_map_of_mem hm))) (ShL.cons (sh_small a (by omega)) (ShL.cons (sh_small c (by omega)) (ShL.nil (w := 0))))).tup.mono (by omega) (by omega)).tup.mono (by omega) (by omega)
  exact (ShL.cons hm (ShL.cons (sh_wires hn hn.w) (ShL.nil (w := 0)))).tup.mono (by omega) (by omega)
theorem sh_three (hn : NOk n) (so : SOk n s) (w : WOk n.names ws) : Sh 6 8000 (.tup [netV n, stV s, .tup (ws.map wireV)]) :=
  (ShL.cons ((sh_net hn).mono (n' := 5) (by omega) (Nat.le_refl _)) (ShL.cons (sh_st hn so) (ShL.cons ((sh_wires hn w).mono (n' := 5) (by omega) (Nat.le_refl _)) (ShL.nil (w := 0))))).tup.mono (by omega) (by omega)
theorem reprL {k w : Nat} {vs : List Val} (h : ShL k w vs) (hk : k < 38) (hw : w ≤ 40000) : ∃ x : Str, ∀ (S : Sto) (a : Nat), S[a]? = some (.lst vs) → gRepr [.ref a] S = some (.str x, S) := by
  obtain ⟨ds, o1, o2, o3, o4⟩ := h
  refine ⟨(PyData.list ds).shown, fun S a ha => ?_⟩
  have D : Dt S (k + 1) w (.ref a) (.list ds) := Dt.lst ha ⟨o1, o2, o3, fun j hj => o4 S j hj⟩
  exact D.repr (by omega) hw
def itr (n : Net) (ws : List (Str × Str)) (most age : Int) (s : List Rw) : Nat → List Rw
  | 0 => s
  | k + 1 => rnd n (itr n ws most age s k) ws most age
theorem itr_ok (hn : NOk n) (so : SOk n s) (w : WOk n.names ws) (a4 : age ≤ 4) (m9 : most ≤ 9) : ∀ k, SOk n (itr n ws most age s k)
  | 0 => so
  | k + 1 => rnd_ok hn (itr_ok hn so w a4 m9 k) w a4 m9
variable {S : Sto}
theorem behind_wp (hn : NOk n) (so : SOk n s) (w : WOk n.names ws) (a4 : age ≤ 4) (m9 : most ≤ 9) {wv : Val} (hw : wv = .tup (ws.map wireV) ∨ (wv = .non ∧ ws = n.ws)) {k : Nat} (hk : k < 100) :
    Wp (state_behind_ [netV n, stV s, .int (k : Nat), wv, .int most, .int age] S) fun v U => v = stV (itr n ws most age s k) ∧ Kn S U := by
  have e1 : (rangeV 0 (k : Int).toNat).length = k := by simp [rangeV]
  refine AL.wf ?_; simp only [List.map_cons, List.map_nil, List.length_cons, List.length_nil, Nat.reduceAdd, Nat.reduceSub, List.replicate_succ, List.replicate_zero, List.cons_append, List.nil_append]; unfold state_behind_B; array_get_dec
  refine ⟨_, rfl, ?_, by omega, by omega⟩
  refine ws_loop (fun i ρ U => ∃ a7, ρ = [some (netV n), some (stV s), some (.int (k : Nat)), some wv, some (.int most), some (.int age), some (stV (itr n ws most age s i)), a7] ∧ Kn S U) ⟨_, rfl, .refl _⟩ (fun _ _ _ _ _ => trivial) ?_ ?_
  · rintro i v ρ U hv ⟨a7, rfl, kU⟩
    refine bn rfl ?_
    array_get_dec
    refine (round_wp hn (itr_ok hn so w a4 m9 i) w a4 m9 hw).imp ?_
    rintro _ V ⟨rfl, kV⟩
    array_get_dec
    exact ⟨_, rfl, kU.trans kV⟩
  · rintro ρ U ⟨a7, rfl, kU⟩
    rw [e1]
    array_get_dec
    exact ⟨rfl, kU⟩
theorem behindL_wp (hn : NOk n) (so : SOk n s) (w : WOk n.names ws) (a4 : age ≤ 4) (m9 : most ≤ 9) {k : Nat} (hk : k < 100) :
    Wp (behindL_ [netV n, stV s, .tup (ws.map wireV), .int (k : Nat), .int most, .int age] S) fun v U => v = stV (itr n ws most age s k) ∧ Kn S U := by
  have e1 : (rangeV 0 (k : Int).toNat).length = k := by simp [rangeV]
  refine AL.wf ?_; simp only [List.map_cons, List.map_nil, List.length_cons, List.length_nil, Nat.reduceAdd, Nat.reduceSub, List.replicate_succ, List.replicate_zero, List.cons_append, List.nil_append]; unfold behindL_B; array_get_dec
  refine ⟨_, rfl, ?_, by omega, by omega⟩
  refine ws_loop (fun i ρ U => ∃ a6, ρ = [some (netV n), some (stV (itr n ws most age s i)), some (.tup (ws.map wireV)), some (.int (k : Nat)), some (.int most), some (.int age), a6] ∧ Kn S U) ⟨_, rfl, .refl _⟩ (fun _ _ _ _ _ => trivial) ?_ ?_
  · rintro i v ρ U hv ⟨a7, rfl, kU⟩
    refine bn rfl ?_
    array_get_dec
    refine (turned_wp hn (itr_ok hn so w a4 m9 i) w a4 m9).imp ?_
    rintro _ V ⟨rfl, kV⟩
    array_get_dec
    exact ⟨_, rfl, kU.trans kV⟩
  · rintro ρ U ⟨a7, rfl, kU⟩
    rw [e1]
    array_get_dec
    exact ⟨rfl, kU⟩
theorem two_wp {B : Int} (T : Tf S B) (hB : B + 8 < 2 ^ 40) : Wp (two_numbersL_ [.ref 0] S) fun v U => ∃ a b : Int, v = .tup [.int a, .int b] ∧ 0 ≤ a ∧ a ≤ 9 ∧ 0 ≤ b ∧ b ≤ 4 ∧ Tf U (B + 2) ∧ Kx 0 S U := by
  have s3 : 3 ≤ S.length := by
    obtain ⟨_, _, _, _, h, _⟩ := T.ex
    have := lt_of_at h
    omega
  refine AL.wf ?_; simp only [List.map_cons, List.map_nil, List.length_cons, List.length_nil, Nat.reduceAdd, Nat.reduceSub, List.replicate_succ, List.replicate_zero, List.cons_append, List.nil_append]; unfold two_numbersL_B; array_get_dec
  intro S1 r1 e_r1 l_S1 g_r1 k_S1
  array_get_dec
  refine (draw_wp (T.fr k_S1) (m := 5) (by omega) (by omega) (by omega)).imp ?_
  rintro _ S2 ⟨d, rfl, d0, d1, T2, k2⟩
  obtain ⟨d, rfl⟩ := Int.eq_ofNat_of_zero_le d0
  have g2 := k2 _ _ (by omega) g_r1
  have at1 : ∃ a : Int, atI [Val.int 4, Val.int 1, Val.int 2, Val.int 9, Val.int 3] (d : Nat) = some (Val.int a) ∧ 0 ≤ a ∧ a ≤ 9 := by
    have w5 : d = 0 ∨ d = 1 ∨ d = 2 ∨ d = 3 ∨ d = 4 := by omega
    rcases w5 with rfl | rfl | rfl | rfl | rfl <;> exact ⟨_, rfl, by decide, by decide⟩
  obtain ⟨a, ea, a0, a1⟩ := at1
  refine vIxL rfl rfl g2 ea ?_
  array_get_dec
  intro S3 r3 e_r3 l_S3 g_r3 k_S3
  array_get_dec
  have l2 : S1.length ≤ S2.length := k2.len (by omega)
  refine (draw_wp (T2.fr k_S3) (m := 4) (by omega) (by omega) (by omega)).imp ?_
  rintro _ S4 ⟨e, rfl, e0, e1, T4, k4⟩
  obtain ⟨e, rfl⟩ := Int.eq_ofNat_of_zero_le e0
  have g4 := k4 _ _ (by omega) g_r3
  have at2 : ∃ b : Int, atI [Val.int 1, Val.int 0, Val.int 2, Val.int 4] (e : Nat) = some (Val.int b) ∧ 0 ≤ b ∧ b ≤ 4 := by
    have w5 : e = 0 ∨ e = 1 ∨ e = 2 ∨ e = 3 := by omega
    rcases w5 with rfl | rfl | rfl | rfl <;> exact ⟨_, rfl, by decide, by decide⟩
  obtain ⟨b, eb, b0, b1⟩ := at2
  refine vIxL rfl rfl g4 eb ?_
  array_get_dec
  exact ⟨a, b, rfl, a0, a1, b0, b1, T4.mono (by omega), (k_S1.kx 0).trans (k2.trans ((k_S3.kx 0).trans k4))⟩
end
end K57
namespace K57
open PySem PySem.Spec PyProof.Rows L2 G Th AL KL Fr Od
open K37 (fmod_lt p60 p40 p62 TxOk Sh ShL valA_put putA_len merge_app)
open K08 (ws_cut)
theorem wok_nil (ns : List Str) : WOk ns [] := ⟨by simp, by simp, by simp⟩
theorem law_true (ns : List Int) (h : ns.length ≤ 63) : ∃ S', law_ [.scr ns] [] = some (.bl true, S') := by
  suffices z : Wp (law_ [.scr ns] []) fun v _ => v = .bl true by
    obtain ⟨v, S', e, rfl⟩ := z
    exact ⟨S', e⟩
  refine AL.wf ?_; simp only [List.map_cons, List.map_nil, List.length_cons, List.length_nil, Nat.reduceAdd, Nat.reduceSub, List.replicate_succ, List.replicate_zero, List.cons_append, List.nil_append]; unfold law_B; array_get_dec
  refine (feed_wp ns h).imp ?_
  rintro _ S0 ⟨rfl, t0⟩
  array_get_dec
  refine ⟨_, rfl, ?_, by omega, by omega⟩
  have lz : (rangeV 0 (6 : Int).toNat).length = 6 := by rfl
  refine ws_loop (fun i ρ S => (∃ z2 z3 z4 z5 z6 z7 z8 z9 z10 z11 : Option Val, ρ = [some (.scr ns), some (.ref 0), z2, z3, z4, z5, z6, z7, z8, z9, z10, z11]) ∧ Tf S (1000 * (i : Nat)) ∧ i ≤ 6) ⟨⟨_, _, _, _, _, _, _, _, _, _, rfl⟩, by simpa using t0, Nat.zero_le _⟩ (fun _ _ _ _ _ => trivial) ?_ ?_
  · rintro i v ρ S hv ⟨⟨z2, z3, z4, z5, z6, z7, z8, z9, z10, z11, rfl⟩, T, i6⟩
    have li : i < 6 := by
      have := (List.getElem?_eq_some_iff.mp hv).1
      rwa [lz] at this
    refine bn rfl ?_
    array_get_dec
    refine (net_wp (m := 8) T (by omega) (by omega) (by omega)).imp ?_
    rintro _ S1 ⟨n, rfl, hn, _, T1, _⟩
    array_get_dec
    refine (two_wp T1 (by omega)).imp ?_
    rintro _ S2 ⟨lim, sp, rfl, a0, a1, b0, b1, T2, _⟩
    array_get_dec
    refine (state_wp hn T2 (by omega)).imp ?_
    rintro _ S3 ⟨s, rfl, so, T3, _⟩
    array_get_dec
    refine (some_wires_wp hn T3 (by omega)).imp ?_
    rintro _ S4 ⟨ws, rfl, sb, T4, _⟩
    have w := hn.w.filter ws sb
    have w0 := wok_nil n.names
    obtain ⟨xk, hxk⟩ := (sh_three hn so w).repr (by decide) (by decide)
    obtain ⟨x1, hx1⟩ := (sh_st hn (rnd_ok hn so w b1 a1)).repr (by decide) (by decide)
    array_get_dec
    refine Wp.of (hxk _) ?_
    array_get_dec
    refine (turned_wp hn so w b1 a1).imp ?_
    rintro _ S5 ⟨rfl, k5⟩
    array_get_dec
    refine (round_wp hn so w b1 a1 (.inl rfl)).imp ?_
    rintro _ S6 ⟨rfl, k6⟩
    array_get_dec
    refine Wp.of (hx1 _) ?_
    array_get_dec
    refine Wp.of (hx1 _) ?_
    array_get_dec
    refine brF (by simp) ?_
    array_get_dec
    refine (round_wp hn so hn.w (by omega) (by omega) (.inr ⟨rfl, rfl⟩)).imp ?_
    rintro _ S7 ⟨rfl, k7⟩
    array_get_dec
    refine (round_wp hn so hn.w b1 (by omega) (.inr ⟨rfl, rfl⟩)).imp ?_
    rintro _ S8 ⟨rfl, k8⟩
    array_get_dec
    intro S9 rt e_rt l_S9 g_rt k_S9
    array_get_dec
    refine (round_wp (ws := []) hn so w0 (by omega) a1 (.inl rfl)).imp ?_
    rintro _ S10 ⟨rfl, k10⟩
    array_get_dec
    refine vApp rfl (k10 _ _ g_rt) ?_ (small (by simp))
    intro S11 l_S11 g_S11 k_S11
    array_get_dec
    refine (turned_wp hn so hn.w (by omega) (by omega)).imp ?_
    rintro _ S12 ⟨rfl, k12⟩
    array_get_dec
    refine (turned_wp hn so hn.w b1 (by omega)).imp ?_
    rintro _ S13 ⟨rfl, k13⟩
    array_get_dec
    intro S14 ro e_ro l_S14 g_ro k_S14
    array_get_dec
    refine (turned_wp (ws := []) hn so w0 (by omega) a1).imp ?_
    rintro _ S15 ⟨rfl, k15⟩
    array_get_dec
    refine vApp rfl (k15 _ _ g_ro) ?_ (small (by simp))
    intro S16 l_S16 g_S16 k_S16
    have ne : rt ≠ ro := by
      have := lt_of_at (k13 _ _ (k12 _ _ g_S11))
      omega
    have gt16 := k_S16 _ _ ne (k15 _ _ (k_S14 _ _ (k13 _ _ (k12 _ _ g_S11))))
    have rt3 : 3 ≤ rt := by
      obtain ⟨_, _, _, _, hh, _⟩ := T4.ex
      have := lt_of_at (k8 _ _ (k7 _ _ (k6 _ _ (k5 _ _ hh))))
      omega
    have ro3 : 3 ≤ ro := by
      have := lt_of_at (k13 _ _ (k12 _ _ g_S11))
      omega
    have T16 : Tf S16 (1000 * (i : Nat) + 850) := by
      have a := (((((T4.fr k5).fr k6).fr k7).fr k8).fr k_S9).fr k10
      have b := (((a.kx k_S11 rt3).fr k12).fr k13).fr k_S14
      exact ((b.fr k15).kx k_S16 ro3).mono (by omega)
    array_get_dec
    refine (draw_wp T16 (m := 7) (by omega) (by omega) (by omega)).imp ?_
    rintro _ S17 ⟨mn, rfl, m0, m1, T17, k17⟩
    obtain ⟨mn, rfl⟩ := Int.eq_ofNat_of_zero_le m0
    have gt17 := k17 _ _ (by omega) gt16
    have go17 := k17 _ _ (by omega) g_S16
    array_get_dec
    refine (behind_wp hn so w b1 a1 (.inl rfl) (k := mn) (by omega)).imp ?_
    rintro _ S18 ⟨rfl, k18⟩
    array_get_dec
    refine vApp rfl (k18 _ _ gt17) ?_ (small (by simp))
    intro S19 l_S19 g_S19 k_S19
    array_get_dec
    refine (behindL_wp hn so w b1 a1 (k := mn) (by omega)).imp ?_
    rintro _ S20 ⟨rfl, k20⟩
    array_get_dec
    refine vApp rfl (k20 _ _ (k_S19 _ _ (Ne.symm ne) (k18 _ _ go17))) ?_ (small (by simp))
    intro S21 l_S21 g_S21 k_S21
    array_get_dec
    refine (behind_wp hn so hn.w (age := 1) (most := 4) (by omega) (by omega) (.inr ⟨rfl, rfl⟩) (k := 2) (by omega)).imp ?_
    rintro _ S22 ⟨rfl, k22⟩
    array_get_dec
    refine vApp rfl (k22 _ _ (k_S21 _ _ ne (k20 _ _ g_S19))) ?_ (small (by simp))
    intro S23 l_S23 g_S23 k_S23
    array_get_dec
    refine (behindL_wp hn so hn.w (age := 1) (most := 4) (by omega) (by omega) (k := 2) (by omega)).imp ?_
    rintro _ S24 ⟨rfl, k24⟩
    array_get_dec
    refine vApp rfl (k24 _ _ (k_S23 _ _ (Ne.symm ne) (k22 _ _ g_S21))) ?_ (small (by simp))
    intro S25 l_S25 g_S25 k_S25
    have gt25 := k_S25 _ _ ne (k24 _ _ g_S23)
    have all5 := ShL.cons (sh_st hn (rnd_ok hn so hn.w (age := 1) (most := 4) (by omega) (by omega))) (ShL.cons (sh_st hn (rnd_ok hn so hn.w (most := 4) b1 (by omega))) (ShL.cons (sh_st hn (rnd_ok hn so w0 (age := 1) (by omega) a1)) (ShL.cons (sh_st hn (itr_ok hn so w b1 a1 mn)) (ShL.cons (sh_st hn (itr_ok hn so hn.w (age := 1) (most := 4) (by omega) (by omega) 2)) (ShL.nil (w := 0))))))
    obtain ⟨x5, hx5⟩ := reprL all5 (by decide) (by decide)
    have h1 := hx5 S25 rt gt25
    have h2 := hx5 S25 ro g_S25
    array_get_dec
    refine Wp.of h1 ?_
    array_get_dec
    refine Wp.of h2 ?_
    array_get_dec
    refine brF (by simp) ?_
    array_get_dec
    refine Wp.of (hxk _) ?_
    array_get_dec
    refine brF (by simp) ?_
    array_get_dec
    have T25 : Tf S25 (1000 * ((i + 1 : Nat) : Int)) := by
      have a := (((T17.fr k18).kx k_S19 rt3).fr k20).kx k_S21 ro3
      exact (((a.fr k22).kx k_S23 rt3).fr k24).kx k_S25 ro3 |>.mono (by omega)
    exact ⟨⟨_, _, _, _, _, _, _, _, _, _, rfl⟩, T25, li⟩
  · rintro ρ S ⟨⟨z2, z3, z4, z5, z6, z7, z8, z9, z10, z11, rfl⟩, T, i6⟩
    array_get_dec
    rfl
end K57
namespace Bf
section
variable {α : Type} {nb : α → α → Prop} {s x y z : α}
/-- a walk of so many steps -/
inductive W (nb : α → α → Prop) (s : α) : Nat → α → Prop
  | nil : W nb s 0 s
  | snoc {n : Nat} {x y : α} : W nb s n x → nb x y → W nb s (n + 1) y
theorem W.trans {n : Nat} (h : W nb s n x) : ∀ {m : Nat} {y : α}, W nb x m y → W nb s (n + m) y := by
  intro m y g
  induction g with
  | nil => exact h
  | snoc _ e ih => exact ih.snoc e
theorem W.one (h : nb x y) : W nb x 1 y := .snoc .nil h
theorem W.symm (sy : ∀ a b, nb a b → nb b a) {n : Nat} (h : W nb s n x) : W nb x n s := by
  induction h with
  | nil => exact .nil
  | @snoc n x y _ e ih =>
    have := (W.one (sy _ _ e)).trans ih
    rwa [Nat.add_comm] at this
def Rc (nb : α → α → Prop) (s x : α) : Prop := ∃ n, W nb s n x
theorem Rc.refl : Rc nb s s := ⟨0, .nil⟩
theorem Rc.trans (h : Rc nb s x) (g : Rc nb x y) : Rc nb s y := let ⟨n, a⟩ := h; let ⟨m, b⟩ := g; ⟨n + m, a.trans b⟩
theorem Rc.symm (sy : ∀ a b, nb a b → nb b a) (h : Rc nb s x) : Rc nb x s := let ⟨n, a⟩ := h; ⟨n, a.symm sy⟩
/-- what a search has found at its end -/
structure BF (nb : α → α → Prop) (s : α) (D : List (α × Nat)) : Prop where
  nd : (D.map (·.1)).Nodup
  st : (s, 0) ∈ D
  wk : ∀ x d, (x, d) ∈ D → W nb s d x
  cl : ∀ x d y, (x, d) ∈ D → nb x y → ∃ e, e ≤ d + 1 ∧ (y, e) ∈ D
theorem BF.all {D : List (α × Nat)} (h : BF nb s D) {n : Nat} (w : W nb s n x) : ∃ d, d ≤ n ∧ (x, d) ∈ D := by
  induction w with
  | nil => exact ⟨0, Nat.le_refl _, h.st⟩
  | snoc _ e ih =>
    obtain ⟨d, l, m⟩ := ih
    obtain ⟨d', l', m'⟩ := h.cl _ _ _ m e
    exact ⟨d', by omega, m'⟩
theorem BF.mem {D : List (α × Nat)} (h : BF nb s D) : x ∈ D.map (·.1) ↔ Rc nb s x := by
  constructor
  · intro m
    obtain ⟨⟨y, d⟩, m', rfl⟩ := List.mem_map.mp m
    exact ⟨d, h.wk _ _ m'⟩
  · rintro ⟨n, w⟩
    obtain ⟨d, _, m⟩ := h.all w
    exact List.mem_map_of_mem (f := (·.1)) m
/-- while the neighbours of the thing at p are gone through: those of ys are done -/
structure Qi (nb : α → α → Prop) (s : α) (D : List (α × Nat)) (p : Nat) (x : α) (d : Nat) (ys : List α) : Prop where
  at_ : D[p]? = some (x, d)
  nd : (D.map (·.1)).Nodup
  st : (s, 0) ∈ D
  wk : ∀ x d, (x, d) ∈ D → W nb s d x
  so : D.Pairwise fun a b => a.2 ≤ b.2
  hi : ∀ r ∈ D, r.2 ≤ d + 1
  cl : ∀ i x d y, i < p → D[i]? = some (x, d) → nb x y → ∃ e, e ≤ d + 1 ∧ (y, e) ∈ D
  ys : ∀ y ∈ ys, ∃ e, e ≤ d + 1 ∧ (y, e) ∈ D
theorem Qi.old {D : List (α × Nat)} {p d : Nat} {ys : List α} (h : Qi nb s D p x d ys) (m : y ∈ D.map (·.1)) : Qi nb s D p x d (ys ++ [y]) := ⟨h.at_, h.nd, h.st, h.wk, h.so, h.hi, h.cl, fun z hz => by
  rcases List.mem_append.mp hz with hz | hz
  · exact h.ys z hz
  · rw [List.mem_singleton] at hz
    subst hz
    obtain ⟨⟨z, e⟩, m', rfl⟩ := List.mem_map.mp m
    exact ⟨e, h.hi _ m', m'⟩⟩
theorem Qi.new {D : List (α × Nat)} {p d : Nat} {ys : List α} (h : Qi nb s D p x d ys) (m : y ∉ D.map (·.1)) (e : nb x y) : Qi nb s (D ++ [(y, d + 1)]) p x d (ys ++ [y]) := by
  have lp := (List.getElem?_eq_some_iff.mp h.at_).1
  refine ⟨by rw [List.getElem?_append_left lp]; exact h.at_, ?_, List.mem_append_left _ h.st, fun z c hz => ?_, ?_, fun r hr => ?_, fun i z c u hi hz hn => ?_, fun z hz => ?_⟩
  · rw [List.map_append, List.nodup_append]
    refine ⟨h.nd, by simp, fun a ha b hb => ?_⟩
    simp only [List.map_cons, List.map_nil, List.mem_singleton] at hb
    subst hb
    exact fun q => m (q ▸ ha)
  · rcases List.mem_append.mp hz with hz | hz
    · exact h.wk _ _ hz
    · rw [List.mem_singleton] at hz
      cases hz
      exact (h.wk _ _ (List.mem_of_getElem? h.at_)).snoc e
  · rw [List.pairwise_append]
    refine ⟨h.so, by simp, fun a ha b hb => ?_⟩
    rw [List.mem_singleton] at hb
    subst hb
    exact h.hi a ha
  · rcases List.mem_append.mp hr with hr | hr
    · exact h.hi r hr
    · rw [List.mem_singleton] at hr
      subst hr
      exact Nat.le_refl _
  · rw [List.getElem?_append_left (by omega)] at hz
    obtain ⟨c', l, m⟩ := h.cl i z c u hi hz hn
    exact ⟨c', l, List.mem_append_left _ m⟩
  · rcases List.mem_append.mp hz with hz | hz
    · obtain ⟨c', l, m⟩ := h.ys z hz
      exact ⟨c', l, List.mem_append_left _ m⟩
    · rw [List.mem_singleton] at hz
      subst hz
      exact ⟨d + 1, Nat.le_refl _, by simp⟩
/-- within a level: more was found, those of xs are done, of x those of ys -/
structure Li (nb : α → α → Prop) (s : α) (D : List (α × Nat)) (E : List α) (m : Nat) (M : List α) (xs : List α) (x : α) (ys : List α) : Prop where
  nd : (D.map (·.1)).Nodup
  st : (s, 0) ∈ D
  wk : ∀ x d, (x, d) ∈ D → W nb s d x
  hi : ∀ r ∈ D, r.2 ≤ m + 1
  ed : ∀ x, x ∈ E ↔ (x, m) ∈ D
  mo : ∀ x, x ∈ M ↔ (x, m + 1) ∈ D
  cl : ∀ x d y, d < m → (x, d) ∈ D → nb x y → ∃ e, e ≤ d + 1 ∧ (y, e) ∈ D
  xs : ∀ x ∈ xs, ∀ y, nb x y → y ∈ D.map (·.1)
  ys : ∀ y ∈ ys, nb x y → y ∈ D.map (·.1)
theorem Li.old {D : List (α × Nat)} {E M : List α} {m : Nat} {xs ys : List α} (h : Li nb s D E m M xs x ys) (q : nb x y → y ∈ D.map (·.1)) : Li nb s D E m M xs x (ys ++ [y]) := ⟨h.nd, h.st, h.wk, h.hi, h.ed, h.mo, h.cl, h.xs, fun z hz => by
  rcases List.mem_append.mp hz with hz | hz
  · exact h.ys z hz
  · rw [List.mem_singleton] at hz
    subst hz
    exact q⟩
theorem Li.new {D : List (α × Nat)} {E M : List α} {m : Nat} {xs ys : List α} (h : Li nb s D E m M xs x ys) (hx : x ∈ E) (q : y ∉ D.map (·.1)) (e : nb x y) : Li nb s (D ++ [(y, m + 1)]) E m (M ++ [y]) xs x (ys ++ [y]) := by
  have up : ∀ z, z ∈ D.map (·.1) → z ∈ (D ++ [(y, m + 1)]).map (·.1) := fun z hz => by rw [List.map_append]; exact List.mem_append_left _ hz
  refine ⟨?_, List.mem_append_left _ h.st, fun z c hz => ?_, fun r hr => ?_, fun z => ?_, fun z => ?_, fun z c u hc hz hn => ?_, fun z hz u hu => up _ (h.xs z hz u hu), fun z hz hu => ?_⟩
  · rw [List.map_append, List.nodup_append]
    refine ⟨h.nd, by simp, fun a ha b hb => ?_⟩
    simp only [List.map_cons, List.map_nil, List.mem_singleton] at hb
    subst hb
    exact fun z => q (z ▸ ha)
  · rcases List.mem_append.mp hz with hz | hz
    · exact h.wk _ _ hz
    · rw [List.mem_singleton] at hz
      cases hz
      exact (h.wk _ _ ((h.ed x).mp hx)).snoc e
  · rcases List.mem_append.mp hr with hr | hr
    · exact h.hi r hr
    · rw [List.mem_singleton] at hr
      subst hr
      exact Nat.le_refl _
  · rw [h.ed z, List.mem_append, List.mem_singleton]
    exact ⟨.inl, fun g => g.elim id fun z => by cases z⟩
  · rw [List.mem_append, h.mo z, List.mem_append, List.mem_singleton, List.mem_singleton]
    exact ⟨fun g => g.imp id fun z => by rw [z], fun g => g.imp id fun z => (Prod.mk.inj z).1⟩
  · rcases List.mem_append.mp hz with hz | hz
    · obtain ⟨c', l, m⟩ := h.cl z c u hc hz hn
      exact ⟨c', l, List.mem_append_left _ m⟩
    · rw [List.mem_singleton] at hz
      cases hz
      omega
  · rcases List.mem_append.mp hz with hz | hz
    · exact up _ (h.ys z hz hu)
    · rw [List.mem_singleton] at hz
      subst hz
      simp
theorem Li.next {D : List (α × Nat)} {E M : List α} {m : Nat} {xs ys : List α} (h : Li nb s D E m M xs x ys) (all : ∀ y, nb x y → y ∈ ys) (x' : α) : Li nb s D E m M (xs ++ [x]) x' [] := ⟨h.nd, h.st, h.wk, h.hi, h.ed, h.mo, h.cl, fun z hz u hu => by
  rcases List.mem_append.mp hz with hz | hz
  · exact h.xs z hz u hu
  · rw [List.mem_singleton] at hz
    subst hz
    exact h.ys u (all u hu) hu, fun _ h => nomatch h⟩
end
end Bf
namespace K13
open PySem PySem.Spec PyProof.Rows L2 G Th AL
open K37 (common_divisor_ common_divisor_B ratio_ ratio_B less_ less_B parted_ parted_B drift_of_ drift_of_B moves_into_ moves_into_B history_moves_ history_moves_B)
open K08 (feedL_ feedL_B drawL_ drawL_B divisorL_ divisorL_B madeL_ madeL_B sumL_ sumL_B fieldL_ fieldL_B fitsL_ fitsL_B deedsL_ deedsL_B sceneL_ sceneL_B)
noncomputable def relay_from_B : SF := (sSeq (sAsg (.nm 3) (eDsp (aCons (eV 1) (aCons (eC .non) aNil))))
    (sSeq (sFor (.tp [(.nm 5), (.nm 6)]) (iEn (aCons (eDef history_moves_ 1 (aCons (eV 0) aNil)) aNil)) (sFor (.tp [(.nm 7), (.nm 8)]) (iSeq (eV 6)) (sIf (eT (eB (gIn false) (eV 7) (eV 3))) (sSub gSetA (eV 3) (eV 5) (eV 7)) sNil)))
    (sSeq (sIf (eT (eB (gIn true) (eV 2) (eV 3))) (sRet (eC .non)) sNil)
    (sSeq (sAsg (.nm 4) (eLst (aCons (eV 2) aNil)))
    (sSeq (sWhile (eT (eB gNe (eB gIxA (eV 4) (eU gNeg (eC (.int 1)))) (eV 1))) (sExpr (eMt isL gApp (eV 4) (aCons (eB gIxA (eV 3) (eB gIxA (eV 4) (eU gNeg (eC (.int 1))))) aNil))))
    (sRet (eCall gTuple (aCons (eU gRev (eV 4)) aNil))))))))
noncomputable def relay_from_ : FA := runF 9 relay_from_B
noncomputable def is_numberL_B : SF := (sRet (eAnd (eU (gIsi "int") (eV 0)) (eNot (eU (gIsi "bool") (eV 0)))))
noncomputable def is_numberL_ : FA := runF 1 is_numberL_B
noncomputable def come_toL_B : SF := (sSeq (sAsg (.nm 2) (eDsp (aCons (eV 1) (aCons (eC (.bl true)) aNil))))
    (sSeq (sFor (.nm 3) (iRg2 (aCons (eB gAdd (eV 1) (eC (.int 1))) (aCons (eCall gLen (aCons (eV 0) aNil)) aNil))) (sSeq (sIf (bAnd (eT (eB gEq (eB gIxA (eB gIxA (eB gIxA (eV 0) (eV 3)) (eC (.int 2))) (eC (.int 0))) (eC (.str "hear")))) (eT (eB (gIn false) (eB gIxA (eB gIxA (eB gIxA (eV 0) (eV 3)) (eC (.int 2))) (eC (.int 1))) (eV 2)))) (sSub gSetA (eV 2) (eV 3) (eC (.bl true))) sNil)
    (sIf (eT (eB gNe (eLc (.nm 4) (iRg2 (aCons (eV 1) (aCons (eV 3) aNil))) (bAnd (eT (eB (gIn false) (eV 4) (eV 2))) (eT (eB gEq (eB gIxA (eB gIxA (eV 0) (eV 4)) (eC (.int 0))) (eB gIxA (eB gIxA (eV 0) (eV 3)) (eC (.int 0)))))) (eV 4) [4]) (eLst aNil))) (sSub gSetA (eV 2) (eV 3) (eC (.bl true))) sNil)))
    (sRet (eV 2))))
noncomputable def come_toL_ : FA := runF 5 come_toL_B
noncomputable def is_relayL_B : SF := (sSeq (sIf (bOr (bNot (eT (eU (gIsi "tuple") (eV 1)))) (bOr (eT (eB gEq (eV 1) (eTup aNil))) (eT (eB gNe (eLc (.nm 5) (iSeq (eV 1)) (bNot (eT (eDef is_numberL_ 1 (aCons (eV 5) aNil)))) (eV 5) [5]) (eLst aNil))))) (sRet (eC (.bl false))) sNil)
    (sSeq (sIf (bOr (eT (eB gNe (eB gIxA (eV 1) (eC (.int 0))) (eV 2))) (bOr (eT (eB gNe (eB gIxA (eV 1) (eU gNeg (eC (.int 1)))) (eV 3))) (eT (eB gNe (eLc (.nm 5) (iSeq (eV 1)) (eT (eNRg (eV 5) (aCons (eCall gLen (aCons (eV 0) aNil)) aNil))) (eV 5) [5]) (eLst aNil))))) (sRet (eC (.bl false))) sNil)
    (sSeq (sFor (.nm 4) (iRg2 (aCons (eC (.int 1)) (aCons (eCall gLen (aCons (eV 1) aNil)) aNil))) (sSeq (sPar [5, 6] (aCons (eB gIxA (eV 1) (eB gSub (eV 4) (eC (.int 1)))) (aCons (eB gIxA (eV 1) (eV 4)) aNil)))
    (sIf (bAnd (eT (eB gNe (eB gIxA (eB gIxA (eV 0) (eV 6)) (eC (.int 2))) (eTup (aCons (eC (.str "hear")) (aCons (eV 5) aNil))))) (bNot (bAnd (eT (eB gLt (eV 5) (eV 6))) (eT (eB gEq (eB gIxA (eB gIxA (eV 0) (eV 5)) (eC (.int 0))) (eB gIxA (eB gIxA (eV 0) (eV 6)) (eC (.int 0)))))))) (sRet (eC (.bl false))) sNil)))
    (sRet (eC (.bl true))))))
noncomputable def is_relayL_ : FA := runF 7 is_relayL_B
noncomputable def law_B : SF := (sSeq (sAsg (.nm 1) (eDef feedL_ 1 (aCons (eV 0) aNil)))
    (sSeq (sFor (.nm 2) (iRg1 (aCons (eC (.int 2)) aNil)) (sSeq (sAsg (.nm 3) (eB gIxA (eDef sceneL_ 2 (aCons (eV 1) (aCons (eC (.int 30)) aNil))) (eC (.int 0))))
    (sSeq (sPar [6, 7] (aCons (eB gIxA (eV 3) (eC (.int 1))) (aCons (eCall gRepr (aCons (eV 3) aNil)) aNil)))
    (sSeq (sAsg (.nm 4) (eLst aNil))
    (sSeq (sFor (.nm 5) (iRg1 (aCons (eCall gLen (aCons (eV 6) aNil)) aNil)) (sExpr (eMt isL gExt (eV 4) (aCons (eLc (.nm 8) (iRg1 (aCons (eCall gLen (aCons (eV 6) aNil)) aNil)) bYes (eTup (aCons (eV 5) (aCons (eV 8) aNil))) [8]) aNil))))
    (sSeq (sIf (eT (eB gGt (eCall gLen (aCons (eV 4) aNil)) (eC (.int 60)))) (sAsg (.nm 4) (eB gAdd (eLc (.nm 10) (iRg1 (aCons (eC (.int 10)) aNil)) bYes (eB gIxA (eV 4) (eDef drawL_ 2 (aCons (eV 1) (aCons (eCall gLen (aCons (eV 4) aNil)) aNil)))) [10]) (eLst (aCons (eTup (aCons (eC (.int 0)) (aCons (eC (.int 0)) aNil))) (aCons (eTup (aCons (eC (.int 0)) (aCons (eB gSub (eCall gLen (aCons (eV 6) aNil)) (eC (.int 1))) aNil))) aNil))))) sNil)
    (sSeq (sFor (.tp [(.nm 5), (.nm 8)]) (iSeq (eV 4)) (sSeq (sAsg (.nm 9) (eDef relay_from_ 3 (aCons (eV 3) (aCons (eV 5) (aCons (eV 8) aNil)))))
    (sIf (eT (eB (gIn true) (eV 8) (eDef come_toL_ 2 (aCons (eV 6) (aCons (eV 5) aNil))))) (sIf (eT (eB gIsN (eV 9) (eC .non))) (sRet (eC (.bl false))) sNil) (sIf (bNot (eT (eDef is_relayL_ 4 (aCons (eV 6) (aCons (eV 9) (aCons (eV 5) (aCons (eV 8) aNil))))))) (sRet (eC (.bl false))) sNil))))
    (sIf (eT (eB gNe (eCall gRepr (aCons (eV 3) aNil)) (eV 7))) (sRet (eC (.bl false))) sNil))))))))
    (sRet (eC (.bl true)))))
noncomputable def law_ : FA := runF 11 law_B
end K13
namespace K13
open PySem PySem.Spec PyProof.Rows L2 G Th AL K37 KL Fr
open K08 (F8 Sc wAt)
end K13
namespace K60
open PySem PySem.Spec PyProof.Rows L2 G Th AL KL Fr Od Bf
open K57 (other_ends_ other_ends_B own_best_ own_best_B feedL_ feedL_B drawL_ drawL_B netL_ netL_B some_wiresL_ some_wiresL_B keyL_ keyL_B endsL_ endsL_B)
open K57 (wireV Mb mbV Net netV pool WOk NOk NmOk endsL ends oes oes_perm mem_endsL other_wp endsL_wp keyV mkey own own_wp bsV keyL_wp vInL vInD vDictN pairs_map val_map nd_inr nd_len tl tl_inj sortS_perm sortS_pw sortS_eq sortS_of_perm oes_in oes_nd)
open K37 (fmod_lt p60 p40 p62 TxOk Sh ShL valA_put putA_len merge_app)
open K08 (ws_cut)
def nbl (ws : List (Str × Str)) (up : List Str) (x : Str) : List Str := (oes ws x).filter fun y => decide (y ∈ up)
/-- names that are up, wires that are the net's -/
structure UOk (n : Net) (up : List Str) (ws : List (Str × Str)) : Prop where
  sub : up.Sublist n.names
  w : WOk n.names ws
section
variable {n : Net} {up : List Str} {ws : List (Str × Str)} {S : Sto} {x y s : Str}
theorem UOk.nd (hn : NOk n) (u : UOk n up ws) : up.Nodup := u.sub.nodup hn.nd
theorem UOk.len (hn : NOk n) (u : UOk n up ws) : up.length ≤ 8 := by
  have := u.sub.length_le
  have h := hn.len
  unfold Net.names at this
  rw [List.length_map] at this
  omega
theorem UOk.nm (hn : NOk n) (u : UOk n up ws) (h : x ∈ up) : NmOk x := hn.nm (u.sub.subset h)
/-- who is near whom, as a dict of lists -/
structure Nr (S : Sto) (d : Nat) (ws : List (Str × Str)) (up : List Str) : Prop where
  dic : ∃ kvs, S[d]? = some (.dic kvs) ∧ ∀ x ∈ up, ∃ r, valA kvs (.inr x) = some (.ref r) ∧ S[r]? = some (.lst ((K60.nbl ws up x).map .str))
theorem Nr.kn {T : Sto} {d : Nat} (h : Nr S d ws up) (k : Kn S T) : Nr T d ws up := by
  obtain ⟨kvs, h1, h2⟩ := h.dic
  refine ⟨kvs, k _ _ h1, fun x hx => ?_⟩
  obtain ⟨r, e, g⟩ := h2 x hx
  exact ⟨r, e, k _ _ g⟩
end
end K60
namespace K47
open PySem PySem.Spec PyProof.Rows L2 G Th AL
open K37 (common_divisor_ common_divisor_B ratio_ ratio_B added_ added_B added_told_ added_told_B less_ less_B parted_ parted_B is_below_ is_below_B least_of_ least_of_B greatest_of_ greatest_of_B drift_of_ drift_of_B moves_into_ moves_into_B history_moves_ history_moves_B moved_end_ moved_end_B ends_told_ ends_told_B kept_pair_ kept_pair_B kept_pairs_ kept_pairs_B tapeL_ tapeL_B drawL_ drawL_B lowL_ lowL_B plusL_ plusL_B minusL_ minusL_B byL_ byL_B is_lessL_ is_lessL_B fieldL_ fieldL_B can_hearL_ can_hearL_B deedL_ deedL_B livedL_ livedL_B)
noncomputable def is_in_B : SF := (sSeq (sAsg (.tp [(.nm 2), (.nm 3)]) (eV 0))
    (sSeq (sIf (bAnd (eT (eB gIsN (eV 2) (eC .non))) (eT (eDef is_below_ 2 (aCons (eV 1) (aCons (eV 2) aNil))))) (sRet (eC (.bl false))) sNil)
    (sRet (eOr (eB gIs (eV 3) (eC .non)) (eNot (eDef is_below_ 2 (aCons (eV 3) (aCons (eV 1) aNil))))))))
noncomputable def is_in_ : FA := runF 4 is_in_B
noncomputable def numbers_in_B : SF := (sRet (eCall gTuple (aCons (eLc (.tp [(.nm 2), (.nm 3)]) (iEn (aCons (eV 0) aNil)) (eT (eDef is_in_ 2 (aCons (eV 3) (aCons (eV 1) aNil)))) (eV 2) [2, 3]) aNil)))
noncomputable def numbers_in_ : FA := runF 4 numbers_in_B
noncomputable def count_in_B : SF := (sRet (eCall gLen (aCons (eDef numbers_in_ 2 (aCons (eV 0) (aCons (eV 1) aNil))) aNil)))
noncomputable def count_in_ : FA := runF 2 count_in_B
noncomputable def many_open_B : SF := (sRet (eCall gLen (aCons (eLc (.nm 2) (iSeq (eV 0)) (eT (eB gIs (eB gIxA (eV 2) (eV 1)) (eC .non))) (eV 2) [2]) aNil)))
noncomputable def many_open_ : FA := runF 3 many_open_B
noncomputable def ends_of_B : SF := (sRet (eLc (.nm 2) (iSeq (eV 0)) (eT (eB gIsN (eB gIxA (eV 2) (eV 1)) (eC .non))) (eB gIxA (eV 2) (eV 1)) [2]))
noncomputable def ends_of_ : FA := runF 3 ends_of_B
noncomputable def most_in_B : SF := (sRet (eCall gMaxA (aCons (eB gAdd (eLst (aCons (eDef many_open_ 2 (aCons (eV 0) (aCons (eC (.int 0)) aNil))) aNil)) (eLc (.nm 1) (iSeq (eDef ends_of_ 2 (aCons (eV 0) (aCons (eC (.int 0)) aNil)))) bYes (eDef count_in_ 2 (aCons (eV 0) (aCons (eV 1) aNil))) [1])) aNil)))
noncomputable def most_in_ : FA := runF 2 most_in_B
noncomputable def ends_held_B : SF := (sRet (eLc (.nm 3) (iSeq (eDef ends_of_ 2 (aCons (eV 0) (aCons (eV 2) aNil)))) (eT (eB gGe (eDef count_in_ 2 (aCons (eV 0) (aCons (eV 3) aNil))) (eV 1))) (eV 3) [3]))
noncomputable def ends_held_ : FA := runF 4 ends_held_B
noncomputable def by_majority_B : SF := (sSeq (sAsg (.nm 2) (eDef most_in_ 1 (aCons (eV 0) aNil)))
    (sSeq (sAsg (.nm 3) (eB gSub (eCall gLen (aCons (eV 0) aNil)) (eV 1)))
    (sSeq (sIf (eT (eB gLt (eV 2) (eV 3))) sStuck sNil)
    (sSeq (sAsg (.nm 4) (eIf (eT (eB gGe (eDef many_open_ 2 (aCons (eV 0) (aCons (eC (.int 0)) aNil))) (eV 3))) (eC .non) (eDef least_of_ 1 (aCons (eDef ends_held_ 3 (aCons (eV 0) (aCons (eV 3) (aCons (eC (.int 0)) aNil)))) aNil))))
    (sSeq (sAsg (.nm 5) (eIf (eT (eB gGe (eDef many_open_ 2 (aCons (eV 0) (aCons (eC (.int 1)) aNil))) (eV 3))) (eC .non) (eDef greatest_of_ 1 (aCons (eDef ends_held_ 3 (aCons (eV 0) (aCons (eV 3) (aCons (eC (.int 1)) aNil)))) aNil))))
    (sRet (eTup (aCons (eV 4) (aCons (eV 5) aNil)))))))))
noncomputable def by_majority_ : FA := runF 6 by_majority_B
noncomputable def pointL_B : SF := (sRet (eDef lowL_ 2 (aCons (eB gSub (eDef drawL_ 2 (aCons (eV 0) (aCons (eC (.int 41)) aNil))) (eC (.int 20))) (aCons (eB gIxA (eLst (aCons (eC (.int 1)) (aCons (eC (.int 1)) (aCons (eC (.int 2)) (aCons (eC (.int 3)) aNil))))) (eDef drawL_ 2 (aCons (eV 0) (aCons (eC (.int 4)) aNil)))) aNil))))
noncomputable def pointL_ : FA := runF 1 pointL_B
noncomputable def spansL_B : SF := (sSeq (sAsg (.nm 2) (eLst aNil))
    (sSeq (sFor (.nm 3) (iRg1 (aCons (eDef drawL_ 2 (aCons (eV 0) (aCons (eB gAdd (eV 1) (eC (.int 1))) aNil))) aNil)) (sSeq (sPar [5, 6] (aCons (eDef pointL_ 1 (aCons (eV 0) aNil)) (aCons (eDef lowL_ 2 (aCons (eDef drawL_ 2 (aCons (eV 0) (aCons (eC (.int 13)) aNil))) (aCons (eB gAdd (eC (.int 1)) (eDef drawL_ 2 (aCons (eV 0) (aCons (eC (.int 2)) aNil)))) aNil))) aNil)))
    (sSeq (sAsg (.nm 4) (eIf (eT (eB gGt (eDef drawL_ 2 (aCons (eV 0) (aCons (eC (.int 8)) aNil))) (eC (.int 0)))) (eDef plusL_ 2 (aCons (eV 5) (aCons (eV 6) aNil))) (eDef minusL_ 2 (aCons (eV 5) (aCons (eV 6) aNil)))))
    (sSeq (sPar [5, 4] (aCons (eB gIxA (eLst (aCons (eV 5) (aCons (eV 5) (aCons (eV 5) (aCons (eV 5) (aCons (eC .non) aNil)))))) (eDef drawL_ 2 (aCons (eV 0) (aCons (eC (.int 5)) aNil)))) (aCons (eB gIxA (eLst (aCons (eV 4) (aCons (eV 4) (aCons (eV 4) (aCons (eV 4) (aCons (eC .non) aNil)))))) (eDef drawL_ 2 (aCons (eV 0) (aCons (eC (.int 5)) aNil)))) aNil)))
    (sExpr (eMt isL gApp (eV 2) (aCons (eTup (aCons (eV 5) (aCons (eV 4) aNil))) aNil)))))))
    (sRet (eCall gTuple (aCons (eV 2) aNil)))))
noncomputable def spansL_ : FA := runF 7 spansL_B
noncomputable def is_inL_B : SF := (sSeq (sAsg (.tp [(.nm 2), (.nm 3)]) (eV 0))
    (sRet (eAnd (eOr (eB gIs (eV 2) (eC .non)) (eNot (eDef is_lessL_ 2 (aCons (eV 1) (aCons (eV 2) aNil))))) (eOr (eB gIs (eV 3) (eC .non)) (eNot (eDef is_lessL_ 2 (aCons (eV 3) (aCons (eV 1) aNil))))))))
noncomputable def is_inL_ : FA := runF 4 is_inL_B
noncomputable def is_widerL_B : SF := (sSeq (sIf (bAnd (eT (eB gIsN (eB gIxA (eV 0) (eC (.int 0))) (eC .non))) (bOr (eT (eB gIs (eB gIxA (eV 1) (eC (.int 0))) (eC .non))) (eT (eDef is_lessL_ 2 (aCons (eB gIxA (eV 1) (eC (.int 0))) (aCons (eB gIxA (eV 0) (eC (.int 0))) aNil)))))) (sRet (eC (.bl false))) sNil)
    (sRet (eOr (eB gIs (eB gIxA (eV 0) (eC (.int 1))) (eC .non)) (eAnd (eB gIsN (eB gIxA (eV 1) (eC (.int 1))) (eC .non)) (eNot (eDef is_lessL_ 2 (aCons (eB gIxA (eV 0) (eC (.int 1))) (aCons (eB gIxA (eV 1) (eC (.int 1))) aNil))))))))
noncomputable def is_widerL_ : FA := runF 2 is_widerL_B
noncomputable def true_spansL_B : SF := (sSeq (sAsg (.nm 3) (eLst aNil))
    (sSeq (sFor (.nm 4) (iRg1 (aCons (eV 2) aNil)) (sSeq (sAsg (.nm 5) (eDef minusL_ 2 (aCons (eV 1) (aCons (eDef lowL_ 2 (aCons (eDef drawL_ 2 (aCons (eV 0) (aCons (eC (.int 9)) aNil))) (aCons (eC (.int 2)) aNil))) aNil))))
    (sSeq (sAsg (.nm 6) (eDef plusL_ 2 (aCons (eV 1) (aCons (eDef lowL_ 2 (aCons (eDef drawL_ 2 (aCons (eV 0) (aCons (eC (.int 9)) aNil))) (aCons (eC (.int 2)) aNil))) aNil))))
    (sSeq (sAsg (.nm 5) (eB gIxA (eLst (aCons (eV 5) (aCons (eV 5) (aCons (eV 5) (aCons (eC .non) aNil))))) (eDef drawL_ 2 (aCons (eV 0) (aCons (eC (.int 4)) aNil)))))
    (sExpr (eMt isL gApp (eV 3) (aCons (eTup (aCons (eV 5) (aCons (eB gIxA (eLst (aCons (eV 6) (aCons (eV 6) (aCons (eV 6) (aCons (eC .non) aNil))))) (eDef drawL_ 2 (aCons (eV 0) (aCons (eC (.int 4)) aNil)))) aNil))) aNil)))))))
    (sRet (eV 3))))
noncomputable def true_spansL_ : FA := runF 7 true_spansL_B
noncomputable def betweenL_B : SF := (sSeq (sPar [2, 3] (aCons (eLc (.nm 4) (iSeq (eV 1)) bYes (eB gIxA (eV 4) (eC (.int 0))) [4]) (aCons (eLc (.nm 4) (iSeq (eV 1)) bYes (eB gIxA (eV 4) (eC (.int 1))) [4]) aNil)))
    (sSeq (sIf (eT (eB (gInD true) (eC .non) (eV 2))) (sSeq (sIf (eT (eB gIs (eB gIxA (eV 0) (eC (.int 0))) (eC .non))) (sRet (eC (.bl false))) sNil)
    (sIf (eT (eB gEq (eLc (.nm 5) (iSeq (eV 2)) (bNot (eT (eDef is_lessL_ 2 (aCons (eB gIxA (eV 0) (eC (.int 0))) (aCons (eV 5) aNil))))) (eV 5) [5]) (eLst aNil))) (sRet (eC (.bl false))) sNil)) sNil)
    (sSeq (sIf (eT (eB (gInD false) (eC .non) (eV 3))) (sRet (eC (.bl true))) sNil)
    (sRet (eAnd (eB gIsN (eB gIxA (eV 0) (eC (.int 1))) (eC .non)) (eB gNe (eLc (.nm 6) (iSeq (eV 3)) (bNot (eT (eDef is_lessL_ 2 (aCons (eV 6) (aCons (eB gIxA (eV 0) (eC (.int 1))) aNil))))) (eV 6) [6]) (eLst aNil)))))))
noncomputable def betweenL_ : FA := runF 7 betweenL_B
noncomputable def rightL_B : SF := (sSeq (sAsg (.tp [(.nm 4), (.nm 7)]) (eTup (aCons (eLst aNil) (aCons (eB gAdd (eV 2) (eV 3)) aNil))))
    (sSeq (sWhile (eT (eB gNe (eV 7) (eLst aNil))) (sExpr (eMt isL gApp (eV 4) (aCons (eMt isL gPop (eV 7) (aCons (eDef drawL_ 2 (aCons (eV 0) (aCons (eCall gLen (aCons (eV 7) aNil)) aNil))) aNil)) aNil))))
    (sSeq (sAsg (.nm 4) (eCall gTuple (aCons (eV 4) aNil)))
    (sSeq (sAsg (.nm 5) (eC .non))
    (sSeq (sFor (.nm 6) (iRg2 (aCons (eCall gLen (aCons (eV 3) aNil)) (aCons (eB gAdd (eCall gLen (aCons (eV 4) aNil)) (eC (.int 1))) aNil))) (sSeq (sAsg (.nm 8) (eDefK by_majority_ 1 1 (fun as bs => as ++ bs) (aCons (eV 4) aNil) (aCons (eV 6) aNil)))
    (sSeq (sIf (bNot (eT (eDef is_inL_ 2 (aCons (eV 8) (aCons (eV 1) aNil))))) (sRet (eC (.bl false))) sNil)
    (sSeq (sIf (bAnd (eT (eB gIsN (eV 5) (eC .non))) (bNot (eT (eDef is_widerL_ 2 (aCons (eV 8) (aCons (eV 5) aNil)))))) (sRet (eC (.bl false))) sNil)
    (sSeq (sAsg (.nm 9) (eB gSub (eCall gLen (aCons (eV 4) aNil)) (eV 6)))
    (sSeq (sIf (eT (eB gNe (eLc (.nm 10) (iSeq (eV 8)) (bAnd (eT (eB gIsN (eV 10) (eC .non))) (eT (eB gLt (eDef count_in_ 2 (aCons (eV 4) (aCons (eV 10) aNil))) (eV 9)))) (eV 10) [10]) (eLst aNil))) (sRet (eC (.bl false))) sNil)
    (sSeq (sIf (bAnd (eT (eB gLt (eB gMul (eC (.int 2)) (eV 6)) (eCall gLen (aCons (eV 4) aNil)))) (eT (eB gEq (eV 6) (eCall gLen (aCons (eV 3) aNil))))) (sIf (bNot (eT (eDef betweenL_ 2 (aCons (eV 8) (aCons (eV 2) aNil))))) (sRet (eC (.bl false))) sNil) sNil)
    (sAsg (.nm 5) (eV 8)))))))))
    (sRet (eC (.bl true))))))))
noncomputable def rightL_ : FA := runF 11 rightL_B
noncomputable def law_B : SF := (sSeq (sAsg (.nm 1) (eDef tapeL_ 1 (aCons (eV 0) aNil)))
    (sSeq (sFor (.nm 2) (iRg1 (aCons (eC (.int 3)) aNil)) (sSeq (sPar [12, 13] (aCons (eDef pointL_ 1 (aCons (eV 1) aNil)) (aCons (eB gAdd (eC (.int 3)) (eDef drawL_ 2 (aCons (eV 1) (aCons (eC (.int 7)) aNil)))) aNil)))
    (sSeq (sAsg (.nm 5) (eDef drawL_ 2 (aCons (eV 1) (aCons (eV 13) aNil))))
    (sSeq (sAsg (.nm 6) (eSl gSl (eCall gList (aCons (eDef spansL_ 2 (aCons (eV 1) (aCons (eC (.int 9)) aNil))) aNil)) oN (oS (eV 5))))
    (sSeq (sAsg (.nm 7) (eDef true_spansL_ 3 (aCons (eV 1) (aCons (eV 12) (aCons (eB gSub (eV 13) (eCall gLen (aCons (eV 6) aNil))) aNil)))))
    (sIf (bNot (eT (eDef rightL_ 4 (aCons (eV 1) (aCons (eV 12) (aCons (eV 7) (aCons (eV 6) aNil))))))) (sRet (eC (.bl false))) sNil))))))
    (sSeq (sAsg (.tp [(.nm 8), (.nm 9)]) (eDef livedL_ 3 (aCons (eV 1) (aCons (eDef fieldL_ 1 (aCons (eV 1) aNil)) (aCons (eC (.int 20)) aNil)))))
    (sSeq (sAsg (.nm 3) (eDef kept_pairs_ 1 (aCons (eV 8) aNil)))
    (sSeq (sFor (.nm 4) (iRg1 (aCons (eC (.int 20)) aNil)) (sSeq (sAsg (.nm 10) (eTup (aCons (eB gIxA (eV 3) (eV 4)) (aCons (eB gIxA (eV 3) (eV 4)) (aCons (eTup (aCons (eTup (aCons (eC (.int 90)) (aCons (eC (.int 1)) aNil))) (aCons (eTup (aCons (eC (.int 99)) (aCons (eC (.int 1)) aNil))) aNil))) aNil)))))
    (sSeq (sAsg (.nm 11) (eC .non))
    (sSeq (sAsg (.nm 11) (eDefK by_majority_ 1 1 (fun as bs => as ++ bs) (aCons (eV 10) aNil) (aCons (eC (.int 1)) aNil)))
    (sIf (bOr (eT (eB gIs (eV 11) (eC .non))) (bNot (eT (eDef is_inL_ 2 (aCons (eV 11) (aCons (eB gIxA (eV 9) (eV 4)) aNil)))))) (sRet (eC (.bl false))) sNil)))))
    (sRet (eC (.bl true))))))))
noncomputable def law_ : FA := runF 14 law_B
end K47
namespace K47
open PySem PySem.Spec PyProof.Rows L2 G Th AL K37 KL Fr
def lowOk (p : Pr) (x : Fq) : Bool := match p.1 with
  | none => true
  | some l => !decide (x.1 * l.2 < l.1 * x.2)
def highOk (p : Pr) (x : Fq) : Bool := match p.2 with
  | none => true
  | some h => !decide (h.1 * x.2 < x.1 * h.2)
def isIn (p : Pr) (x : Fq) : Bool := lowOk p x && highOk p x
structure SpOk (p : Pr) : Prop where
  lo : ∀ l, p.1 = some l → Bd l
  hi : ∀ h, p.2 = some h → Bd h
theorem is_in_wp {p : Pr} {x : Fq} {S : Sto} (ok : SpOk p) (hx : Bd x) : Wp (is_in_ [prV p, frV x] S) fun v T => v = .bl (isIn p x) ∧ S = T := by
  obtain ⟨lo, hi⟩ := p
  unfold isIn lowOk highOk
  refine AL.wf ?_; simp only [List.map_cons, List.map_nil, List.length_cons, List.length_nil, Nat.reduceAdd, Nat.reduceSub, List.replicate_succ, List.replicate_zero, List.cons_append, List.nil_append]; unfold is_in_B; array_get_dec
  cases lo with
  | none =>
    array_get_dec
    cases hi with
    | none =>
      array_get_dec
      exact ⟨rfl, rfl⟩
    | some h =>
      array_get_dec
      refine Wp.of (is_below_eq (ok.hi h rfl) hx) ?_
      array_get_dec
      exact ⟨by simp, rfl⟩
  | some l =>
    array_get_dec
    refine Wp.of (is_below_eq hx (ok.lo l rfl)) ?_
    array_get_dec
    refine Br.of (fun c => ?_) (fun c => ?_)
    · array_get_dec
      have c : x.1 * l.2 < l.1 * x.2 := of_decide_eq_true c
      exact ⟨by simp [c], rfl⟩
    · have c : ¬ x.1 * l.2 < l.1 * x.2 := of_decide_eq_false c
      array_get_dec
      cases hi with
      | none =>
        array_get_dec
        exact ⟨by simp [c], rfl⟩
      | some h =>
        array_get_dec
        refine Wp.of (is_below_eq (ok.hi h rfl) hx) ?_
        array_get_dec
        exact ⟨by simp [c], rfl⟩
def count (ps : List Pr) (x : Fq) : Nat := (ps.filter fun p => isIn p x).length
def opens (b : Bool) (ps : List Pr) : Nat := (ps.filter fun p => (sel b p).isNone).length
theorem count_wp {ps : List Pr} {x : Fq} {S : Sto} (ok : ∀ p ∈ ps, SpOk p) (hx : Bd x) (hl : ps.length ≤ 1000) : Wp (count_in_ [.tup (ps.map prV), frV x] S) fun v T => v = .int (count ps x : Nat) ∧ Kn S T := by
  refine AL.wf ?_; simp only [List.map_cons, List.map_nil, List.length_cons, List.length_nil, Nat.reduceAdd, Nat.reduceSub, List.replicate_succ, List.replicate_zero, List.cons_append, List.nil_append]; unfold count_in_B; array_get_dec
  have go : Wp (numbers_in_ [.tup (ps.map prV), frV x] S) fun v T => ∃ vs : List Val, v = .tup vs ∧ vs.length = count ps x ∧ Kn S T := by
    refine AL.wf ?_; simp only [List.map_cons, List.map_nil, List.length_cons, List.length_nil, Nat.reduceAdd, Nat.reduceSub, List.replicate_succ, List.replicate_zero, List.cons_append, List.nil_append]; unfold numbers_in_B; array_get_dec
    refine .inl ⟨_, rfl, ?_⟩
    refine lc_inv (fun i a T => a.length = count (ps.take i) x ∧ S = T) (by simp [enumV]; omega) ⟨rfl, rfl⟩ (fun _ _ _ _ _ => trivial) (fun i a T ⟨e, _⟩ => by rw [e]; unfold count; exact Nat.le_trans (List.length_filter_le _ _) (by rw [List.length_take]; omega)) ?_ ?_
    · rintro i v a _ hv ⟨e, rfl⟩
      obtain ⟨u, hu, rfl⟩ := enumV_get hv
      rw [List.getElem?_map] at hu
      obtain ⟨p, hp, rfl⟩ := Option.map_eq_some_iff.mp hu
      have nx : count (ps.take (i + 1)) x = count (ps.take i) x + (if isIn p x then 1 else 0) := by
        unfold count
        rw [List.take_add_one, hp, List.filter_append, List.length_append]
        cases h : isIn p x <;> simp [h]
      refine bn rfl ?_
      array_get_dec
      refine (is_in_wp (ok p (List.mem_of_getElem? hp)) hx).imp ?_
      rintro _ _ ⟨rfl, rfl⟩
      array_get_dec
      refine Br.of (fun c => ?_) (fun c => ?_)
      · array_get_dec
        exact ⟨by rw [nx, c, List.length_append, e]; rfl, rfl⟩
      · exact ⟨by rw [nx, c, e]; rfl, rfl⟩
    · rintro a _ ⟨e, rfl⟩
      rw [show (enumV (ps.map prV)).length = ps.length by simp [enumV], List.take_length] at e
      intro T1 r1 e_r1 l_T1 g_r1 k_T1
      array_get_dec
      exact ⟨a, rfl, e, k_T1⟩
  refine go.imp ?_
  rintro _ T ⟨vs, rfl, e, k⟩
  array_get_dec
  rw [e]
  exact ⟨rfl, k⟩
def held (b : Bool) (ps : List Pr) (need : Int) : List Fq := (ps.filterMap (sel b)).filter fun e => decide (need ≤ (count ps e : Int))
def most (ps : List Pr) : Int := maxI (opens false ps : Nat) ((ps.filterMap (sel false)).map fun e => (count ps e : Int))
end K47
namespace K47
open PySem PySem.Spec PyProof.Rows L2 G Th AL K37 KL Fr
end K47
namespace K60
open PySem PySem.Spec PyProof.Rows L2 G Th AL KL Fr Od Bf
open K57 (other_ends_ other_ends_B own_best_ own_best_B feedL_ feedL_B drawL_ drawL_B netL_ netL_B some_wiresL_ some_wiresL_B keyL_ keyL_B endsL_ endsL_B)
open K57 (wireV Mb mbV Net netV pool WOk NOk NmOk endsL ends oes oes_perm mem_endsL other_wp endsL_wp keyV mkey own own_wp bsV keyL_wp vInL vInD vDictN pairs_map val_map nd_inr nd_len tl tl_inj sortS_perm sortS_pw sortS_eq sortS_of_perm oes_in oes_nd K2)
open K37 (fmod_lt p60 p40 p62 TxOk Sh ShL valA_put putA_len merge_app)
open K08 (ws_cut)


def dK (D : List (Str × Nat)) : List (Key × Val) := D.map fun p => (.inr p.1, .int ((p.2 : Nat) : Int))
end K60
namespace K60
open PySem PySem.Spec PyProof.Rows L2 G Th AL KL Fr Od Bf
open K57 (other_ends_ other_ends_B own_best_ own_best_B feedL_ feedL_B drawL_ drawL_B netL_ netL_B some_wiresL_ some_wiresL_B keyL_ keyL_B endsL_ endsL_B)
open K57 (wireV Mb mbV Net netV pool WOk NOk NmOk endsL ends oes oes_perm mem_endsL other_wp endsL_wp keyV mkey own own_wp bsV keyL_wp vInL vInD vDictN pairs_map val_map nd_inr nd_len tl tl_inj tl_asym sortS_perm sortS_pw sortS_eq sortS_of_perm oes_in oes_nd K2 vSortGS vSortGD vSortGT ok_sort keys_map lt_of_leS)
open K37 (fmod_lt p60 p40 p62 TxOk Sh ShL valA_put putA_len merge_app)
open K08 (ws_cut)
end K60
namespace AL
open PySem PySem.Spec PyProof.Rows L2 G Th K37 Od
mutual
inductive Tl (S : Sto) (Fo : Nat → Prop) (m : Nat) : Nat → Val → PyData → Prop
  | non {n : Nat} : Tl S Fo m n .non .none
  | bl {n : Nat} (b : Bool) : Tl S Fo m n (.bl b) (.bool b)
  | int {n : Nat} (i : Int) (h : i.natAbs ≤ m) : Tl S Fo m n (.int i) (.int i)
  | str {n : Nat} (x : Str) (h : PyData.strOk x = true) (l : x.cps.size ≤ 70) : Tl S Fo m n (.str x) (.str x)
  | tup {n : Nat} {vs : List Val} {ds : List PyData} (h : TlL S Fo m n vs ds) : Tl S Fo m (n + 1) (.tup vs) (.tuple ds)
  | lst {n r : Nat} {vs : List Val} {ds : List PyData} (f : Fo r) (g : S[r]? = some (.lst vs)) (h : TlL S Fo m n vs ds) : Tl S Fo m (n + 1) (.ref r) (.list ds)
inductive TlL (S : Sto) (Fo : Nat → Prop) (m : Nat) : Nat → List Val → List PyData → Prop
  | nil {n : Nat} : TlL S Fo m n [] []
  | cons {n : Nat} {v : Val} {vs : List Val} {d : PyData} {ds : List PyData} (h : Tl S Fo m n v d) (hs : TlL S Fo m n vs ds) : TlL S Fo m n (v :: vs) (d :: ds)
end
section
variable {S T : Sto} {Fo Fo' : Nat → Prop} {m m' : Nat}
mutual
theorem Tl.up {n : Nat} {v : Val} {d : PyData} (hm : m ≤ m') (k : ∀ r vs, Fo r → S[r]? = some (.lst vs) → Fo' r ∧ T[r]? = some (.lst vs)) : Tl S Fo m n v d → ∀ n', n ≤ n' → Tl T Fo' m' n' v d
  | .non, n', _ => .non
  | .bl b, n', _ => .bl b
  | .int i h, n', _ => .int i (by omega)
  | .str x h l, n', _ => .str x h l
  | .tup h, n', hn => by
    obtain ⟨j, rfl⟩ : ∃ j, n' = j + 1 := ⟨n' - 1, by omega⟩
    exact .tup (TlL.up hm k h j (by omega))
  | .lst f g h, n', hn => by
    obtain ⟨j, rfl⟩ : ∃ j, n' = j + 1 := ⟨n' - 1, by omega⟩
    obtain ⟨f', g'⟩ := k _ _ f g
    exact .lst f' g' (TlL.up hm k h j (by omega))
theorem TlL.up {n : Nat} {vs : List Val} {ds : List PyData} (hm : m ≤ m') (k : ∀ r vs, Fo r → S[r]? = some (.lst vs) → Fo' r ∧ T[r]? = some (.lst vs)) : TlL S Fo m n vs ds → ∀ n', n ≤ n' → TlL T Fo' m' n' vs ds
  | .nil, _, _ => .nil
  | .cons h hs, n', hn => .cons (Tl.up hm k h n' hn) (TlL.up hm k hs n' hn)
end
mutual
theorem Tl.toD {n : Nat} {v : Val} {d : PyData} : Tl S Fo m n v d → ∀ k, n < k → toD S k v = some d
  | .non, k + 1, _ => rfl
  | .bl b, k + 1, _ => rfl
  | .int i h, k + 1, _ => rfl
  | .str x h l, k + 1, _ => rfl
  | .tup h, k + 1, hk => by
    show (mapO (AL.toD S k) _).map PyData.tuple = _
    rw [TlL.toD h k (by omega)]
    rfl
  | .lst f g h, k + 1, hk => by
    rw [AL.toD]
    simp only [g, TlL.toD h k (by omega), Option.map_some]
theorem TlL.toD {n : Nat} {vs : List Val} {ds : List PyData} : TlL S Fo m n vs ds → ∀ k, n < k → mapO (AL.toD S k) vs = some ds
  | .nil, _, _ => rfl
  | .cons h hs, k, hk => by
    unfold mapO
    rw [Tl.toD h k hk, TlL.toD hs k hk]
    rfl
end
mutual
theorem Tl.ok {n : Nat} {v : Val} {d : PyData} (hm : m < 2 ^ 900) : Tl S Fo m n v d → okD d = true ∧ d.depth ≤ n
  | .non => ⟨rfl, by simp [PyData.depth]⟩
  | .bl b => ⟨rfl, by simp [PyData.depth]⟩
  | .int i h => ⟨decide_eq_true (by omega), by simp [PyData.depth]⟩
  | .str x h l => ⟨h, by simp [PyData.depth]⟩
  | .tup h => by
    obtain ⟨a, b⟩ := TlL.ok hm h
    exact ⟨a, by simp only [PyData.depth]; omega⟩
  | .lst f g h => by
    obtain ⟨a, b⟩ := TlL.ok hm h
    exact ⟨a, by simp only [PyData.depth]; omega⟩
theorem TlL.ok {n : Nat} {vs : List Val} {ds : List PyData} (hm : m < 2 ^ 900) : TlL S Fo m n vs ds → okAll ds = true ∧ PyData.depthAll ds ≤ n
  | .nil => ⟨rfl, by simp [PyData.depthAll]⟩
  | .cons h hs => by
    obtain ⟨a, b⟩ := Tl.ok hm h
    obtain ⟨c, e⟩ := TlL.ok hm hs
    refine ⟨by show (okD _ && okAll _) = true; rw [a, c]; rfl, ?_⟩
    simp only [PyData.depthAll]
    omega
end
theorem Tl.shaped {n : Nat} {v : Val} {d : PyData} (hm : m < 2 ^ 900) (hn : n ≤ 38) (h : Tl S Fo m n v d) : SeqAt.shaped d = true := by
  obtain ⟨a, b⟩ := h.ok hm
  have := (ok_show d a).2.2.1
  unfold SeqAt.shaped
  rw [this, decide_eq_true (by omega)]
  rfl
theorem Tl.repr {n : Nat} {v : Val} {d : PyData} (hm : m < 2 ^ 900) (hn : n ≤ 38) (hw : d.weight ≤ 40000) (h : Tl S Fo m n v d) : gRepr [v] S = some (.str d.shown, S) := by
  obtain ⟨a, b⟩ := h.ok hm
  exact (Dt.repr (n := n) (w := d.weight) ⟨a, Nat.le_refl _, b, h.toD⟩ (by omega) hw)
theorem TlL.len {n : Nat} {vs : List Val} {ds : List PyData} : TlL S Fo m n vs ds → ds.length = vs.length
  | .nil => rfl
  | .cons _ hs => by rw [List.length_cons, List.length_cons, TlL.len hs]
theorem TlL.app {n : Nat} : ∀ {vs ws : List Val} {ds es : List PyData}, TlL S Fo m n vs ds → TlL S Fo m n ws es → TlL S Fo m n (vs ++ ws) (ds ++ es)
  | _, _, _, _, .nil, g => g
  | _, _, _, _, .cons h hs, g => .cons h (hs.app g)
theorem TlL.take {n : Nat} : ∀ (k : Nat) {vs : List Val} {ds : List PyData}, TlL S Fo m n vs ds → TlL S Fo m n (vs.take k) (ds.take k)
  | 0, _, _, _ => .nil
  | k + 1, _, _, .nil => .nil
  | k + 1, _, _, .cons h hs => .cons h (hs.take k)
theorem TlL.drop {n : Nat} : ∀ (k : Nat) {vs : List Val} {ds : List PyData}, TlL S Fo m n vs ds → TlL S Fo m n (vs.drop k) (ds.drop k)
  | 0, _, _, h => h
  | k + 1, _, _, .nil => .nil
  | k + 1, _, _, .cons h hs => hs.drop k
theorem TlL.rev {n : Nat} : ∀ {vs : List Val} {ds : List PyData}, TlL S Fo m n vs ds → TlL S Fo m n vs.reverse ds.reverse
  | _, _, .nil => .nil
  | _, _, .cons h hs => by
    rw [List.reverse_cons, List.reverse_cons]
    exact hs.rev.app (.cons h .nil)
theorem TlL.get {n : Nat} : ∀ {k : Nat} {vs : List Val} {ds : List PyData} {v : Val}, TlL S Fo m n vs ds → vs[k]? = some v → ∃ d, ds[k]? = some d ∧ Tl S Fo m n v d
  | _, _, _, _, .nil, h => by simp at h
  | 0, _, _, _, .cons h hs, e => by
    simp only [List.getElem?_cons_zero, Option.some.injEq] at e ⊢
    subst e
    exact ⟨_, rfl, h⟩
  | k + 1, _, _, _, .cons h hs, e => by
    simp only [List.getElem?_cons_succ] at e ⊢
    exact hs.get e
theorem TlL.mem {n : Nat} {vs : List Val} {ds : List PyData} {v : Val} (h : TlL S Fo m n vs ds) (hv : v ∈ vs) : ∃ d ∈ ds, Tl S Fo m n v d := by
  obtain ⟨k, hk⟩ := List.getElem?_of_mem hv
  obtain ⟨d, hd, t⟩ := h.get hk
  exact ⟨d, List.mem_of_getElem? hd, t⟩
theorem w_app : ∀ a b : List PyData, PyData.weightAll (a ++ b) = PyData.weightAll a + PyData.weightAll b
  | [], b => by simp [PyData.weightAll]
  | x :: a, b => by
    rw [List.cons_append]
    simp only [PyData.weightAll, w_app a b]
    omega
theorem w_split (k : Nat) (ds : List PyData) : PyData.weightAll (ds.take k) + PyData.weightAll (ds.drop k) = PyData.weightAll ds := by
  rw [← w_app, List.take_append_drop]
theorem w_rev : ∀ ds : List PyData, PyData.weightAll ds.reverse = PyData.weightAll ds
  | [] => rfl
  | x :: ds => by
    rw [List.reverse_cons, w_app, w_rev ds]
    simp only [PyData.weightAll]
    omega
theorem w_at {k : Nat} {ds : List PyData} {d : PyData} (h : ds[k]? = some d) : PyData.weightAll (ds.take k) + (d.weight + 1) + PyData.weightAll (ds.drop (k + 1)) = PyData.weightAll ds := by
  obtain ⟨lt, e⟩ := List.getElem?_eq_some_iff.mp h
  have := w_split k ds
  rw [List.drop_eq_getElem_cons lt, e] at this
  simp only [PyData.weightAll] at this
  omega
end
end AL
namespace K55
open PySem PySem.Spec PyProof.Rows L2 G Th AL KL Fr Od
open K57 (feedL_ feedL_B drawL_ drawL_B netL_ netL_B keyL_ keyL_B endsL_ endsL_B stateL_ stateL_B Tf draw_wp)
open K37 (fmod_lt p60 p40 p62 at_ints)
open K08 (ws_cut)
section
variable {S : Sto} {Fo : Nat → Prop} {m n : Nat} {v : Val} {d : PyData}
theorem cutN (vs : List Val) (k : Nat) (hk : k ≤ vs.length) : cutL vs none (some (k : Int)) = vs.take k := by
  unfold cutL
  rw [HT.sIx_nat, HT.sIx_none, List.drop_zero, Nat.sub_zero, Nat.min_eq_left hk]
theorem cutD (vs : List Val) (k : Nat) : cutL vs (some (k : Int)) none = vs.drop k := by
  unfold cutL
  rw [HT.sIx_nat, HT.sIx_none]
  rcases Nat.le_total k vs.length with h | h
  · rw [Nat.min_eq_left h, ← List.length_drop, List.take_length]
  · rw [Nat.min_eq_right h, List.drop_length, List.drop_eq_nil_of_le h, List.take_nil]
theorem cutS (vs : List Val) (k : Nat) : cutL vs (some ((k : Int) + 1)) none = vs.drop (k + 1) := cutD vs (k + 1)
theorem cutO (vs : List Val) (k : Nat) (hk : k < vs.length) : cutL vs (some (k : Int)) (some ((k : Int) + 1)) = (vs.drop k).take 1 := by
  rw [show (k : Int) + 1 = ((k + 1 : Nat) : Int) by omega]
  unfold cutL
  rw [HT.sIx_nat, HT.sIx_nat, Nat.min_eq_left (by omega), Nat.min_eq_left (by omega), Nat.add_sub_cancel_left]
def isTu : Val → Bool
  | .tup _ => true
  | _ => false
def isIn : Val → Bool
  | .int _ => true
  | .bl _ => true
  | _ => false
def isBo : Val → Bool
  | .bl _ => true
  | _ => false
def isTx : Val → Bool
  | .str _ => true
  | _ => false
theorem isTu_wp {Q : Val → Sto → Prop} (h : Tl S Fo m n v d) (q : Q (.bl (isTu v)) S) : Wp (gIsi "tuple" v S) Q := by
  cases h with
  | non => exact vIsi rfl kit_NoneType_tuple q
  | bl b => exact vIsi rfl kit_bool_tuple q
  | int i h => exact vIsi rfl kit_int_tuple q
  | str x h l => exact vIsi rfl kit_str_tuple q
  | tup h => exact vIsi rfl kit_tuple_tuple q
  | lst f g h => exact vIsi (by simp only [tyN, g]) kit_list_tuple q
theorem isIn_wp {Q : Val → Sto → Prop} (h : Tl S Fo m n v d) (q : Q (.bl (isIn v)) S) : Wp (gIsi "int" v S) Q := by
  cases h with
  | non => exact vIsi rfl kit_NoneType_int q
  | bl b => exact vIsi rfl kit_bool_int q
  | int i h => exact vIsi rfl kit_int_int q
  | str x h l => exact vIsi rfl kit_str_int q
  | tup h => exact vIsi rfl kit_tuple_int q
  | lst f g h => exact vIsi (by simp only [tyN, g]) kit_list_int q
theorem isTx_wp {Q : Val → Sto → Prop} (h : Tl S Fo m n v d) (q : Q (.bl (isTx v)) S) : Wp (gIsi "str" v S) Q := by
  cases h with
  | non => exact vIsi rfl kit_NoneType_str q
  | bl b => exact vIsi rfl kit_bool_str q
  | int i h => exact vIsi rfl kit_int_str q
  | str x h l => exact vIsi rfl kit_str_str q
  | tup h => exact vIsi rfl kit_tuple_str q
  | lst f g h => exact vIsi (by simp only [tyN, g]) kit_list_str q
theorem vNeNilT {Q : Val → Sto → Prop} {vs : List Val} {ds : List PyData} (hm : m < 2 ^ 900) (hn : n ≤ 37) (h : TlL S Fo m n vs ds) (q : Q (.bl (!vs.isEmpty)) S) : Wp (gNe (.tup vs) (.tup []) S) Q := by
  have e1 : eqS (.tup vs) (.tup []) = none := rfl
  have hT : Tl S Fo m (n + 1) (.tup vs) (.tuple ds) := .tup h
  refine ⟨_, S, ?_, q⟩
  unfold gNe eqA
  rw [e1]
  have t0 : toD S 40 (.tup []) = some (.tuple []) := rfl
  simp only [hT.toD 40 (by omega), t0]
  rw [if_pos ⟨hT.shaped hm (by omega), by decide⟩]
  cases h with
  | nil => rfl
  | cons a b => rfl
/-- the new store keeps what may be met -/
theorem Tl.kx {T : Sto} (h : Tl S Fo m n v d) (hz : ∀ r, Fo r → r ≠ 0) (k : Kx 0 S T) : Tl T Fo m n v d := h.up (Nat.le_refl _) (fun r vs f g => ⟨f, k r _ (hz r f) g⟩) n (Nat.le_refl _)
theorem TlL.kx {T : Sto} {vs : List Val} {ds : List PyData} (h : TlL S Fo m n vs ds) (hz : ∀ r, Fo r → r ≠ 0) (k : Kx 0 S T) : TlL T Fo m n vs ds := h.up (Nat.le_refl _) (fun r vs f g => ⟨f, k r _ (hz r f) g⟩) n (Nat.le_refl _)
theorem TlL.one (h : Tl S Fo m n v d) : TlL S Fo m n [v] [d] := .cons h .nil
noncomputable abbrev oddE : EF := (eB gIxA (eLst (aCons (eC .non) (aCons (eC (.str "")) (aCons (eC (.str "a")) (aCons (eC (.str "zzz")) (aCons (eC (.int 0)) (aCons (eU gNeg (eC (.int 1))) (aCons (eC (.bl true)) (aCons (eC (.bl false)) (aCons (eB gPow (eC (.int 10)) (eC (.int 59))) (aCons (eTup aNil) (aCons (eLst aNil) (aCons (eTup (aCons (eC (.str "a")) (aCons (eC (.str "b")) aNil))) (aCons (eC (.str "toolongword")) aNil)))))))))))))) (eDef drawL_ 2 (aCons (eV 0) (aCons (eC (.int 13)) aNil))))
def M0 : Nat := 10 ^ 59
theorem vListT {Q : Val → Sto → Prop} {x : Val} {vs : List Val} (hx : x = .tup vs) (q : Nw S (.lst vs) Q) : Wp (gList [x] S) Q := by
  subst hx
  exact ⟨_, _, rfl, q.use⟩
theorem vAddTi {x y : Val} {Q : Val → Sto → Prop} {a b : Int} (hx : x = .int a) (hy : y = .int b) (q : Q (.int (a + b)) S) : Wp (gAddT x y S) Q := by
  subst hx hy
  exact ⟨_, _, rfl, q⟩
theorem odd_wp {B : Int} {ρ : Rho} (T : Tf S B) (hB : B < 2 ^ 40) (hm : M0 ≤ m) (hF : ∀ r, S.length ≤ r → Fo r) (h0 : ρ[0]? = some (some (.ref 0))) : Wp (oddE ρ S) fun v U => (∃ d, Tl U Fo m 1 v d ∧ d.weight ≤ 200) ∧ Tf U (B + 1) ∧ Kx 0 S U := by
  have h40 := p40
  have h60 := p60
  unfold oddE
  have cp : CPow 10 59 := ⟨by decide, by decide, by decide⟩
  array_get_dec
  refine vPow rfl rfl ?_ cp
  array_get_dec
  intro S1 r1 e_r1 l_S1 g_r1 k_S1
  array_get_dec
  intro S2 r2 e_r2 l_S2 g_r2 k_S2
  array_get_dec
  have k2 : Kn S S2 := k_S1.trans k_S2
  refine wv h0 ?_
  array_get_dec
  refine (draw_wp (T.fr k2) (by decide) (by decide) (by omega)).imp ?_
  rintro _ S3 ⟨x, rfl, x0, x1, t3, k3⟩
  have z1 : r1 ≠ 0 := by
    rintro rfl
    obtain ⟨ns, i, q, n, a, b, c⟩ := T.ex
    have := (List.getElem?_eq_some_iff.mp b).1
    omega
  have z2 : r2 ≠ 0 := by omega
  have g1 : S3[r1]? = some (.lst []) := k3 _ _ z1 (k_S2 _ _ g_r1)
  obtain ⟨y, hy, my⟩ := atI_mem (vs := [Val.non, Val.str (Str.ofString ""), Val.str (Str.ofString "a"), Val.str (Str.ofString "zzz"), Val.int 0, Val.int (-1), Val.bl true, Val.bl false, Val.int (10 ^ Int.toNat 59), Val.tup [], Val.ref r1, Val.tup [Val.str (Str.ofString "a"), Val.str (Str.ofString "b")], Val.str (Str.ofString "toolongword")]) x0 x1
  refine vIxL rfl rfl (k3 _ _ z2 g_r2) hy ?_
  refine ⟨?_, t3, (k2.kx 0).trans k3⟩
  have f1 : Fo r1 := hF _ (by omega)
  simp only [List.mem_cons, List.not_mem_nil, or_false] at my
  rcases my with rfl | rfl | rfl | rfl | rfl | rfl | rfl | rfl | rfl | rfl | rfl | rfl | rfl
  · exact ⟨_, .non, by decide⟩
  · exact ⟨_, .str _ (by decide +kernel) (by decide +kernel), by decide⟩
  · exact ⟨_, .str _ (by decide +kernel) (by decide +kernel), by decide⟩
  · exact ⟨_, .str _ (by decide +kernel) (by decide +kernel), by decide⟩
  · exact ⟨_, .int _ (by simp), by decide⟩
  · exact ⟨_, .int _ (Nat.le_trans (by decide) hm), by decide⟩
  · exact ⟨_, .bl _, by decide⟩
  · exact ⟨_, .bl _, by decide⟩
  · exact ⟨_, .int _ (Nat.le_trans (by decide) hm), by decide +kernel⟩
  · exact ⟨_, .tup .nil, by decide⟩
  · exact ⟨_, .lst f1 g1 .nil, by decide⟩
  · exact ⟨_, .tup (.cons (.str _ (by decide +kernel) (by decide +kernel)) (.cons (.str _ (by decide +kernel) (by decide +kernel)) .nil)), by decide⟩
  · exact ⟨_, .str _ (by decide +kernel) (by decide +kernel), by decide⟩
theorem int_wp {B : Int} {ρ : Rho} {i : Int} (hM : m + 3 < 2 ^ 199) (T : Tf S B) (hB : B < 2 ^ 40) (hi : i.natAbs ≤ m) (h0 : ρ[0]? = some (some (.ref 0))) (h1 : ρ[1]? = some (some (.int i))) : Wp ((eB gAddT (eV 1) (eB gIxA (eLst (aCons (eC (.int 1)) (aCons (eU gNeg (eC (.int 1))) (aCons (eC (.int 3)) aNil)))) (eDef drawL_ 2 (aCons (eV 0) (aCons (eC (.int 3)) aNil))))) ρ S) fun v U => (∃ d, Tl U Fo (m + 3) 1 v d ∧ d.weight ≤ (PyData.int i).weight + 200) ∧ Tf U (B + 1) ∧ Kx 0 S U := by
  have h40 := p40
  have h60 := p60
  array_get_dec
  refine wv h1 ?_
  array_get_dec
  intro S1 r1 e_r1 l_S1 g_r1 k_S1
  array_get_dec
  refine wv h0 ?_
  array_get_dec
  refine (draw_wp (T.fr k_S1) (by decide) (by decide) (by omega)).imp ?_
  rintro _ S3 ⟨x, rfl, x0, x1, t3, k3⟩
  have z1 : r1 ≠ 0 := by
    rintro rfl
    obtain ⟨ns, i, q, n, a, b, c⟩ := T.ex
    have := (List.getElem?_eq_some_iff.mp b).1
    omega
  obtain ⟨y, hy, my⟩ := atI_mem (vs := [Val.int 1, Val.int (-1), Val.int 3]) x0 x1
  have q : ∀ j : Int, j = 1 ∨ j = -1 ∨ j = 3 → ∃ d, Tl S3 Fo (m + 3) 1 (.int (i + j)) d ∧ d.weight ≤ (PyData.int i).weight + 200 := fun j hj => by
    refine ⟨_, .int _ (by omega), ?_⟩
    have a1 : (i + j).natAbs ≤ i.natAbs + 3 := by omega
    have a2 : (i + j).natAbs < 2 ^ 199 := by omega
    show (if (i + j == 0) = true then 0 else (i + j).natAbs.log2 + 1) ≤ _
    by_cases c : (i + j == 0) = true
    · rw [if_pos c]
      omega
    · rw [if_neg c]
      have c2 : (i + j).natAbs ≠ 0 := fun h => c (by rw [show i + j = 0 by omega]; rfl)
      have := (Nat.log2_lt c2).mpr a2
      omega
  have fin : ∀ j : Int, y = .int j → j = 1 ∨ j = -1 ∨ j = 3 → Wp (gAddT (.int i) y S3) fun v U => (∃ d, Tl U Fo (m + 3) 1 v d ∧ d.weight ≤ (PyData.int i).weight + 200) ∧ Tf U (B + 1) ∧ Kx 0 S U := fun j e hj => vAddTi rfl e ⟨q j hj, t3, (k_S1.kx 0).trans k3⟩
  refine vIxL rfl rfl (k3 _ _ z1 g_r1) hy ?_
  simp only [List.mem_cons, List.not_mem_nil, or_false] at my
  rcases my with rfl | rfl | rfl
  · exact fin _ rfl (.inl rfl)
  · exact fin _ rfl (.inr (.inl rfl))
  · exact fin _ rfl (.inr (.inr rfl))
theorem tfle {B : Int} {T : Sto} (t : Tf S B) (k : Kx 0 S T) : S.length ≤ T.length := by
  obtain ⟨ns, i, q, n, a, b, c⟩ := t.ex
  have h2 := (List.getElem?_eq_some_iff.mp a).1
  obtain ⟨o, ho⟩ : ∃ o, S[S.length - 1]? = some o := ⟨_, List.getElem?_eq_getElem (by omega)⟩
  have := (List.getElem?_eq_some_iff.mp (k _ _ (by omega) ho)).1
  omega
theorem bent_wp : ∀ (k n : Nat) {S : Sto} {B : Int} {v : Val} {d : PyData}, Tf S B → (∀ r, S.length ≤ r → Fo r) → (∀ r, Fo r → r ≠ 0) → Tl S Fo m n v d → n < k → d.weight ≤ 100000 → B + 6 * k < 2 ^ 40 → n ≤ 30 → M0 ≤ m → m + 3 < 2 ^ 199 → Wp (bentL_n k [.ref 0, v] S) fun v' U => (∃ d', Tl U Fo (m + 3) (n + 1) v' d' ∧ d'.weight ≤ 2 * d.weight + 300) ∧ Tf U (B + 6 * k) ∧ Kx 0 S U
  | 0, _, _, _, _, _, _, _, _, _, h, _, _, _, _, _ => absurd h (by omega)
  | k + 1, n, S, B, v, d, T, hF, hz, hv, kn, hw, hB, hn, hm, hM => by
    have h40 := p40
    have h60 := p60
    have h900 : m < 2 ^ 900 := Nat.lt_of_lt_of_le (show m < 2 ^ 199 by omega) (Nat.pow_le_pow_right (by decide) (by decide))
    have hB1 : ((k + 1 : Nat) : Int) = (k : Int) + 1 := by omega
    show Wp (runF 5 (bentL_B (bentL_n k)) [.ref 0, v] S) _
    refine AL.wf ?_
    simp only [List.map_cons, List.map_nil, List.length_cons, List.length_nil, Nat.reduceAdd, Nat.reduceSub, List.replicate_succ, List.replicate_zero, List.cons_append, List.nil_append]
    unfold bentL_B
    have odd : ∀ {d} (ρ : Rho) (U : Sto), Tf U (B + 2) → Kx 0 S U → S.length ≤ U.length → ρ[0]? = some (some (.ref 0)) → Wp (oddE ρ U) fun v' U' => (∃ d', Tl U' Fo (m + 3) (n + 1) v' d' ∧ d'.weight ≤ 2 * PyData.weight d + 300) ∧ Tf U' (B + 6 * ((k + 1 : Nat) : Int)) ∧ Kx 0 S U' := fun ρ U t k0 hl h0 => by
      refine (odd_wp (Fo := Fo) (m := m) t (by omega) hm (fun r hr => hF r (by omega)) h0).imp ?_
      rintro v' U' ⟨⟨d', a, b⟩, t', k'⟩
      exact ⟨⟨d', a.up (by omega) (fun r vs f g => ⟨f, g⟩) _ (by omega), by omega⟩, t'.mono (by omega), k0.trans k'⟩
    refine ws_seq (ws_cut (N' := fun ρ U => ρ[0]? = some (some (.ref 0)) ∧ ρ[1]? = some (some v) ∧ Tf U (B + 1) ∧ Kx 0 S U ∧ S.length ≤ U.length) ?_ ?_)
    · array_get_dec
      refine isTu_wp hv ?_
      cases hv with
      | @tup n' vs ds h =>
        array_get_dec
        refine vNeNilT h900 (by omega) h ?_
        array_get_dec
        refine Br.of (fun c => ?_) (fun c => ?_)
        · have vne : 0 < vs.length := by
            cases vs with
            | nil => exact absurd c (by decide)
            | cons a b => exact Nat.succ_pos _
          have dl := h.len
          have hw : PyData.weightAll ds ≤ 100000 := hw
          have wl : ∀ ds : List PyData, ds.length ≤ PyData.weightAll ds := fun ds => by
            induction ds with
            | nil => exact Nat.zero_le _
            | cons a b ih => simp only [PyData.weightAll, List.length_cons]; omega
          have wl1 := wl ds
          array_get_dec
          refine (draw_wp T (by decide) (by decide) (by omega)).imp ?_
          rintro _ S3 ⟨x, rfl, x0, x1, t3, k3⟩
          array_get_dec
          refine Br.of (fun c => ?_) (fun c => ?_)
          · array_get_dec
            refine (draw_wp t3 (by omega) (by omega) (by omega)).imp ?_
            rintro _ S4 ⟨y, rfl, y0, y1, t4, k4⟩
            array_get_dec
            refine (draw_wp t4 (by decide) (by decide) (by omega)).imp ?_
            rintro _ S5 ⟨z, rfl, z0, z1, t5, k5⟩
            have k05 : Kx 0 S S5 := (k3.trans k4).trans k5
            obtain ⟨p, rfl⟩ := Int.eq_ofNat_of_zero_le y0
            have hp : p < vs.length := by omega
            have h5 := TlL.kx h hz k05
            have l1 : (vs.take p).length ≤ vs.length := by rw [List.length_take]; omega
            have l2 : ∀ q, (vs.drop q).length ≤ vs.length := fun q => by rw [List.length_drop]; omega
            have l3 : ((vs.drop p).take 1).length ≤ vs.length := by rw [List.length_take, List.length_drop]; omega
            array_get_dec
            refine vSlA rfl ?_
            rw [cutN vs p (by omega)]
            array_get_dec
            refine vAddTi rfl rfl ?_
            array_get_dec
            refine vSlA rfl ?_
            rw [cutS]
            refine vAddT rfl rfl (by have := l2 (p + 1); omega) ?_
            array_get_dec
            refine vSlA rfl ?_
            rw [cutN vs p (by omega)]
            array_get_dec
            refine vAddTi rfl rfl ?_
            array_get_dec
            refine vSlA rfl ?_
            rw [cutO vs p hp]
            refine vAddT rfl rfl (by omega) ?_
            array_get_dec
            refine vSlA rfl ?_
            rw [cutD]
            refine vAddT rfl rfl (by have := l2 p; rw [List.length_append]; omega) ?_
            array_get_dec
            refine vRevT rfl ?_
            array_get_dec
            refine vListT rfl ?_
            intro S6 r6 e_r6 l_S6 g_r6 k_S6
            array_get_dec
            intro S7 r7 e_r7 l_S7 g_r7 k_S7
            array_get_dec
            have k57 : Kn S5 S7 := k_S6.trans k_S7
            have t7 : Tf S7 (B + 1 + 1 + 1) := t5.fr k57
            have k07 : Kx 0 S S7 := k05.trans (k57.kx 0)
            have le5 : S.length ≤ S5.length := tfle T k05
            have h7 : TlL S7 Fo m n' vs ds := TlL.kx h5 hz (k57.kx 0)
            have H7 : TlL S7 Fo (m + 3) (n' + 1) vs ds := h7.up (by omega) (fun r vs f g => ⟨f, g⟩) _ (by omega)
            have g6 : S7[r6]? = some (.lst vs) := k_S7 _ _ g_r6
            have f6 : Fo r6 := hF _ (by omega)
            have ws1 := w_split p ds
            have ws2 := w_split (p + 1) ds
            have w1 : PyData.weightAll (ds.take p) + PyData.weightAll (ds.drop (p + 1)) ≤ PyData.weightAll ds := by
              have e := List.getElem?_eq_getElem (l := ds) (i := p) (by omega)
              have := w_at e
              omega
            have w2 : PyData.weightAll ((ds.drop p).take 1) ≤ PyData.weightAll ds := by
              have := w_split 1 (ds.drop p)
              omega
            have tf : Tf S7 (B + 6 * ((k + 1 : Nat) : Int)) := t7.mono (by omega)
            refine Br.of (fun c => ?_) (fun c => ?_)
            · have c : z < 4 := of_decide_eq_true c
              array_get_dec
              have fin : ∀ v' d', Tl S7 Fo (m + 3) (n' + 1 + 1) v' d' → d'.weight ≤ 2 * PyData.weightAll ds + 300 → (∃ d', Tl S7 Fo (m + 3) (n' + 1 + 1) v' d' ∧ d'.weight ≤ 2 * (PyData.tuple ds).weight + 300) ∧ Tf S7 (B + 6 * ((k + 1 : Nat) : Int)) ∧ Kx 0 S S7 := fun v' d' a b => ⟨⟨d', a, b⟩, tf, k07⟩
              obtain ⟨y, hy, my⟩ := atI_mem (vs := [Val.tup (List.take p vs ++ List.drop (p + 1) vs), Val.tup (List.take p vs ++ List.take 1 (List.drop p vs) ++ List.drop p vs), Val.tup vs.reverse, Val.ref r6]) z0 c
              refine vIxL rfl rfl g_r7 hy ?_
              simp only [List.mem_cons, List.not_mem_nil, or_false] at my
              rcases my with rfl | rfl | rfl | rfl
              · refine fin _ _ (.tup ((H7.take p).app (H7.drop (p + 1)))) ?_
                show PyData.weightAll _ ≤ _
                rw [w_app]
                omega
              · refine fin _ _ (.tup (((H7.take p).app ((H7.drop p).take 1)).app (H7.drop p))) ?_
                show PyData.weightAll _ ≤ _
                rw [w_app, w_app]
                omega
              · refine fin _ _ (.tup H7.rev) ?_
                show PyData.weightAll _ ≤ _
                rw [AL.w_rev]
                omega
              · exact fin _ _ (.lst f6 g6 H7) (by show PyData.weightAll _ ≤ _; omega)
            · array_get_dec
              refine vSlA rfl ?_
              rw [cutN vs p (by omega)]
              array_get_dec
              have ev := List.getElem?_eq_getElem hp
              obtain ⟨dp, edp, hdp⟩ := h7.get ev
              have wp := w_at edp
              refine vIxT rfl rfl (atI_nat ev) ?_
              array_get_dec
              refine (bent_wp k n' t7 (fun r hr => hF r (by have := k57.len; omega)) hz hdp (by omega) (by omega) (by omega) (by omega) hm hM).imp ?_
              rintro v8 S8 ⟨⟨d8, a8, b8⟩, t8, k8⟩
              array_get_dec
              refine vAddT rfl rfl (by show _ + 1 ≤ _; omega) ?_
              array_get_dec
              refine vAddTi rfl rfl ?_
              array_get_dec
              refine vSlA rfl ?_
              rw [cutS]
              have H8 : TlL S8 Fo (m + 3) (n' + 1) vs ds := TlL.kx H7 hz k8
              refine vAddT rfl rfl (by rw [List.length_append]; have := l2 (p + 1); simp only [List.length_singleton]; omega) ?_
              refine ⟨⟨_, .tup (((H8.take p).app (TlL.one a8)).app (H8.drop (p + 1))), ?_⟩, t8.mono (by omega), k07.trans k8⟩
              show PyData.weightAll _ ≤ 2 * PyData.weightAll ds + 300
              rw [w_app, w_app]
              simp only [PyData.weightAll]
              omega
          · exact ws_nil ⟨rfl, rfl, t3, k3, tfle T k3⟩
        · exact brF rfl (ws_nil ⟨rfl, rfl, T.mono (by omega), Kx.refl _ _, Nat.le_refl _⟩)
      | _ => array_get_dec; exact ⟨rfl, rfl, T.mono (by omega), Kx.refl _ _, Nat.le_refl _⟩
    · rintro ρ U ⟨h0, h1, t, k0, hl⟩
      have hv := Tl.kx hv hz k0
      refine ws_seq (ws_cut (N' := fun ρ U => ρ[0]? = some (some (.ref 0)) ∧ Tf U (B + 2) ∧ Kx 0 S U ∧ S.length ≤ U.length) ?_ ?_)
      · array_get_dec
        refine wv h1 ?_
        array_get_dec
        refine isIn_wp hv ?_
        cases hv with
        | int i hi =>
          array_get_dec
          refine wv h1 ?_
          array_get_dec
          refine wv h0 ?_
          array_get_dec
          refine (draw_wp t (by decide) (by decide) (by omega)).imp ?_
          rintro _ S3 ⟨x, rfl, x0, x1, t3, k3⟩
          array_get_dec
          refine Br.of (fun c => ?_) (fun c => ?_)
          · refine ws_ret ((int_wp (Fo := Fo) hM t3 (by omega) hi h0 h1).imp ?_)
            rintro v' U' ⟨⟨d', a, b⟩, t', k'⟩
            exact ⟨⟨d', a.up (Nat.le_refl _) (fun r vs f g => ⟨f, g⟩) _ (by omega), by omega⟩, t'.mono (by omega), (k0.trans k3).trans k'⟩
          · exact ws_nil ⟨h0, t3.mono (by omega), k0.trans k3, Nat.le_trans hl (tfle t k3)⟩
        | bl b =>
          array_get_dec
          refine wv h1 ?_
          array_get_dec
          exact ⟨h0, t.mono (by omega), k0, hl⟩
        | _ => array_get_dec; exact ⟨h0, t.mono (by omega), k0, hl⟩
      · rintro ρ U ⟨h0, t, k0, hl⟩
        refine ws_ret ?_
        exact odd (d := d) ρ U t k0 hl h0
end
end K55
namespace K55
open PySem PySem.Spec PyProof.Rows L2 G Th AL KL Fr Od
open K57 (feedL_ feedL_B drawL_ drawL_B netL_ netL_B keyL_ keyL_B endsL_ endsL_B stateL_ stateL_B Tf draw_wp)
open K37 (fmod_lt p60 p40 p62 at_ints)
open K08 (ws_cut)
section
variable {S : Sto} {Fo : Nat → Prop} {m n : Nat} {v : Val} {d : PyData}
abbrev abc : Str := "abcdefghijklmnopqrstuvwxyz"
def isCh : Val → Bool
  | .str c => inTx c abc
  | _ => false
def isW : Val → Bool
  | .str x => decide (1 ≤ x.cps.size) && decide (x.cps.size ≤ 8) && (chV x).all isCh
  | _ => false
def isC : Val → Bool
  | .int i => decide (0 ≤ i)
  | _ => false
def isK : Val → Bool
  | .tup [a, b, c] => isC a && (isC b && isW c)
  | _ => false
def isM : Val → Bool
  | .tup [a, b, c] => isW a && (isC b && isC c)
  | _ => false
theorem chV_len (x : Str) : (chV x).length = x.cps.size := by simp [chV]
theorem vLenS {x : Str} {y : Val} {Q : Val → Sto → Prop} (hy : y = .str x) (l : x.cps.size ≤ 70) (q : Q (.int x.cps.size) S) : Wp (gLen [y] S) Q := by
  subst hy
  exact ⟨_, S, if_pos (Nat.le_of_lt (small (by show x.cps.size < _; omega))), q⟩
theorem all_wp {Q : Val → Sto → Prop} {r : Nat} {l : List Val} {f : Val → Bool} (g : S[r]? = some (.lst ((l.filter fun _ => true).map fun v => .bl (f v)))) (q : Q (.bl (l.all f)) S) : Wp (gAll [.ref r] S) Q := by
  rw [List.filter_eq_self.mpr (fun _ _ => rfl)] at g
  refine vAll (bs := l.map f) rfl (by rw [List.map_map]; exact g) ?_
  rw [List.all_map]
  exact q
theorem word_wp (h : Tl S Fo m n v d) : Wp (is_word_ [v] S) fun u T => u = .bl (isW v) ∧ Kn S T := by
  refine AL.wf ?_; simp only [List.map_cons, List.map_nil, List.length_cons, List.length_nil, Nat.reduceAdd, Nat.reduceSub, List.replicate_succ, List.replicate_zero, List.cons_append, List.nil_append]; unfold is_word_B; array_get_dec
  refine isTx_wp h ?_
  cases h with
  | str x hx l =>
    array_get_dec
    refine vLenS rfl l ?_
    array_get_dec
    have e1 : decide ((1 : Int) ≤ x.cps.size) = decide (1 ≤ x.cps.size) := by rw [decide_eq_decide]; omega
    have e2 : decide ((x.cps.size : Int) ≤ 8) = decide (x.cps.size ≤ 8) := by rw [decide_eq_decide]; omega
    refine Br.of (fun c => ?_) (fun c => ?_)
    · array_get_dec
      refine Br.of (fun c2 => ?_) (fun c2 => ?_)
      · rw [Bool.not_eq_true'] at c2
        array_get_dec
        refine ⟨?_, Kn.refl _⟩
        rw [e2] at c2
        simp only [isW, c2, Bool.and_false, Bool.false_and]
      · rw [Bool.not_eq_false'] at c2
        array_get_dec
        refine wiC (wv rfl ⟨x, rfl, ?_⟩)
        refine lc_pure (fun _ => true) (fun v => .bl (isCh v)) trivial (by rw [chV_len]; omega) (fun v hv => ?_) ?_
        · obtain ⟨c, hc, rfl⟩ := List.mem_map.mp hv
          refine bn rfl ?_
          array_get_dec
          refine ⟨rfl, rfl, fun _ => ?_⟩
          array_get_dec
          refine vInT rfl rfl ⟨rfl, rfl⟩
        · intro T r e_r l_T g_r k_T
          array_get_dec
          refine all_wp g_r ⟨?_, k_T⟩
          rw [e1] at c
          rw [e2] at c2
          simp only [isW, c, c2, Bool.true_and]
    · rw [e1] at c
      array_get_dec
      refine ⟨?_, Kn.refl _⟩
      simp only [isW, c, Bool.false_and]
  | _ => array_get_dec; exact ⟨rfl, Kn.refl _⟩
theorem number_wp (h : Tl S Fo m n v d) : Wp (is_number_ [v] S) fun u T => u = .bl (isIn v && !isBo v) ∧ T = S := by
  refine AL.wf ?_; simp only [List.map_cons, List.map_nil, List.length_cons, List.length_nil, Nat.reduceAdd, Nat.reduceSub, List.replicate_succ, List.replicate_zero, List.cons_append, List.nil_append]; unfold is_number_B; array_get_dec
  refine isIn_wp h ?_
  cases h with
  | _ => array_get_dec; exact ⟨rfl, rfl⟩
theorem count_wp (h : Tl S Fo m n v d) : Wp (is_count_ [v] S) fun u T => u = .bl (isC v) ∧ T = S := by
  refine AL.wf ?_; simp only [List.map_cons, List.map_nil, List.length_cons, List.length_nil, Nat.reduceAdd, Nat.reduceSub, List.replicate_succ, List.replicate_zero, List.cons_append, List.nil_append]; unfold is_count_B; array_get_dec
  refine (number_wp h).imp ?_
  rintro _ T ⟨rfl, rfl⟩
  cases h with
  | _ => array_get_dec; exact ⟨rfl, rfl⟩
theorem from_wp (h : Tl S Fo m n v d) : Wp (is_fromL_ [v] S) fun u T => u = .bl (isC v) ∧ T = S := by
  refine AL.wf ?_; simp only [List.map_cons, List.map_nil, List.length_cons, List.length_nil, Nat.reduceAdd, Nat.reduceSub, List.replicate_succ, List.replicate_zero, List.cons_append, List.nil_append]; unfold is_fromL_B; array_get_dec
  refine isIn_wp h ?_
  cases h with
  | _ => array_get_dec; exact ⟨rfl, rfl⟩
theorem emp_all {α : Type} {f : α → Bool} : ∀ l : List α, (l.filter fun v => !f v).isEmpty = l.all f
  | [] => rfl
  | v :: l => by
    rw [List.filter_cons, List.all_cons]
    cases h : f v with
    | true => simp only [Bool.not_true, Bool.false_eq_true, if_false, Bool.true_and]; exact emp_all l
    | false => simp
theorem chs_tl {x : Str} (hx : PyData.strOk x = true) (f : Val → Bool) : ∃ ds, TlL S Fo m n (((chV x).filter f).map id) ds := by
  have : ∀ l : List Val, (∀ v ∈ l, ∃ d, Tl S Fo m n v d) → ∃ ds, TlL S Fo m n l ds := fun l => by
    induction l with
    | nil => exact fun _ => ⟨_, .nil⟩
    | cons a l ih =>
      intro h
      obtain ⟨d, hd⟩ := h a List.mem_cons_self
      obtain ⟨ds, hds⟩ := ih fun v hv => h v (List.mem_cons_of_mem _ hv)
      exact ⟨_, .cons hd hds⟩
  refine this _ fun v hv => ?_
  rw [List.map_id] at hv
  obtain ⟨c, hc, rfl⟩ := List.mem_map.mp (List.mem_filter.mp hv).1
  refine ⟨_, .str _ ?_ (by simp)⟩
  unfold PyData.strOk at hx ⊢
  rw [Array.all_eq_true'] at hx
  have := hx c (Array.mem_toList_iff.mp hc)
  simpa using this
theorem vEqNilD {Q : Val → Sto → Prop} {a b : Nat} {vs : List Val} {ds : List PyData} (hm : m < 2 ^ 900) (hn : n ≤ 37) (h : TlL S Fo m n vs ds) (ha : S[a]? = some (.lst vs)) (hb : S[b]? = some (.lst [])) (q : Q (.bl vs.isEmpty) S) : Wp (gEq (.ref a) (.ref b) S) Q := by
  have e1 : eqS (.ref a) (.ref b) = none := rfl
  have hT : Tl S (fun _ => True) m (n + 1) (.ref a) (.list ds) := .lst trivial ha (h.up (Nat.le_refl _) (fun r vs _ g => ⟨trivial, g⟩) _ (Nat.le_refl _))
  have hU : Tl S (fun _ => True) m (n + 1) (.ref b) (.list []) := .lst trivial hb .nil
  refine ⟨_, S, ?_, q⟩
  unfold gEq eqA
  rw [e1]
  simp only [hT.toD 40 (by omega), hU.toD 40 (by omega)]
  rw [if_pos ⟨hT.shaped hm (by omega), hU.shaped hm (by omega)⟩]
  cases h with
  | nil => rfl
  | cons a b => rfl
theorem wordL_wp (h : Tl S Fo m n v d) : Wp (is_wordL_ [v] S) fun u T => u = .bl (isW v) ∧ Kn S T := by
  refine AL.wf ?_; simp only [List.map_cons, List.map_nil, List.length_cons, List.length_nil, Nat.reduceAdd, Nat.reduceSub, List.replicate_succ, List.replicate_zero, List.cons_append, List.nil_append]; unfold is_wordL_B; array_get_dec
  refine isTx_wp h ?_
  cases h with
  | str x hx l =>
    array_get_dec
    refine vLenS rfl l ?_
    array_get_dec
    have e1 : decide ((1 : Int) ≤ x.cps.size) = decide (1 ≤ x.cps.size) := by rw [decide_eq_decide]; omega
    have e2 : decide ((x.cps.size : Int) ≤ 8) = decide (x.cps.size ≤ 8) := by rw [decide_eq_decide]; omega
    refine Br.of (fun c => ?_) (fun c => ?_)
    · array_get_dec
      refine Br.of (fun c2 => ?_) (fun c2 => ?_)
      · rw [Bool.not_eq_true'] at c2
        array_get_dec
        refine ⟨?_, Kn.refl _⟩
        rw [e2] at c2
        simp only [isW, c2, Bool.and_false, Bool.false_and]
      · rw [Bool.not_eq_false'] at c2
        array_get_dec
        refine wiC (wv rfl ⟨x, rfl, ?_⟩)
        refine lc_pure (fun v => !isCh v) id trivial (by rw [chV_len]; omega) (fun v hv => ?_) ?_
        · obtain ⟨c, hc, rfl⟩ := List.mem_map.mp hv
          refine bn rfl ?_
          array_get_dec
          refine vInT rfl rfl ?_
          array_get_dec
          refine ⟨rfl, rfl, fun _ => ?_⟩
          array_get_dec
          exact ⟨rfl, rfl⟩
        · intro T r e_r l_T g_r k_T
          array_get_dec
          intro T2 r2 e_r2 l_T2 g_r2 k_T2
          array_get_dec
          obtain ⟨ds, hds⟩ := chs_tl (S := T2) (Fo := Fo) (m := 0) (n := 0) hx (fun v => !isCh v)
          refine vEqNilD (Nat.lt_of_lt_of_le Nat.zero_lt_one (Nat.one_le_two_pow)) (Nat.zero_le _) hds (k_T2 _ _ g_r) g_r2 ⟨?_, k_T.trans k_T2⟩
          rw [e1] at c
          rw [e2] at c2
          simp only [isW, c, c2, Bool.true_and, List.map_id]
          refine congrArg Val.bl ?_
          exact emp_all _
    · rw [e1] at c
      array_get_dec
      refine ⟨?_, Kn.refl _⟩
      simp only [isW, c, Bool.false_and]
  | _ => array_get_dec; exact ⟨rfl, Kn.refl _⟩
/-- a tuple of three or not -/
theorem three {vs : List Val} {ds : List PyData} (h : TlL S Fo m n vs ds) : vs.length ≠ 3 ∨ ∃ a b c x y z, vs = [a, b, c] ∧ Tl S Fo m n a x ∧ Tl S Fo m n b y ∧ Tl S Fo m n c z := by
  match vs, h with
  | [], _ => exact .inl (by decide)
  | [a], _ => exact .inl (by simp)
  | [a, b], _ => exact .inl (by simp)
  | [a, b, c], .cons h1 (.cons h2 (.cons h3 .nil)) => exact .inr ⟨a, b, c, _, _, _, rfl, h1, h2, h3⟩
  | a :: b :: c :: e :: r, _ => exact .inl (by simp)
theorem isK_no {vs : List Val} (h : vs.length ≠ 3) : isK (.tup vs) = false := by
  unfold isK
  split
  · next e => cases e; exact absurd rfl h
  · rfl
theorem isM_no {vs : List Val} (h : vs.length ≠ 3) : isM (.tup vs) = false := by
  unfold isM
  split
  · next e => cases e; exact absurd rfl h
  · rfl
theorem key_wp (h : Tl S Fo m n v d) : Wp (is_key_ [v] S) fun u T => u = .bl (isK v) ∧ Kn S T := by
  refine AL.wf ?_; simp only [List.map_cons, List.map_nil, List.length_cons, List.length_nil, Nat.reduceAdd, Nat.reduceSub, List.replicate_succ, List.replicate_zero, List.cons_append, List.nil_append]; unfold is_key_B; array_get_dec
  refine isTu_wp h ?_
  cases h with
  | tup h =>
    array_get_dec
    rcases three h with h3 | ⟨a, b, c, x, y, z, rfl, h1, h2, h3⟩
    · refine brT (by rw [decide_eq_false (by omega)]; rfl) ?_
      array_get_dec
      exact ⟨by rw [isK_no h3], Kn.refl _⟩
    · array_get_dec
      refine (count_wp h1).imp ?_
      rintro _ _ ⟨rfl, rfl⟩
      array_get_dec
      refine Br.of (fun c1 => ?_) (fun c1 => ?_)
      · array_get_dec
        refine (count_wp h2).imp ?_
        rintro _ _ ⟨rfl, rfl⟩
        array_get_dec
        refine Br.of (fun c2 => ?_) (fun c2 => ?_)
        · array_get_dec
          refine (word_wp h3).imp ?_
          rintro _ T ⟨rfl, k⟩
          exact ⟨by simp only [isK, c1, c2, Bool.true_and], k⟩
        · exact ⟨by simp only [isK, c1, c2, Bool.and_false, Bool.false_and], Kn.refl _⟩
      · exact ⟨by simp only [isK, c1, Bool.false_and], Kn.refl _⟩
  | _ => array_get_dec; exact ⟨rfl, Kn.refl _⟩
theorem keyL_wp (h : Tl S Fo m n v d) : Wp (is_keyL_ [v] S) fun u T => u = .bl (isK v) ∧ Kn S T := by
  refine AL.wf ?_; simp only [List.map_cons, List.map_nil, List.length_cons, List.length_nil, Nat.reduceAdd, Nat.reduceSub, List.replicate_succ, List.replicate_zero, List.cons_append, List.nil_append]; unfold is_keyL_B; array_get_dec
  refine isTu_wp h ?_
  cases h with
  | tup h =>
    array_get_dec
    rcases three h with h3 | ⟨a, b, c, x, y, z, rfl, h1, h2, h3⟩
    · refine brT (by rw [decide_eq_false (by omega)]; rfl) ?_
      array_get_dec
      exact ⟨by rw [isK_no h3], Kn.refl _⟩
    · array_get_dec
      refine (from_wp h1).imp ?_
      rintro _ _ ⟨rfl, rfl⟩
      array_get_dec
      refine Br.of (fun c1 => ?_) (fun c1 => ?_)
      · array_get_dec
        refine (from_wp h2).imp ?_
        rintro _ _ ⟨rfl, rfl⟩
        array_get_dec
        refine Br.of (fun c2 => ?_) (fun c2 => ?_)
        · array_get_dec
          refine (wordL_wp h3).imp ?_
          rintro _ T ⟨rfl, k⟩
          exact ⟨by simp only [isK, c1, c2, Bool.true_and], k⟩
        · exact ⟨by simp only [isK, c1, c2, Bool.and_false, Bool.false_and], Kn.refl _⟩
      · exact ⟨by simp only [isK, c1, Bool.false_and], Kn.refl _⟩
  | _ => array_get_dec; exact ⟨rfl, Kn.refl _⟩
theorem Tl.kn {T : Sto} (h : Tl S Fo m n v d) (k : Kn S T) : Tl T Fo m n v d := h.up (Nat.le_refl _) (fun r vs f g => ⟨f, k r _ g⟩) n (Nat.le_refl _)
theorem TlL.kn {T : Sto} {vs : List Val} {ds : List PyData} (h : TlL S Fo m n vs ds) (k : Kn S T) : TlL T Fo m n vs ds := h.up (Nat.le_refl _) (fun r vs f g => ⟨f, k r _ g⟩) n (Nat.le_refl _)
theorem member_wp (h : Tl S Fo m n v d) : Wp (is_member_ [v] S) fun u T => u = .bl (isM v) ∧ Kn S T := by
  refine AL.wf ?_; simp only [List.map_cons, List.map_nil, List.length_cons, List.length_nil, Nat.reduceAdd, Nat.reduceSub, List.replicate_succ, List.replicate_zero, List.cons_append, List.nil_append]; unfold is_member_B; array_get_dec
  refine isTu_wp h ?_
  cases h with
  | tup h =>
    array_get_dec
    rcases three h with h3 | ⟨a, b, c, x, y, z, rfl, h1, h2, h3⟩
    · refine brT (by rw [decide_eq_false (by omega)]; rfl) ?_
      array_get_dec
      exact ⟨by rw [isM_no h3], Kn.refl _⟩
    · array_get_dec
      refine (word_wp h1).imp ?_
      rintro _ T ⟨rfl, k⟩
      array_get_dec
      refine Br.of (fun c1 => ?_) (fun c1 => ?_)
      · array_get_dec
        refine (count_wp (Tl.kn h2 k)).imp ?_
        rintro _ _ ⟨rfl, rfl⟩
        array_get_dec
        refine Br.of (fun c2 => ?_) (fun c2 => ?_)
        · array_get_dec
          refine (count_wp (Tl.kn h3 k)).imp ?_
          rintro _ _ ⟨rfl, rfl⟩
          exact ⟨by simp only [isM, c1, c2, Bool.true_and], k⟩
        · exact ⟨by simp only [isM, c1, c2, Bool.and_false, Bool.false_and], k⟩
      · exact ⟨by simp only [isM, c1, Bool.false_and], k⟩
  | _ => array_get_dec; exact ⟨rfl, Kn.refl _⟩
def Rsg (l : List Val) : Prop := ∀ i a b, l[i]? = some a → l[i + 1]? = some b → ltV a b = true
noncomputable def rsB (l : List Val) : Bool := @decide (Rsg l) (Classical.propDecidable _)
theorem rsB_iff {l : List Val} : rsB l = true ↔ Rsg l := by
  unfold rsB
  exact @decide_eq_true_iff (Rsg l) (Classical.propDecidable _)
structure Cmp (l : List Val) : Prop where
  ok : ∀ v ∈ l, okV v = true
  sm : ∀ v ∈ l, ∀ u ∈ l, smV v u = true
  len : l.length ≤ 100000
def ltP : Val → Bool
  | .tup [a, b] => ltV a b
  | _ => false
theorem rs_zip (l : List Val) : (zipV l (l.drop 1)).all ltP = rsB l := by
  rw [Bool.eq_iff_iff, List.all_eq_true]
  rw [rsB_iff]
  constructor
  · intro h i a b ha hb
    refine h (.tup [a, b]) ?_
    unfold zipV
    refine List.mem_map.mpr ⟨(a, b), ?_, rfl⟩
    refine List.mem_of_getElem? (i := i) (List.getElem?_zip_eq_some.mpr ⟨ha, ?_⟩)
    rw [List.getElem?_drop, Nat.add_comm]
    exact hb
  · intro h v hv
    obtain ⟨i, hi⟩ := List.getElem?_of_mem hv
    obtain ⟨a, b, h1, h2, rfl⟩ := zipV_get hi
    rw [List.getElem?_drop, Nat.add_comm] at h2
    exact h i a b h1 h2
theorem wiZ2 {ρ : Rho} {ga : AF} {X : List Val → (Sto → Prop) → Sto → Prop} (h : Wp (ga ρ S) fun vs S1 => ∃ k n as bs, vs = [.ref k, .ref n] ∧ S1[k]? = some (.lst as) ∧ S1[n]? = some (.lst bs) ∧ X (zipV as bs) (fun S => S[k]? = some (.lst as) ∧ S[n]? = some (.lst bs)) S1) : Wi (iZp ga ρ S) X := by
  obtain ⟨v, S1, e, k, n, as, bs, rfl, h1, h2, h⟩ := h
  exact ⟨_, _, _, by unfold iZp; rw [e]; simp only [Option.bind_some, h1, h2], h⟩
theorem vSlAL {Q : Val → Sto → Prop} {n : Nat} {lo hi : Option Int} {vs : List Val} (h : S[n]? = some (.lst vs)) (q : Nw S (.lst (cutL vs lo hi)) Q) : Wp (gSlA (.ref n) lo hi S) Q := by
  show Wp (gSl (.ref n) lo hi S) Q
  exact ⟨_, _, by simp only [gSl, h], q.use⟩
theorem vLtDv {Q : Val → Sto → Prop} {x y : Val} (h1 : okV x = true) (h2 : okV y = true) (h3 : smV x y = true) (q : Q (.bl (ltV x y)) S) : Wp (gLtD x y S) Q := ⟨_, _, if_pos ⟨h1, h2, h3⟩, q⟩
theorem zip_mem {l : List Val} (hv : v ∈ zipV l (l.drop 1)) : ∃ a b, a ∈ l ∧ b ∈ l ∧ v = .tup [a, b] := by
  obtain ⟨i, hi⟩ := List.getElem?_of_mem hv
  obtain ⟨a, b, h1, h2, rfl⟩ := zipV_get hi
  exact ⟨a, b, List.mem_of_getElem? h1, List.mem_of_mem_drop (List.mem_of_getElem? h2), rfl⟩
theorem zip_len {l : List Val} : (zipV l (l.drop 1)).length ≤ l.length := by
  unfold zipV
  rw [List.length_map, List.length_zip]
  omega
theorem rises_go {l : List Val} (c : Cmp l) (hv : v = .tup l ∨ ∃ r, v = .ref r ∧ S[r]? = some (.lst l)) : Wp (rises_ [v] S) fun u T => u = .bl (rsB l) ∧ Kn S T := by
  have cl := c.len
  have zl := zip_len (l := l)
  have c1 : cutL l (some 1) none = l.drop 1 := cutD l 1
  rcases hv with rfl | ⟨r, rfl, g⟩
  · refine AL.wf ?_; simp only [List.map_cons, List.map_nil, List.length_cons, List.length_nil, Nat.reduceAdd, Nat.reduceSub, List.replicate_succ, List.replicate_zero, List.cons_append, List.nil_append]; unfold rises_B; array_get_dec
    refine vSlA rfl ?_
    rw [c1]
    array_get_dec
    refine ⟨_, _, rfl, ?_⟩
    refine lc_pure (fun _ => true) (fun v => .bl (ltP v)) trivial (by omega) (fun v hv => ?_) ?_
    · obtain ⟨a, b, ha, hb, rfl⟩ := zip_mem hv
      refine bn rfl ?_
      array_get_dec
      refine ⟨rfl, rfl, fun _ => ?_⟩
      array_get_dec
      exact vLtDv (c.ok a ha) (c.ok b hb) (c.sm a ha b hb) ⟨rfl, rfl⟩
    · intro T r e_r l_T g_r k_T
      array_get_dec
      refine all_wp g_r ⟨?_, k_T⟩
      rw [rs_zip]
  · refine AL.wf ?_
    simp only [List.map_cons, List.map_nil, List.length_cons, List.length_nil, Nat.reduceAdd, Nat.reduceSub, List.replicate_succ, List.replicate_zero, List.cons_append, List.nil_append]
    unfold rises_B
    refine ws_ret ?_
    refine wCall ?_
    refine wa1 ?_
    refine wLc ?_
    refine wiZ2 ?_
    array_get_dec
    refine vSlAL g ?_
    rw [c1]
    intro T0 r0 e_r0 l_T0 g_r0 k_T0
    array_get_dec
    refine ⟨_, _, _, _, rfl, k_T0 _ _ g, g_r0, ?_⟩
    refine lc_pure (fun _ => true) (fun v => .bl (ltP v)) ⟨k_T0 _ _ g, g_r0⟩ (by omega) (fun v hv => ?_) ?_
    · obtain ⟨a, b, ha, hb, rfl⟩ := zip_mem hv
      refine bn rfl ?_
      array_get_dec
      refine ⟨rfl, rfl, fun _ => ?_⟩
      array_get_dec
      exact vLtDv (c.ok a ha) (c.ok b hb) (c.sm a ha b hb) ⟨rfl, rfl⟩
    · intro T r e_r l_T g_r k_T
      array_get_dec
      refine all_wp g_r ⟨?_, k_T0.trans k_T⟩
      rw [rs_zip]
def bS (l : List Val) : Val → Bool
  | .int i => !ltV (l.getD (i - 1).toNat .non) (l.getD i.toNat .non)
  | _ => false
theorem risesL_go {l : List Val} (c : Cmp l) (hv : v = .tup l ∨ ∃ r, v = .ref r ∧ S[r]? = some (.lst l)) : Wp (risesL_ [v] S) fun u T => u = .bl (rsB l) ∧ Kn S T := by
  have cl := c.len
  have ix : ∀ {k : Nat} {a : Val} {Q : Val → Sto → Prop}, l[k]? = some a → Q a S → Wp (gIxA v (.int (k : Int)) S) Q := fun {k a Q} e q => by
    rcases hv with rfl | ⟨r, rfl, g⟩
    · exact vIxT rfl rfl (atI_nat e) q
    · exact vIxL rfl rfl g (atI_nat e) q
  have ln : ∀ {Q : Val → Sto → Prop}, Q (.int l.length) S → Wp (gLen [v] S) Q := fun {Q} q => by
    rcases hv with rfl | ⟨r, rfl, g⟩
    · exact vLenT rfl q
    · exact vLenL rfl g q
  have h62 := p62
  refine AL.wf ?_; simp only [List.map_cons, List.map_nil, List.length_cons, List.length_nil, Nat.reduceAdd, Nat.reduceSub, List.replicate_succ, List.replicate_zero, List.cons_append, List.nil_append]; unfold risesL_B; array_get_dec
  refine ln ?_
  array_get_dec
  refine ⟨_, _, rfl, ?_, by omega, by omega, by omega, by omega⟩
  refine lc_pure (bS l) id trivial (by rw [rangeV_len]; omega) (fun v hv => ?_) ?_
  · unfold rangeV at hv
    obtain ⟨k, hk, rfl⟩ := List.mem_map.mp hv
    have hk := List.mem_range.mp hk
    have e1 := List.getElem?_eq_getElem (l := l) (i := k) (by omega)
    have e2 := List.getElem?_eq_getElem (l := l) (i := k + 1) (by omega)
    refine bn rfl ?_
    array_get_dec
    have z1 : (1 : Int) + (k : Int) - 1 = (k : Int) := by omega
    have z2 : (1 : Int) + (k : Int) = ((k + 1 : Nat) : Int) := by omega
    rw [z1]
    refine ix e1 ?_
    array_get_dec
    rw [z2]
    refine ix e2 ?_
    refine vGeD (c.ok _ (List.getElem_mem _)) (c.ok _ (List.getElem_mem _)) (c.sm _ (List.getElem_mem _) _ (List.getElem_mem _)) ?_
    array_get_dec
    refine ⟨?_, rfl, fun _ => ?_⟩
    · show _ = !ltV (l.getD (((k + 1 : Nat) : Int) - 1).toNat .non) (l.getD (((k + 1 : Nat) : Int)).toNat .non)
      rw [show (((k + 1 : Nat) : Int) - 1).toNat = k by omega, show (((k + 1 : Nat) : Int)).toNat = k + 1 by omega, List.getD_eq_getElem?_getD, List.getD_eq_getElem?_getD, e1, e2]
      rfl
    · array_get_dec
      exact ⟨rfl, rfl⟩
  · intro T r e_r l_T g_r k_T
    array_get_dec
    intro T2 r2 e_r2 l_T2 g_r2 k_T2
    array_get_dec
    have tl : ∀ L : List Val, (∀ v ∈ L, ∃ k : Nat, k ≤ 100000 ∧ v = .int (1 + (k : Int))) → ∃ ds, TlL T2 (fun _ => True) 200000 0 L ds := fun L => by
      induction L with
      | nil => exact fun _ => ⟨_, .nil⟩
      | cons a L ih =>
        intro h
        obtain ⟨k, hk, rfl⟩ := h a List.mem_cons_self
        obtain ⟨ds, hds⟩ := ih fun v hv => h v (List.mem_cons_of_mem _ hv)
        exact ⟨_, .cons (.int _ (by omega)) hds⟩
    have mem : ∀ v ∈ rangeV 1 ((l.length : Int) - 1).toNat, ∃ k : Nat, k + 1 < l.length ∧ v = .int (1 + (k : Int)) := fun v hv => by
      unfold rangeV at hv
      obtain ⟨k, hk, rfl⟩ := List.mem_map.mp hv
      have hk := List.mem_range.mp hk
      exact ⟨k, by omega, rfl⟩
    obtain ⟨ds, hds⟩ := tl (((rangeV 1 ((l.length : Int) - 1).toNat).filter (bS l)).map id) (fun v hv => by
      rw [List.map_id] at hv
      obtain ⟨k, hk, e⟩ := mem v (List.mem_filter.mp hv).1
      exact ⟨k, by omega, e⟩)
    refine vEqNilD (Nat.lt_of_lt_of_le (show 200000 < 2 ^ 20 by decide) (Nat.pow_le_pow_right (by decide) (by decide))) (by decide) hds (k_T2 _ _ g_r) g_r2 ⟨?_, k_T.trans k_T2⟩
    refine congrArg Val.bl ?_
    rw [Bool.eq_iff_iff, rsB_iff, List.map_id, List.isEmpty_iff, List.filter_eq_nil_iff]
    constructor
    · intro h i a b ha hb
      have lt := (List.getElem?_eq_some_iff.mp hb).1
      have := h (.int (1 + (i : Int))) (by
        unfold rangeV
        exact List.mem_map.mpr ⟨i, List.mem_range.mpr (by omega), rfl⟩)
      simp only [bS, Bool.not_eq_true, Bool.not_eq_false'] at this
      rw [show ((1 : Int) + (i : Int) - 1).toNat = i by omega, show ((1 : Int) + (i : Int)).toNat = i + 1 by omega, List.getD_eq_getElem?_getD, List.getD_eq_getElem?_getD, ha, hb] at this
      exact this
    · intro h v hv
      obtain ⟨i, hi, rfl⟩ := mem v hv
      have e1 := List.getElem?_eq_getElem (l := l) (i := i) (by omega)
      have e2 := List.getElem?_eq_getElem (l := l) (i := i + 1) (by omega)
      have := h i _ _ e1 e2
      simp only [bS]
      rw [show ((1 : Int) + (i : Int) - 1).toNat = i by omega, show ((1 : Int) + (i : Int)).toNat = i + 1 by omega, List.getD_eq_getElem?_getD, List.getD_eq_getElem?_getD, e1, e2, Option.getD_some, Option.getD_some, this]
      decide
end
end K55
namespace K55
open PySem PySem.Spec PyProof.Rows L2 G Th AL KL Fr Od
open K57 (feedL_ feedL_B drawL_ drawL_B netL_ netL_B keyL_ keyL_B endsL_ endsL_B stateL_ stateL_B Tf draw_wp)
open K37 (fmod_lt p60 p40 p62 at_ints)
open K08 (ws_cut)
section
variable {S : Sto} {Fo : Nat → Prop} {m n : Nat} {v : Val} {d : PyData}
def hd0 : Val → Val
  | .tup (a :: _) => a
  | _ => .non
noncomputable def inB (x : Val) (N : List Val) : Bool := @decide (x ∈ N) (Classical.propDecidable _)
theorem inB_iff {x : Val} {N : List Val} : inB x N = true ↔ x ∈ N := by
  unfold inB
  exact @decide_eq_true_iff (x ∈ N) (Classical.propDecidable _)
noncomputable def isMs : Val → Bool
  | .tup ms => ms.all isM && rsB (ms.map hd0)
  | _ => false
noncomputable def isWr (N : List Val) : Val → Bool
  | .tup [a, b] => inB a N && (inB b N && ltV a b)
  | _ => false
noncomputable def isWs (N : List Val) : Val → Bool
  | .tup ws => ws.all (isWr N) && rsB ws
  | _ => false
def hds : Val → List Val
  | .tup ms => ms.map hd0
  | _ => []
noncomputable def isNt : Val → Bool
  | .tup [a, b] => isMs a && isWs (hds a) b
  | _ => false
def Nms (N : List Val) : Prop := ∀ v ∈ N, ∃ x, v = .str x ∧ PyData.strOk x = true ∧ x.cps.size ≤ 70
theorem in_wp {Q : Val → Sto → Prop} {neg : Bool} {r : Nat} {x : Val} {N : List Val} (hm : m < 2 ^ 900) (hn : n ≤ 37) (h : Tl S Fo m n x d) (hN : Nms N) (g : S[r]? = some (.lst N)) (q : Q (.bl (if neg then !inB x N else inB x N)) S) : Wp (gInD neg x (.ref r) S) Q := by
  have tl : ∀ N : List Val, Nms N → ∃ ds, TlL S (fun _ => True) 0 0 N ds ∧ (ds.any fun z => PyData.eqv z d) = inB x N := fun N => by
    induction N with
    | nil =>
      refine fun _ => ⟨_, .nil, ?_⟩
      rw [Eq.comm, List.any_nil, ← Bool.not_eq_true, inB_iff]
      exact List.not_mem_nil
    | cons a N ih =>
      intro hN
      obtain ⟨y, rfl, hy, ly⟩ := hN a List.mem_cons_self
      obtain ⟨ds, hds, e⟩ := ih fun v hv => hN v (List.mem_cons_of_mem _ hv)
      refine ⟨_, .cons (.str y hy ly) hds, ?_⟩
      rw [List.any_cons, e, Bool.eq_iff_iff, Bool.or_eq_true, inB_iff, inB_iff, List.mem_cons]
      refine or_congr ?_ Iff.rfl
      cases h with
      | str z hz lz =>
        simp [PyData.eqv]
        exact eq_comm
      | _ => simp [PyData.eqv]
  obtain ⟨ds, hds, e⟩ := tl N hN
  have hU : Tl S (fun _ => True) 0 1 (.ref r) (.list ds) := .lst trivial g hds
  refine ⟨_, S, ?_, q⟩
  unfold gInD
  simp only [h.toD 40 (by omega), hU.toD 40 (by omega)]
  rw [if_pos ⟨h.shaped hm (by omega), hU.shaped (Nat.lt_of_lt_of_le Nat.zero_lt_one Nat.one_le_two_pow) (by omega)⟩, e]
theorem isM_of (h : Tl S Fo m n v d) (hv : isM v = true) : ∃ x b c, v = .tup [.str x, b, c] ∧ PyData.strOk x = true ∧ x.cps.size ≤ 70 := by
  unfold isM at hv
  split at hv
  · next a b c =>
    cases h with
    | tup h =>
      cases h with
      | cons h1 h2 =>
        rw [Bool.and_eq_true] at hv
        cases h1 with
        | str x hx l => exact ⟨x, b, c, rfl, hx, l⟩
        | _ => exact absurd hv.1 (by simp [isW])
  · cases hv
theorem hd_nms {vs : List Val} {ds : List PyData} (h : TlL S Fo m n vs ds) (hv : vs.all isM = true) : Nms (vs.map hd0) := fun u hu => by
  obtain ⟨v, hm, rfl⟩ := List.mem_map.mp hu
  obtain ⟨d, _, t⟩ := h.mem hm
  obtain ⟨x, b, c, rfl, h1, h2⟩ := isM_of t (List.all_eq_true.mp hv v hm)
  exact ⟨x, rfl, h1, h2⟩
theorem str_okV {x : Str} (h : PyData.strOk x = true) : okV (.str x) = true := by
  simp only [okV, pureV, dV, PyData.canLay0, h, PyData.depth, Bool.and_true, Bool.true_and]
  decide
theorem Nms.cmp {N : List Val} (h : Nms N) (l : N.length ≤ 100000) : Cmp N := ⟨fun v hv => by
  obtain ⟨x, rfl, h1, h2⟩ := h v hv
  exact str_okV h1, fun v hv u hu => by
  obtain ⟨x, rfl, h1, h2⟩ := h v hv
  obtain ⟨y, rfl, h3, h4⟩ := h u hu
  rfl, l⟩
theorem wires_cmp {N : List Val} {vs : List Val} (h : Nms N) (hv : vs.all (isWr N) = true) (l : vs.length ≤ 100000) : Cmp vs := by
  have : ∀ v ∈ vs, ∃ x y : Str, v = .tup [.str x, .str y] ∧ PyData.strOk x = true ∧ PyData.strOk y = true := fun v hm => by
    have := List.all_eq_true.mp hv v hm
    unfold isWr at this
    split at this
    · next a b =>
      simp only [Bool.and_eq_true] at this
      obtain ⟨x, rfl, h1, _⟩ := h a (inB_iff.mp this.1)
      obtain ⟨y, rfl, h2, _⟩ := h b (inB_iff.mp this.2.1)
      exact ⟨x, y, rfl, h1, h2⟩
    · cases this
  refine ⟨fun v hv => ?_, fun v hv u hu => ?_, l⟩
  · obtain ⟨x, y, rfl, h1, h2⟩ := this v hv
    simp only [okV, pureV, pureVs, dV, dVs, PyData.canLay0, PyData.canLayAll0, h1, h2, PyData.depth, PyData.depthAll, Bool.and_true, Bool.true_and]
    decide
  · obtain ⟨x, y, rfl, h1, h2⟩ := this v hv
    obtain ⟨z, w, rfl, h3, h4⟩ := this u hu
    rfl
/-- a list of answers -/
theorem names_step {ρ : Rho} {vs : List Val} {ds : List PyData} (h : TlL S Fo m n vs ds) (hv : vs.all isM = true) {u : Val} (hu : u ∈ vs) {Q : Val → Sto → Prop} (q : Q (hd0 u) S) : Wp (gIxA u (.int 0) S) Q := by
  obtain ⟨d, _, t⟩ := h.mem hu
  obtain ⟨x, b, c, rfl, h1, h2⟩ := isM_of t (List.all_eq_true.mp hv u hu)
  exact vIxT rfl rfl rfl q
theorem take_succ_map {α β : Type} {f : α → β} {l : List α} {i : Nat} {a : α} (h : l[i]? = some a) : (l.take (i + 1)).map f = (l.take i).map f ++ [f a] := by
  rw [List.take_add_one, h, List.map_append]
  rfl
theorem members_wp (h : Tl S Fo m n v d) (hw : d.weight ≤ 90000) : Wp (are_members_ [v] S) fun u T => u = .bl (isMs v) ∧ Kn S T := by
  refine AL.wf ?_; simp only [List.map_cons, List.map_nil, List.length_cons, List.length_nil, Nat.reduceAdd, Nat.reduceSub, List.replicate_succ, List.replicate_zero, List.cons_append, List.nil_append]; unfold are_members_B; array_get_dec
  refine isTu_wp h ?_
  cases h with
  | @tup n' vs ds h =>
    have ln := h.len
    have ll : vs.length ≤ 90000 := by
      have wl : ∀ ds : List PyData, ds.length ≤ PyData.weightAll ds := fun ds => by
        induction ds with
        | nil => exact Nat.zero_le _
        | cons a b ih => simp only [PyData.weightAll, List.length_cons]; omega
      have := wl ds
      have : PyData.weightAll ds ≤ 90000 := hw
      omega
    array_get_dec
    refine .inl ⟨_, rfl, ?_⟩
    refine lc_inv (fun i a T => a = (vs.take i).map (fun v => .bl (isM v)) ∧ Kn S T) (by omega) ⟨rfl, Kn.refl _⟩ (fun _ _ _ _ _ => trivial) (fun i a T hI => by rw [hI.1, List.length_map, List.length_take]; omega) (fun i u a T hu hI => ?_) ?_
    · obtain ⟨rfl, k⟩ := hI
      refine bn rfl ?_
      array_get_dec
      obtain ⟨d, _, t⟩ := h.get hu
      refine (member_wp (Tl.kn t k)).imp ?_
      rintro _ U ⟨rfl, k2⟩
      exact ⟨(take_succ_map hu).symm, k.trans k2⟩
    · rintro a T ⟨rfl, k⟩
      rw [List.take_of_length_le (Nat.le_refl _)]
      intro T2 r2 e_r2 l_T2 g_r2 k_T2
      array_get_dec
      refine vAll (bs := vs.map isM) rfl (by rw [List.map_map]; exact g_r2) ?_
      array_get_dec
      rw [List.all_map]
      refine Br.of (fun c => ?_) (fun c => ?_)
      · array_get_dec
        refine ⟨?_, k.trans k_T2⟩
        rw [Bool.not_eq_true'] at c
        simp only [isMs, show vs.all isM = false from c, Bool.false_and]
      · have c : vs.all isM = true := by rw [Bool.not_eq_false'] at c; exact c
        array_get_dec
        refine .inl ⟨_, rfl, ?_⟩
        refine lc_pure (fun _ => true) hd0 trivial (by omega) (fun u hu => ?_) ?_
        · refine bn rfl ?_
          array_get_dec
          refine ⟨rfl, rfl, fun _ => ?_⟩
          array_get_dec
          exact names_step (ρ := []) (TlL.kn h (k.trans k_T2)) c hu ⟨rfl, rfl⟩
        · intro T3 r3 e_r3 l_T3 g_r3 k_T3
          array_get_dec
          rw [List.filter_eq_self.mpr (fun _ _ => rfl)] at g_r3
          refine (rises_go ((hd_nms h c).cmp (by rw [List.length_map]; omega)) (.inr ⟨r3, rfl, g_r3⟩)).imp ?_
          rintro _ U ⟨rfl, k4⟩
          exact ⟨by simp only [isMs, c, Bool.true_and], ((k.trans k_T2).trans k_T3).trans k4⟩
  | _ => array_get_dec; exact ⟨rfl, Kn.refl _⟩
end
end K55
namespace K55
open PySem PySem.Spec PyProof.Rows L2 G Th AL KL Fr Od
open K57 (feedL_ feedL_B drawL_ drawL_B netL_ netL_B keyL_ keyL_B endsL_ endsL_B stateL_ stateL_B Tf draw_wp)
open K37 (fmod_lt p60 p40 p62 at_ints)
open K08 (ws_cut)
section
variable {S : Sto} {Fo : Nat → Prop} {m n : Nat} {v : Val} {d : PyData}
theorem two {vs : List Val} {ds : List PyData} (h : TlL S Fo m n vs ds) : vs.length ≠ 2 ∨ ∃ a b x y, vs = [a, b] ∧ ds = [x, y] ∧ Tl S Fo m n a x ∧ Tl S Fo m n b y := by
  match vs, h with
  | [], _ => exact .inl (by decide)
  | [a], _ => exact .inl (by simp)
  | [a, b], .cons h1 (.cons h2 .nil) => exact .inr ⟨a, b, _, _, rfl, rfl, h1, h2⟩
  | a :: b :: c :: r, _ => exact .inl (by simp)
theorem isWr_no {N : List Val} {vs : List Val} (h : vs.length ≠ 2) : isWr N (.tup vs) = false := by
  unfold isWr
  split
  · next e => cases e; exact absurd rfl h
  · rfl
theorem isNt_no {vs : List Val} (h : vs.length ≠ 2) : isNt (.tup vs) = false := by
  unfold isNt
  split
  · next e => cases e; exact absurd rfl h
  · rfl
theorem wl : ∀ ds : List PyData, ds.length ≤ PyData.weightAll ds
  | [] => Nat.zero_le _
  | a :: b => by
    have := wl b
    simp only [PyData.weightAll, List.length_cons]
    omega
theorem wire_wp {N : List Val} {r : Nat} (hm : m < 2 ^ 900) (hn : n ≤ 37) (h : Tl S Fo m n v d) (hN : Nms N) (g : S[r]? = some (.lst N)) : Wp (is_wire_ [v, .ref r] S) fun u T => u = .bl (isWr N v) ∧ T = S := by
  refine AL.wf ?_; simp only [List.map_cons, List.map_nil, List.length_cons, List.length_nil, Nat.reduceAdd, Nat.reduceSub, List.replicate_succ, List.replicate_zero, List.cons_append, List.nil_append]; unfold is_wire_B; array_get_dec
  refine isTu_wp h ?_
  cases h with
  | tup h =>
    array_get_dec
    rcases two h with h2 | ⟨a, b, x, y, rfl, rfl, h1, h2⟩
    · refine brT (by rw [decide_eq_false (by omega)]; rfl) ?_
      array_get_dec
      exact ⟨by rw [isWr_no h2], rfl⟩
    · array_get_dec
      refine in_wp hm (by omega) h1 hN g ?_
      array_get_dec
      refine Br.of (fun c1 => ?_) (fun c1 => ?_)
      · array_get_dec
        refine in_wp hm (by omega) h2 hN g ?_
        array_get_dec
        refine Br.of (fun c2 => ?_) (fun c2 => ?_)
        · obtain ⟨p, rfl, hp, _⟩ := hN a (inB_iff.mp c1)
          obtain ⟨q, rfl, hq, _⟩ := hN b (inB_iff.mp c2)
          array_get_dec
          refine vLtDv (str_okV hp) (str_okV hq) rfl ⟨?_, rfl⟩
          have c1 : inB (.str p) N = true := c1
          have c2 : inB (.str q) N = true := c2
          simp only [isWr, c1, c2, Bool.true_and]
        · refine ⟨?_, rfl⟩
          have c2 : inB b N = false := c2
          simp only [isWr, c2, Bool.false_and, Bool.and_false]
      · refine ⟨?_, rfl⟩
        have c1 : inB a N = false := c1
        simp only [isWr, c1, Bool.false_and]
  | _ => array_get_dec; exact ⟨rfl, rfl⟩
theorem wires_wp {N : List Val} {r : Nat} (hm : m < 2 ^ 900) (hn : n ≤ 37) (h : Tl S Fo m n v d) (hw : d.weight ≤ 90000) (hN : Nms N) (g : S[r]? = some (.lst N)) : Wp (are_wires_ [v, .ref r] S) fun u T => u = .bl (isWs N v) ∧ Kn S T := by
  refine AL.wf ?_; simp only [List.map_cons, List.map_nil, List.length_cons, List.length_nil, Nat.reduceAdd, Nat.reduceSub, List.replicate_succ, List.replicate_zero, List.cons_append, List.nil_append]; unfold are_wires_B; array_get_dec
  refine isTu_wp h ?_
  cases h with
  | @tup n' vs ds h =>
    have ln := h.len
    have ll : vs.length ≤ 90000 := by
      have := wl ds
      have : PyData.weightAll ds ≤ 90000 := hw
      omega
    array_get_dec
    refine .inl ⟨_, rfl, ?_⟩
    refine lc_pure (fun _ => true) (fun v => .bl (isWr N v)) trivial (by omega) (fun u hu => ?_) ?_
    · obtain ⟨d, _, t⟩ := h.mem hu
      refine bn rfl ?_
      array_get_dec
      refine ⟨rfl, rfl, fun _ => ?_⟩
      array_get_dec
      exact wire_wp hm (by omega) t hN g
    · intro T2 r2 e_r2 l_T2 g_r2 k_T2
      array_get_dec
      refine all_wp g_r2 ?_
      array_get_dec
      refine Br.of (fun c => ?_) (fun c => ?_)
      · array_get_dec
        refine ⟨?_, k_T2⟩
        rw [Bool.not_eq_true'] at c
        simp only [isWs, c, Bool.false_and]
      · rw [Bool.not_eq_false'] at c
        array_get_dec
        refine (rises_go (wires_cmp hN c (by omega)) (.inl rfl)).imp ?_
        rintro _ U ⟨rfl, k4⟩
        exact ⟨by simp only [isWs, c, Bool.true_and], k_T2.trans k4⟩
  | _ => array_get_dec; exact ⟨rfl, Kn.refl _⟩
theorem isMs_of {v : Val} (h : isMs v = true) : ∃ ms, v = .tup ms ∧ ms.all isM = true := by
  unfold isMs at h
  split at h
  · next ms =>
    rw [Bool.and_eq_true] at h
    exact ⟨ms, rfl, h.1⟩
  · cases h
theorem isnet_wp (hm : m < 2 ^ 900) (hn : n ≤ 36) (h : Tl S Fo m n v d) (hw : d.weight ≤ 80000) : Wp (is_net_ [v] S) fun u T => u = .bl (isNt v) ∧ Kn S T := by
  refine AL.wf ?_; simp only [List.map_cons, List.map_nil, List.length_cons, List.length_nil, Nat.reduceAdd, Nat.reduceSub, List.replicate_succ, List.replicate_zero, List.cons_append, List.nil_append]; unfold is_net_B; array_get_dec
  refine isTu_wp h ?_
  cases h with
  | @tup n' vs ds h =>
    array_get_dec
    rcases two h with h2 | ⟨a, b, x, y, rfl, rfl, h1, h2⟩
    · refine brT (by rw [decide_eq_false (by omega)]; rfl) ?_
      array_get_dec
      exact ⟨by rw [isNt_no h2], Kn.refl _⟩
    · have hw : PyData.weightAll [x, y] ≤ 80000 := hw
      simp only [PyData.weightAll] at hw
      array_get_dec
      refine (members_wp h1 (by omega)).imp ?_
      rintro _ T ⟨rfl, k⟩
      array_get_dec
      refine Br.of (fun c1 => ?_) (fun c1 => ?_)
      · obtain ⟨ms, rfl, hms⟩ := isMs_of c1
        cases h1 with
        | @tup n'' _ ds h1 =>
          have ln := h1.len
          have ll : ms.length ≤ 90000 := by
            have := wl ds
            have : PyData.weightAll ds ≤ 80000 := by show (PyData.tuple ds).weight ≤ _; omega
            omega
          array_get_dec
          refine .inl ⟨_, rfl, ?_⟩
          refine lc_pure (fun _ => true) hd0 trivial (by omega) (fun u hu => ?_) ?_
          · refine bn rfl ?_
            array_get_dec
            refine ⟨rfl, rfl, fun _ => ?_⟩
            array_get_dec
            exact names_step (ρ := []) (TlL.kn h1 k) hms hu ⟨rfl, rfl⟩
          · intro T3 r3 e_r3 l_T3 g_r3 k_T3
            array_get_dec
            rw [List.filter_eq_self.mpr (fun _ _ => rfl)] at g_r3
            refine (wires_wp hm (by omega) (Tl.kn h2 (k.trans k_T3)) (by omega) (hd_nms h1 hms) g_r3).imp ?_
            rintro _ U ⟨rfl, k4⟩
            refine ⟨?_, (k.trans k_T3).trans k4⟩
            simp only [isNt, c1, Bool.true_and, hds]
      · exact ⟨by simp only [isNt, c1, Bool.false_and], k⟩
  | _ => array_get_dec; exact ⟨rfl, Kn.refl _⟩
end
end K55
namespace K55
open PySem PySem.Spec PyProof.Rows L2 G Th AL KL Fr Od
open K57 (feedL_ feedL_B drawL_ drawL_B netL_ netL_B keyL_ keyL_B endsL_ endsL_B stateL_ stateL_B Tf draw_wp)
open K37 (fmod_lt p60 p40 p62 at_ints)
open K08 (ws_cut)
section
variable {S : Sto} {Fo : Nat → Prop} {m n : Nat} {v : Val} {d : PyData}
theorem isnetL_wp (hm : m < 2 ^ 900) (hn : n ≤ 36) (h : Tl S Fo m n v d) (hw : d.weight ≤ 80000) : Wp (is_netL_ [v] S) fun u T => u = .bl (isNt v) ∧ Kn S T := by
  refine AL.wf ?_
  simp only [List.map_cons, List.map_nil, List.length_cons, List.length_nil, Nat.reduceAdd, Nat.reduceSub, List.replicate_succ, List.replicate_zero, List.cons_append, List.nil_append]
  unfold is_netL_B
  refine ws_seq ?_
  refine ws_if ?_
  array_get_dec
  refine isTu_wp h ?_
  cases h with
  | @tup n' vs ds h =>
    array_get_dec
    rcases two h with h2 | ⟨a, b, x, y, rfl, rfl, h1, h2⟩
    · refine brT (by rw [decide_eq_false (by omega)]; rfl) ?_
      array_get_dec
      exact ⟨by rw [isNt_no h2], Kn.refl _⟩
    · have hw : PyData.weightAll [x, y] ≤ 80000 := hw
      simp only [PyData.weightAll] at hw
      array_get_dec
      refine isTu_wp h1 ?_
      have aTu : isTu a = false → isNt (.tup [a, b]) = false := fun e => by
        cases h1 with
        | tup h => cases e
        | _ => rfl
      array_get_dec
      refine Br.of (fun c => ?_) (fun c => ?_)
      · rw [Bool.not_eq_true'] at c
        array_get_dec
        exact ⟨by rw [aTu c], Kn.refl _⟩
      · rw [Bool.not_eq_false'] at c
        array_get_dec
        cases h1 with
        | @tup n'' ms dms h1 =>
          have ln := h1.len
          have ll : ms.length ≤ 90000 := by
            have := wl dms
            have : PyData.weightAll dms ≤ 80000 := by show (PyData.tuple dms).weight ≤ _; omega
            omega
          have noM : ∀ u ∈ ms, isM u = false → isNt (.tup [.tup ms, b]) = false := fun u hu e => by
            have : ms.all isM = false := by
              rw [← Bool.not_eq_true, List.all_eq_true]
              intro h
              rw [h u hu] at e
              cases e
            simp only [isNt, isMs, this, Bool.false_and]
          refine .inl ⟨_, rfl, ?_⟩
          refine ws_loop (fun i ρ T => (∃ o, ρ = [some (.tup [.tup ms, b]), o, none, none]) ∧ Kn S T ∧ (ms.take i).all isM = true) ⟨⟨_, rfl⟩, Kn.refl _, rfl⟩ (fun _ _ _ _ _ => trivial) (fun i u ρ T hu hI => ?_) ?_
          · obtain ⟨⟨o, rfl⟩, k, ha⟩ := hI
            obtain ⟨d, _, t⟩ := h1.get hu
            have tk := Tl.kn t k
            have um := List.mem_of_getElem? hu
            refine bn rfl ?_
            array_get_dec
            refine isTu_wp tk ?_
            clear t
            cases tk with
            | tup tt =>
              array_get_dec
              rcases three tt with h3 | ⟨a', b', c', x', y', z', rfl, t1, t2, t3⟩
              · refine brT (by rw [decide_eq_false (by omega)]; rfl) ?_
                array_get_dec
                exact ⟨by rw [noM _ um (isM_no h3)], k⟩
              · array_get_dec
                refine vSlA rfl ?_
                array_get_dec
                refine vSlA rfl ?_
                have ecut : cutL [a', b', c'] (some 1) none ++ cutL [a', b', c'] none (some 1) = [b', c', a'] := rfl
                refine vAddT rfl rfl (by rw [← List.length_append, ecut]; exact Nat.le_of_ble_eq_true rfl) ?_
                rw [ecut]
                array_get_dec
                refine (keyL_wp (Tl.tup (.cons t2 (.cons t3 (.cons t1 .nil))))).imp ?_
                rintro _ U ⟨rfl, k2⟩
                array_get_dec
                have ek : isK (.tup [b', c', a']) = isM (.tup [a', b', c']) := by
                  simp only [isK, isM]
                  cases isC b' <;> cases isC c' <;> cases isW a' <;> rfl
                rw [ek]
                refine Br.of (fun c => ?_) (fun c => ?_)
                · rw [Bool.not_eq_true'] at c
                  array_get_dec
                  exact ⟨by rw [noM _ um c], k.trans k2⟩
                · rw [Bool.not_eq_false'] at c
                  array_get_dec
                  refine ⟨⟨_, rfl⟩, k.trans k2, ?_⟩
                  rw [List.take_add_one, hu, List.all_append, ha]
                  simp only [Option.toList_some, List.all_cons, List.all_nil, c, Bool.and_self]
            | _ => array_get_dec; exact ⟨by rw [noM _ um rfl], k⟩
          · rintro ρ T ⟨⟨o, rfl⟩, k, ha⟩
            rw [List.take_of_length_le (Nat.le_refl _)] at ha
            array_get_dec
            refine .inl ⟨_, rfl, ?_⟩
            refine lc_pure (fun _ => true) hd0 trivial (by omega) (fun u hu => ?_) ?_
            · refine bn rfl ?_
              array_get_dec
              refine ⟨rfl, rfl, fun _ => ?_⟩
              array_get_dec
              exact names_step (ρ := []) (TlL.kn h1 k) ha hu ⟨rfl, rfl⟩
            · intro T3 r3 e_r3 l_T3 g_r3 k_T3
              array_get_dec
              rw [List.filter_eq_self.mpr (fun _ _ => rfl)] at g_r3
              have hN := hd_nms h1 ha
              refine (risesL_go (hN.cmp (by rw [List.length_map]; omega)) (.inr ⟨r3, rfl, g_r3⟩)).imp ?_
              rintro _ U ⟨rfl, k4⟩
              have kU : Kn S U := (k.trans k_T3).trans k4
              have gU := k4 _ _ g_r3
              array_get_dec
              refine Br.of (fun c => ?_) (fun c => ?_)
              · rw [Bool.not_eq_true'] at c
                array_get_dec
                exact ⟨by simp only [isNt, isMs, c, Bool.and_false, Bool.false_and], kU⟩
              · rw [Bool.not_eq_false'] at c
                array_get_dec
                have net_eq : isNt (.tup [.tup ms, b]) = isWs (ms.map hd0) b := by simp only [isNt, isMs, ha, c, Bool.true_and, hds]
                rw [net_eq]
                have h2U := Tl.kn h2 kU
                refine isTu_wp h2U ?_
                cases h2U with
                | @tup n3 ws dws hws =>
                  have lnw := hws.len
                  have llw : ws.length ≤ 90000 := by
                    have := wl dws
                    have : PyData.weightAll dws ≤ 80000 := by show (PyData.tuple dws).weight ≤ _; omega
                    omega
                  array_get_dec
                  have noW : ∀ u ∈ ws, isWr (ms.map hd0) u = false → isWs (ms.map hd0) (.tup ws) = false := fun u hu e => by
                    have : ws.all (isWr (ms.map hd0)) = false := by
                      rw [← Bool.not_eq_true, List.all_eq_true]
                      intro h
                      rw [h u hu] at e
                      cases e
                    simp only [isWs, this, Bool.false_and]
                  refine .inl ⟨_, rfl, ?_⟩
                  refine ws_loop (fun i ρ T => (∃ o1 o2, ρ = [some (.tup [.tup ms, .tup ws]), o1, some (.ref r3), o2]) ∧ T = U ∧ (ws.take i).all (isWr (ms.map hd0)) = true) ⟨⟨_, _, rfl⟩, rfl, rfl⟩ (fun _ _ _ _ _ => trivial) (fun i u ρ T hu hI => ?_) ?_
                  · obtain ⟨⟨o1, o2, rfl⟩, rfl, hb⟩ := hI
                    obtain ⟨d, _, t⟩ := hws.get hu
                    have um := List.mem_of_getElem? hu
                    refine bn rfl ?_
                    array_get_dec
                    refine isTu_wp t ?_
                    cases t with
                    | tup tt =>
                      array_get_dec
                      rcases two tt with h3 | ⟨a', b', x', y', rfl, _, t1, t2⟩
                      · refine brT (by rw [decide_eq_false (by omega)]; rfl) ?_
                        array_get_dec
                        exact ⟨by rw [noW _ um (isWr_no h3)], kU⟩
                      · array_get_dec
                        refine in_wp hm (by omega) t1 hN gU ?_
                        array_get_dec
                        refine Br.of (fun c1 => ?_) (fun c1 => ?_)
                        · have c1 : (!inB a' (ms.map hd0)) = true := c1
                          rw [Bool.not_eq_true'] at c1
                          array_get_dec
                          exact ⟨by rw [noW _ um (by simp only [isWr, c1, Bool.false_and])], kU⟩
                        · have c1 : (!inB a' (ms.map hd0)) = false := c1
                          rw [Bool.not_eq_false'] at c1
                          array_get_dec
                          refine in_wp hm (by omega) t2 hN gU ?_
                          array_get_dec
                          refine Br.of (fun c2 => ?_) (fun c2 => ?_)
                          · have c2 : (!inB b' (ms.map hd0)) = true := c2
                            rw [Bool.not_eq_true'] at c2
                            array_get_dec
                            exact ⟨by rw [noW _ um (by simp only [isWr, c2, Bool.false_and, Bool.and_false])], kU⟩
                          · have c2 : (!inB b' (ms.map hd0)) = false := c2
                            rw [Bool.not_eq_false'] at c2
                            obtain ⟨p, rfl, hp, _⟩ := hN a' (inB_iff.mp c1)
                            obtain ⟨q, rfl, hq, _⟩ := hN b' (inB_iff.mp c2)
                            array_get_dec
                            refine vGeD (str_okV hp) (str_okV hq) rfl ?_
                            array_get_dec
                            refine Br.of (fun c3 => ?_) (fun c3 => ?_)
                            · rw [Bool.not_eq_true'] at c3
                              array_get_dec
                              exact ⟨by rw [noW _ um (by simp only [isWr, c3, Bool.and_false])], kU⟩
                            · rw [Bool.not_eq_false'] at c3
                              array_get_dec
                              refine ⟨⟨_, _, rfl⟩, rfl, ?_⟩
                              rw [List.take_add_one, hu, List.all_append, hb]
                              simp only [Option.toList_some, List.all_cons, List.all_nil, isWr, c1, c2, c3, Bool.and_self]
                    | _ => array_get_dec; exact ⟨by rw [noW _ um rfl], kU⟩
                  · rintro ρ T ⟨⟨o1, o2, rfl⟩, rfl, hb⟩
                    rw [List.take_of_length_le (Nat.le_refl _)] at hb
                    array_get_dec
                    refine (risesL_go (wires_cmp hN hb (by omega)) (.inl rfl)).imp ?_
                    rintro _ V ⟨rfl, k5⟩
                    exact ⟨by simp only [isWs, hb, Bool.true_and], kU.trans k5⟩
                | _ => array_get_dec; exact ⟨rfl, kU⟩
        | _ => cases c
  | _ => array_get_dec; exact ⟨rfl, Kn.refl _⟩
end
end K55
namespace K55
open PySem PySem.Spec PyProof.Rows L2 G Th AL KL Fr Od
open K57 (other_ends_ other_ends_B feedL_ feedL_B drawL_ drawL_B netL_ netL_B keyL_ keyL_B endsL_ endsL_B stateL_ stateL_B Tf draw_wp)
open K57 (wireV Mb mbV Net netV pool WOk NOk NmOk endsL ends oes oes_perm mem_endsL other_wp endsL_wp)
open K37 (fmod_lt p60 p40 p62 at_ints)
open K08 (ws_cut)
section
variable {S : Sto} {Fo : Nat → Prop} {m n : Nat} {v : Val} {d : PyData} {nn : Net} {x : Str}
noncomputable def eqB (a b : Val) : Bool := @decide (a = b) (Classical.propDecidable _)
theorem eqB_iff {a b : Val} : eqB a b = true ↔ a = b := by
  unfold eqB
  exact @decide_eq_true_iff (a = b) (Classical.propDecidable _)
noncomputable def isSy (N : List Val) : Val → Bool
  | .tup [a, b, c] => isK a && (isC b && inB c N)
  | _ => false
noncomputable def isHr (E : List Val) : Val → Bool
  | .tup [a, b, c, e] => inB a E && (isK b && (isC c && isC e))
  | _ => false
noncomputable def isHd (E : List Val) : Val → Bool
  | .tup rs => rs.all (isHr E) && rsB (rs.map hd0)
  | _ => false
noncomputable def isBh (N E : List Val) (b c : Val) : Bool := match b with
  | .non => eqB c (.tup [])
  | b => isSy N b && isHd E c
noncomputable def isRw (N E : List Val) (x : Val) : Val → Bool
  | .tup [a, b, c] => eqB a x && isBh N E b c
  | _ => false
theorem isSy_no {N : List Val} {vs : List Val} (h : vs.length ≠ 3) : isSy N (.tup vs) = false := by
  unfold isSy
  split
  · next e => cases e; exact absurd rfl h
  · rfl
theorem isHr_no {N : List Val} {vs : List Val} (h : vs.length ≠ 4) : isHr N (.tup vs) = false := by
  unfold isHr
  split
  · next e => cases e; exact absurd rfl h
  · rfl
theorem isRw_no {N E : List Val} {x : Val} {vs : List Val} (h : vs.length ≠ 3) : isRw N E x (.tup vs) = false := by
  unfold isRw
  split
  · next e => cases e; exact absurd rfl h
  · rfl
theorem four {vs : List Val} {ds : List PyData} (h : TlL S Fo m n vs ds) : vs.length ≠ 4 ∨ ∃ a b c e x y z w, vs = [a, b, c, e] ∧ Tl S Fo m n a x ∧ Tl S Fo m n b y ∧ Tl S Fo m n c z ∧ Tl S Fo m n e w := by
  match vs, h with
  | [], _ => exact .inl (by decide)
  | [a], _ => exact .inl (by simp)
  | [a, b], _ => exact .inl (by simp)
  | [a, b, c], _ => exact .inl (by simp)
  | [a, b, c, e], .cons h1 (.cons h2 (.cons h3 (.cons h4 .nil))) => exact .inr ⟨a, b, c, e, _, _, _, _, rfl, h1, h2, h3, h4⟩
  | a :: b :: c :: e :: f :: r, _ => exact .inl (by simp)
def nsV (xs : List Str) : List Val := xs.map .str
theorem nms_of {xs : List Str} (h : ∀ x ∈ xs, NmOk x) : Nms (nsV xs) := fun v hv => by
  obtain ⟨x, hx, rfl⟩ := List.mem_map.mp hv
  have := h x hx
  exact ⟨x, rfl, this.1, by have := this.2; omega⟩
theorem ms_names (nn : Net) : (nn.ms.map mbV).map hd0 = nsV nn.names := by
  unfold nsV Net.names
  rw [List.map_map, List.map_map]
  rfl
theorem saying_wp (hn : NOk nn) (hm : m < 2 ^ 900) (hd : n ≤ 36) (h : Tl S Fo m n v d) : Wp (is_saying_ [netV nn, v] S) fun u T => u = .bl (isSy (nsV nn.names) v) ∧ Kn S T := by
  have h8 := hn.len
  refine AL.wf ?_; simp only [List.map_cons, List.map_nil, List.length_cons, List.length_nil, Nat.reduceAdd, Nat.reduceSub, List.replicate_succ, List.replicate_zero, List.cons_append, List.nil_append]; unfold is_saying_B; array_get_dec
  refine isTu_wp h ?_
  cases h with
  | tup h =>
    array_get_dec
    rcases three h with h3 | ⟨a, b, c, x, y, z, rfl, h1, h2, h3⟩
    · refine brT (by rw [decide_eq_false (by omega)]; rfl) ?_
      array_get_dec
      exact ⟨by rw [isSy_no h3], Kn.refl _⟩
    · array_get_dec
      refine (key_wp h1).imp ?_
      rintro _ T ⟨rfl, k⟩
      array_get_dec
      refine Br.of (fun c1 => ?_) (fun c1 => ?_)
      · array_get_dec
        refine (count_wp (Tl.kn h2 k)).imp ?_
        rintro _ _ ⟨rfl, rfl⟩
        array_get_dec
        refine Br.of (fun c2 => ?_) (fun c2 => ?_)
        · array_get_dec
          refine .inl ⟨_, rfl, ?_⟩
          refine lc_pure (fun _ => true) hd0 trivial (by rw [List.length_map]; omega) (fun u hu => ?_) ?_
          · obtain ⟨mb, _, rfl⟩ := List.mem_map.mp hu
            refine bn rfl ?_
            array_get_dec
            refine ⟨rfl, rfl, fun _ => ?_⟩
            array_get_dec
            exact ⟨rfl, rfl⟩
          · intro T3 r3 e_r3 l_T3 g_r3 k_T3
            rw [List.filter_eq_self.mpr (fun _ _ => rfl), ms_names] at g_r3
            refine in_wp hm (by omega) (Tl.kn h3 (k.trans k_T3)) (nms_of fun x hx => hn.nm hx) g_r3 ⟨?_, k.trans k_T3⟩
            simp only [isSy, c1, c2, Bool.true_and]
            rfl
        · exact ⟨by simp only [isSy, c1, c2, Bool.and_false, Bool.false_and], k⟩
      · exact ⟨by simp only [isSy, c1, Bool.false_and], k⟩
  | _ => array_get_dec; exact ⟨rfl, Kn.refl _⟩
theorem row_wp {N : List Val} {r : Nat} (hm : m < 2 ^ 900) (hd : n ≤ 36) (h : Tl S Fo m n v d) (hN : Nms N) (g : S[r]? = some (.lst N)) : Wp (is_heard_row_ [.ref r, v] S) fun u T => u = .bl (isHr N v) ∧ Kn S T := by
  refine AL.wf ?_; simp only [List.map_cons, List.map_nil, List.length_cons, List.length_nil, Nat.reduceAdd, Nat.reduceSub, List.replicate_succ, List.replicate_zero, List.cons_append, List.nil_append]; unfold is_heard_row_B; array_get_dec
  refine isTu_wp h ?_
  cases h with
  | tup h =>
    array_get_dec
    rcases four h with h3 | ⟨a, b, c, e, x, y, z, w, rfl, h1, h2, h3, h4⟩
    · refine brT (by rw [decide_eq_false (by omega)]; rfl) ?_
      array_get_dec
      exact ⟨by rw [isHr_no h3], Kn.refl _⟩
    · array_get_dec
      refine in_wp hm (by omega) h1 hN g ?_
      array_get_dec
      refine Br.of (fun c1 => ?_) (fun c1 => ?_)
      · have c1 : inB a N = true := c1
        array_get_dec
        refine (key_wp h2).imp ?_
        rintro _ T ⟨rfl, k⟩
        array_get_dec
        refine Br.of (fun c2 => ?_) (fun c2 => ?_)
        · array_get_dec
          refine (count_wp (Tl.kn h3 k)).imp ?_
          rintro _ _ ⟨rfl, rfl⟩
          array_get_dec
          refine Br.of (fun c3 => ?_) (fun c3 => ?_)
          · array_get_dec
            refine (count_wp (Tl.kn h4 k)).imp ?_
            rintro _ _ ⟨rfl, rfl⟩
            exact ⟨by simp only [isHr, c1, c2, c3, Bool.true_and], k⟩
          · exact ⟨by simp only [isHr, c1, c2, c3, Bool.true_and, Bool.false_and], k⟩
        · exact ⟨by simp only [isHr, c1, c2, Bool.true_and, Bool.false_and], k⟩
      · have c1 : inB a N = false := c1
        exact ⟨by simp only [isHr, c1, Bool.false_and], Kn.refl _⟩
  | _ => array_get_dec; exact ⟨rfl, Kn.refl _⟩
theorem hr_nms {N : List Val} {vs : List Val} (hN : Nms N) (hv : vs.all (isHr N) = true) : Nms (vs.map hd0) := fun u hu => by
  obtain ⟨v, hm, rfl⟩ := List.mem_map.mp hu
  have := List.all_eq_true.mp hv v hm
  unfold isHr at this
  split at this
  · next a b c e =>
    rw [Bool.and_eq_true] at this
    exact hN a (inB_iff.mp this.1)
  · cases this
theorem hr_step {N : List Val} {vs : List Val} (hv : vs.all (isHr N) = true) {u : Val} (hu : u ∈ vs) {Q : Val → Sto → Prop} (q : Q (hd0 u) S) : Wp (gIxA u (.int 0) S) Q := by
  have := List.all_eq_true.mp hv u hu
  unfold isHr at this
  split at this
  · exact vIxT rfl rfl rfl q
  · cases this
theorem heard_wp {N : List Val} {r : Nat} (hm : m < 2 ^ 900) (hd : n ≤ 36) (h : Tl S Fo m n v d) (hw : d.weight ≤ 90000) (hN : Nms N) (g : S[r]? = some (.lst N)) : Wp (is_heard_ [.ref r, v] S) fun u T => u = .bl (isHd N v) ∧ Kn S T := by
  refine AL.wf ?_; simp only [List.map_cons, List.map_nil, List.length_cons, List.length_nil, Nat.reduceAdd, Nat.reduceSub, List.replicate_succ, List.replicate_zero, List.cons_append, List.nil_append]; unfold is_heard_B; array_get_dec
  refine isTu_wp h ?_
  cases h with
  | @tup n' vs ds h =>
    have ln := h.len
    have ll : vs.length ≤ 90000 := by
      have := wl ds
      have : PyData.weightAll ds ≤ 90000 := hw
      omega
    array_get_dec
    refine .inl ⟨_, rfl, ?_⟩
    refine lc_inv (fun i a T => a = (vs.take i).map (fun v => .bl (isHr N v)) ∧ Kn S T) (by omega) ⟨rfl, Kn.refl _⟩ (fun _ _ _ _ _ => trivial) (fun i a T hI => by rw [hI.1, List.length_map, List.length_take]; omega) (fun i u a T hu hI => ?_) ?_
    · obtain ⟨rfl, k⟩ := hI
      refine bn rfl ?_
      array_get_dec
      obtain ⟨d, _, t⟩ := h.get hu
      refine (row_wp hm (by omega) (Tl.kn t k) hN (k _ _ g)).imp ?_
      rintro _ U ⟨rfl, k2⟩
      exact ⟨(take_succ_map hu).symm, k.trans k2⟩
    · rintro a T ⟨rfl, k⟩
      rw [List.take_of_length_le (Nat.le_refl _)]
      intro T2 r2 e_r2 l_T2 g_r2 k_T2
      array_get_dec
      refine vAll (bs := vs.map (isHr N)) rfl (by rw [List.map_map]; exact g_r2) ?_
      array_get_dec
      rw [List.all_map]
      refine Br.of (fun c => ?_) (fun c => ?_)
      · array_get_dec
        refine ⟨?_, k.trans k_T2⟩
        rw [Bool.not_eq_true'] at c
        simp only [isHd, show vs.all (isHr N) = false from c, Bool.false_and]
      · have c : vs.all (isHr N) = true := by rw [Bool.not_eq_false'] at c; exact c
        array_get_dec
        refine .inl ⟨_, rfl, ?_⟩
        refine lc_pure (fun _ => true) hd0 trivial (by omega) (fun u hu => ?_) ?_
        · refine bn rfl ?_
          array_get_dec
          refine ⟨rfl, rfl, fun _ => ?_⟩
          array_get_dec
          exact hr_step c hu ⟨rfl, rfl⟩
        · intro T3 r3 e_r3 l_T3 g_r3 k_T3
          array_get_dec
          rw [List.filter_eq_self.mpr (fun _ _ => rfl)] at g_r3
          refine (rises_go ((hr_nms hN c).cmp (by rw [List.length_map]; omega)) (.inr ⟨r3, rfl, g_r3⟩)).imp ?_
          rintro _ U ⟨rfl, k4⟩
          exact ⟨by simp only [isHd, c, Bool.true_and], ((k.trans k_T2).trans k_T3).trans k4⟩
  | _ => array_get_dec; exact ⟨rfl, Kn.refl _⟩
end
end K55
namespace K55
open PySem PySem.Spec PyProof.Rows L2 G Th AL KL Fr Od
open K57 (other_ends_ other_ends_B feedL_ feedL_B drawL_ drawL_B netL_ netL_B keyL_ keyL_B endsL_ endsL_B stateL_ stateL_B Tf draw_wp)
open K57 (wireV Mb mbV Net netV pool WOk NOk NmOk endsL ends oes oes_perm mem_endsL other_wp endsL_wp)
open K37 (fmod_lt p60 p40 p62 at_ints)
open K08 (ws_cut)
section
variable {S : Sto} {Fo : Nat → Prop} {m n : Nat} {v : Val} {d : PyData} {nn : Net} {x : Str}
theorem eqv_str {d : PyData} (h : ∀ y, d ≠ .str y) : PyData.eqv d (.str x) = false := by
  cases d with
  | str y => exact absurd rfl (h y)
  | _ => rfl
theorem neD {Q : Val → Sto → Prop} {u w : Val} {e : PyData} (h0 : eqS u w = none) (h1 : toD S 40 u = some d) (h2 : toD S 40 w = some e) (s1 : SeqAt.shaped d = true) (s2 : SeqAt.shaped e = true) (q : Q (.bl (!PyData.eqv d e)) S) : Wp (gNe u w S) Q := by
  refine ⟨_, S, ?_, q⟩
  unfold gNe eqA
  rw [h0]
  simp only [h1, h2]
  rw [if_pos ⟨s1, s2⟩]
  rfl
theorem eqB_no {a b : Val} (h : a ≠ b) : eqB a b = false := by
  rw [← Bool.not_eq_true, eqB_iff]
  exact h
theorem ne_wp {Q : Val → Sto → Prop} (hm : m < 2 ^ 900) (hd : n ≤ 36) (h : Tl S Fo m n v d) (hx : PyData.strOk x = true) (lx : x.cps.size ≤ 70) (q : Q (.bl (!eqB v (.str x))) S) : Wp (gNe v (.str x) S) Q := by
  have hT := h.toD 40 (by omega)
  have hs := h.shaped hm (by omega)
  have xt : Tl S Fo m n (.str x) (.str x) := .str x hx lx
  have xT := xt.toD 40 (by omega)
  have xs := xt.shaped hm (by omega)
  cases h with
  | str y hy l =>
    refine vNe (c := decide (y = x)) rfl ?_
    have : eqB (.str y) (.str x) = decide (y = x) := by
      rw [Bool.eq_iff_iff, eqB_iff, decide_eq_true_eq]
      exact ⟨fun h => by cases h; rfl, fun h => by rw [h]⟩
    rw [this] at q
    exact q
  | tup h =>
    rw [eqB_no (fun h => by cases h)] at q
    refine neD rfl hT xT hs xs ?_
    rw [eqv_str (fun y h => by cases h)]
    exact q
  | lst f g h =>
    rw [eqB_no (fun h => by cases h)] at q
    refine neD rfl hT xT hs xs ?_
    rw [eqv_str (fun y h => by cases h)]
    exact q
  | _ =>
    rw [eqB_no (fun h => by cases h)] at q
    exact vNe (c := false) rfl q
theorem threeD {vs : List Val} {ds : List PyData} (h : TlL S Fo m n vs ds) : vs.length ≠ 3 ∨ ∃ a b c x y z, vs = [a, b, c] ∧ ds = [x, y, z] ∧ Tl S Fo m n a x ∧ Tl S Fo m n b y ∧ Tl S Fo m n c z := by
  match vs, h with
  | [], _ => exact .inl (by decide)
  | [a], _ => exact .inl (by simp)
  | [a, b], _ => exact .inl (by simp)
  | [a, b, c], .cons h1 (.cons h2 (.cons h3 .nil)) => exact .inr ⟨a, b, c, _, _, _, rfl, rfl, h1, h2, h3⟩
  | a :: b :: c :: e :: r, _ => exact .inl (by simp)
theorem ends_nms (hn : NOk nn) {l : List Str} (h : ∀ y ∈ l, y ∈ endsL nn.ws x) : Nms (nsV l) := nms_of fun y hy => by
  rcases mem_endsL.mp (h y hy) with h | h
  · exact hn.nm (hn.w.mem _ h).1
  · exact hn.nm (hn.w.mem _ h).2.1
theorem row3_wp (hn : NOk nn) (hm : m < 2 ^ 900) (hd : n ≤ 36) (h : Tl S Fo m n v d) (hw : d.weight ≤ 90000) (hx : NmOk x) : Wp (is_state_row_ [netV nn, .str x, v] S) fun u T => u = .bl (isRw (nsV nn.names) (nsV (oes nn.ws x)) (.str x) v) ∧ Kn S T := by
  have h8 := hn.len
  refine AL.wf ?_; simp only [List.map_cons, List.map_nil, List.length_cons, List.length_nil, Nat.reduceAdd, Nat.reduceSub, List.replicate_succ, List.replicate_zero, List.cons_append, List.nil_append]; unfold is_state_row_B; array_get_dec
  refine isTu_wp h ?_
  cases h with
  | tup h =>
    array_get_dec
    rcases threeD h with h3 | ⟨a, b, c, xd, y, z, rfl, rfl, h1, h2, h3⟩
    · refine brT (by rw [decide_eq_false (by omega)]; rfl) ?_
      array_get_dec
      exact ⟨by rw [isRw_no h3], Kn.refl _⟩
    · array_get_dec
      refine ne_wp hm (by omega) h1 hx.1 (by have := hx.2; omega) ?_
      array_get_dec
      refine Br.of (fun c1 => ?_) (fun c1 => ?_)
      · rw [Bool.not_eq_true'] at c1
        array_get_dec
        exact ⟨by simp only [isRw, c1, Bool.false_and], Kn.refl _⟩
      · rw [Bool.not_eq_false'] at c1
        array_get_dec
        refine vSlA rfl ?_
        have ecut : cutL [a, b, c] (some 1) none = [b, c] := rfl
        rw [ecut]
        have hw : PyData.weightAll [xd, y, z] ≤ 90000 := hw
        simp only [PyData.weightAll] at hw
        array_get_dec
        refine Br.of (fun c2 => ?_) (fun c2 => ?_)
        · have eb : b = .non := by
            cases b with
            | non => rfl
            | _ => cases c2
          subst eb
          have e0 : isRw (nsV nn.names) (nsV (oes nn.ws x)) (.str x) (.tup [a, .non, c]) = eqB c (.tup []) := by simp only [isRw, isBh, c1, Bool.true_and]
          rw [e0]
          array_get_dec
          refine isTu_wp h3 ?_
          cases h3 with
          | @tup n3 cs dcs h3 =>
            array_get_dec
            refine ⟨?_, Kn.refl _⟩
            refine congrArg Val.bl ?_
            rw [Bool.eq_iff_iff, eqB_iff, decide_eq_true_eq]
            constructor
            · intro h
              have : cs.length = 0 := by omega
              rw [List.length_eq_zero_iff.mp this]
            · intro h
              cases h
              rfl
          | _ => array_get_dec; exact ⟨by rw [eqB_no (fun h => by cases h)], Kn.refl _⟩
        · have e0 : isRw (nsV nn.names) (nsV (oes nn.ws x)) (.str x) (.tup [a, b, c]) = (isSy (nsV nn.names) b && isHd (nsV (oes nn.ws x)) c) := by
            cases b with
            | non => cases c2
            | _ => simp only [isRw, isBh, c1, Bool.true_and]
          rw [e0]
          array_get_dec
          refine (saying_wp hn hm (by omega) h2).imp ?_
          rintro _ T ⟨rfl, k⟩
          array_get_dec
          refine Br.of (fun c3 => ?_) (fun c3 => ?_)
          · array_get_dec
            refine (other_wp hn.w.len).imp ?_
            rintro _ U ⟨r, rfl, gr, k2, _⟩
            array_get_dec
            have nE : Nms (nsV (oes nn.ws x)) := ends_nms hn fun y hy => (oes_perm fun w hw => (hn.w.mem w hw).2.2).mem_iff.mp hy
            refine (heard_wp hm (by omega) (Tl.kn h3 (k.trans k2)) (by omega) nE gr).imp ?_
            rintro _ V ⟨rfl, k4⟩
            exact ⟨by simp only [c3, Bool.true_and], (k.trans k2).trans k4⟩
          · exact ⟨by simp only [c3, Bool.false_and], k⟩
  | _ => array_get_dec; exact ⟨rfl, Kn.refl _⟩
/-- the rows, one by one -/
def Rws (nn : Net) (rs : List Val) : Prop := ∀ (i : Nat) (mb : Mb) (r : Val), nn.ms[i]? = some mb → rs[i]? = some r → isRw (nsV nn.names) (nsV (oes nn.ws mb.name)) (.str mb.name) r = true
noncomputable def isSt (nn : Net) : Val → Bool
  | .tup rs => decide (rs.length = nn.ms.length) && @decide (Rws nn rs) (Classical.propDecidable _)
  | _ => false
noncomputable def rowB (nn : Net) : Val → Bool
  | .tup [.tup [.str x, _, _], r] => isRw (nsV nn.names) (nsV (oes nn.ws x)) (.str x) r
  | _ => false
theorem zip_rows {nn : Net} {rs : List Val} : ((zipV (nn.ms.map mbV) rs).all (rowB nn) = true) ↔ Rws nn rs := by
  rw [List.all_eq_true]
  constructor
  · intro h i mb r h1 h2
    have := h (.tup [mbV mb, r]) (by
      unfold zipV
      refine List.mem_map.mpr ⟨(mbV mb, r), ?_, rfl⟩
      refine List.mem_of_getElem? (i := i) (List.getElem?_zip_eq_some.mpr ⟨?_, h2⟩)
      rw [List.getElem?_map, h1]
      rfl)
    exact this
  · intro h v hv
    obtain ⟨i, hi⟩ := List.getElem?_of_mem hv
    obtain ⟨a, r, h1, h2, rfl⟩ := zipV_get hi
    rw [List.getElem?_map] at h1
    obtain ⟨mb, hmb, rfl⟩ := Option.map_eq_some_iff.mp h1
    exact h i mb r hmb h2
theorem isstate_wp (hn : NOk nn) (hm : m < 2 ^ 900) (hd : n ≤ 36) (h : Tl S Fo m n v d) (hw : d.weight ≤ 80000) : Wp (is_state_ [netV nn, v] S) fun u T => u = .bl (isSt nn v) ∧ Kn S T := by
  have h8 := hn.len
  refine AL.wf ?_; simp only [List.map_cons, List.map_nil, List.length_cons, List.length_nil, Nat.reduceAdd, Nat.reduceSub, List.replicate_succ, List.replicate_zero, List.cons_append, List.nil_append]; unfold is_state_B; array_get_dec
  refine isTu_wp h ?_
  cases h with
  | @tup n' vs ds h =>
    have ln := h.len
    have ll : vs.length ≤ 90000 := by
      have := wl ds
      have : PyData.weightAll ds ≤ 80000 := hw
      omega
    array_get_dec
    have lm : (List.map mbV nn.ms).length = nn.ms.length := List.length_map _
    rw [lm]
    refine Br.of (fun c => ?_) (fun c => ?_)
    · have ne : vs.length ≠ nn.ms.length := by
        intro e
        rw [e] at c
        simp at c
      array_get_dec
      exact ⟨by simp only [isSt, decide_eq_false ne, Bool.false_and], Kn.refl _⟩
    · have eq : vs.length = nn.ms.length := by
        have : (vs.length : Int) = nn.ms.length := by simpa using c
        omega
      array_get_dec
      refine ⟨_, _, rfl, ?_⟩
      have zl : (zipV (nn.ms.map mbV) vs).length ≤ 8 := by
        unfold zipV
        rw [List.length_map, List.length_zip, List.length_map]
        omega
      refine lc_inv (fun i a T => a = ((zipV (nn.ms.map mbV) vs).take i).map (fun v => .bl (rowB nn v)) ∧ Kn S T) (by omega) ⟨rfl, Kn.refl _⟩ (fun _ _ _ _ _ => trivial) (fun i a T hI => by rw [hI.1, List.length_map, List.length_take]; omega) (fun i u a T hu hI => ?_) ?_
      · obtain ⟨rfl, k⟩ := hI
        obtain ⟨a, r, h1, h2, rfl⟩ := zipV_get hu
        rw [List.getElem?_map] at h1
        obtain ⟨mb, hmb, rfl⟩ := Option.map_eq_some_iff.mp h1
        obtain ⟨d, hdd, t⟩ := h.get h2
        have wd := w_at hdd
        have hw : PyData.weightAll ds ≤ 80000 := hw
        refine bn rfl ?_
        array_get_dec
        refine (row3_wp (x := mb.name) hn hm (by omega) (Tl.kn t k) (by omega) (hn.nm (List.mem_map.mpr ⟨mb, List.mem_of_getElem? hmb, rfl⟩))).imp ?_
        rintro _ U ⟨rfl, k2⟩
        exact ⟨(take_succ_map hu).symm, k.trans k2⟩
      · rintro a T ⟨rfl, k⟩
        rw [List.take_of_length_le (Nat.le_refl _)]
        intro T2 r2 e_r2 l_T2 g_r2 k_T2
        array_get_dec
        refine vAll (bs := (zipV (nn.ms.map mbV) vs).map (rowB nn)) rfl (by rw [List.map_map]; exact g_r2) ?_
        refine ⟨?_, k.trans k_T2⟩
        refine congrArg Val.bl ?_
        rw [List.all_map, Bool.eq_iff_iff]
        refine Iff.trans zip_rows ?_
        show _ ↔ (decide (vs.length = nn.ms.length) && @decide (Rws nn vs) (Classical.propDecidable _)) = true
        rw [decide_eq_true eq, Bool.true_and]
        exact (@decide_eq_true_iff (Rws nn vs) (Classical.propDecidable _)).symm
  | _ => array_get_dec; exact ⟨rfl, Kn.refl _⟩
end
end K55
namespace K55
open PySem PySem.Spec PyProof.Rows L2 G Th AL KL Fr Od
open K57 (other_ends_ other_ends_B feedL_ feedL_B drawL_ drawL_B netL_ netL_B keyL_ keyL_B endsL_ endsL_B stateL_ stateL_B Tf draw_wp)
open K57 (wireV Mb mbV Net netV pool WOk NOk NmOk endsL ends oes oes_perm mem_endsL other_wp endsL_wp sortS_perm)
open K37 (fmod_lt p60 p40 p62 at_ints)
open K08 (ws_cut)
section
variable {S : Sto} {Fo : Nat → Prop} {m n : Nat} {v : Val} {d : PyData} {nn : Net} {x : Str}
theorem ends_in (hn : NOk nn) (v : Val) : inB v (nsV (ends nn.ws x)) = inB v (nsV (oes nn.ws x)) := by
  have p : (ends nn.ws x).Perm (oes nn.ws x) := (sortS_perm _).trans (oes_perm fun w hw => (hn.w.mem w hw).2.2).symm
  rw [Bool.eq_iff_iff, inB_iff, inB_iff]
  exact (p.map Val.str).mem_iff
theorem isSy_tu {N : List Val} (h : isTu v = false) : isSy N v = false := by
  cases v with
  | tup vs => cases h
  | _ => rfl
theorem vEqNilT {Q : Val → Sto → Prop} {vs : List Val} {ds : List PyData} (hm : m < 2 ^ 900) (hn : n ≤ 37) (h : TlL S Fo m n vs ds) (q : Q (.bl vs.isEmpty) S) : Wp (gEq (.tup vs) (.tup []) S) Q := by
  have e1 : eqS (.tup vs) (.tup []) = none := rfl
  have hT : Tl S Fo m (n + 1) (.tup vs) (.tuple ds) := .tup h
  refine ⟨_, S, ?_, q⟩
  unfold gEq eqA
  rw [e1]
  have t0 : toD S 40 (.tup []) = some (.tuple []) := rfl
  simp only [hT.toD 40 (by omega), t0]
  rw [if_pos ⟨hT.shaped hm (by omega), by decide⟩]
  cases h with
  | nil => rfl
  | cons a b => rfl
theorem rowL_wp {mb : Mb} (hn : NOk nn) (hm : m < 2 ^ 900) (hd : n ≤ 36) (h : Tl S Fo m n v d) (hw : d.weight ≤ 90000) (hx : NmOk mb.name) : Wp (is_rowL_ [netV nn, mbV mb, v] S) fun u T => u = .bl (isRw (nsV nn.names) (nsV (oes nn.ws mb.name)) (.str mb.name) v) ∧ Kn S T := by
  have h8 := hn.len
  refine AL.wf ?_
  simp only [List.map_cons, List.map_nil, List.length_cons, List.length_nil, Nat.reduceAdd, Nat.reduceSub, List.replicate_succ, List.replicate_zero, List.cons_append, List.nil_append]
  unfold is_rowL_B
  refine ws_seq ?_
  refine ws_if ?_
  array_get_dec
  refine isTu_wp h ?_
  cases h with
  | tup h =>
    array_get_dec
    rcases threeD h with h3 | ⟨a, b, c, xd, y, z, rfl, rfl, h1, h2, h3⟩
    · refine brT (by rw [decide_eq_false (by omega)]; rfl) ?_
      array_get_dec
      exact ⟨by rw [isRw_no h3], Kn.refl _⟩
    · have hw : PyData.weightAll [xd, y, z] ≤ 90000 := hw
      simp only [PyData.weightAll] at hw
      array_get_dec
      refine ne_wp hm (by omega) h1 hx.1 (by have := hx.2; omega) ?_
      array_get_dec
      refine Br.of (fun c1 => ?_) (fun c1 => ?_)
      · rw [Bool.not_eq_true'] at c1
        array_get_dec
        exact ⟨by simp only [isRw, c1, Bool.false_and], Kn.refl _⟩
      · rw [Bool.not_eq_false'] at c1
        have e0 : isRw (nsV nn.names) (nsV (oes nn.ws mb.name)) (.str mb.name) (.tup [a, b, c]) = isBh (nsV nn.names) (nsV (oes nn.ws mb.name)) b c := by simp only [isRw, c1, Bool.true_and]
        rw [e0]
        array_get_dec
        refine isTu_wp h3 ?_
        have cTu : isTu c = false → isBh (nsV nn.names) (nsV (oes nn.ws mb.name)) b c = false := fun e => by
          have e1 : isHd (nsV (oes nn.ws mb.name)) c = false := by
            cases h3 with
            | tup h => cases e
            | _ => rfl
          have e2 : eqB c (.tup []) = false := eqB_no (by rintro rfl; cases e)
          unfold isBh
          split
          · exact e2
          · rw [e1, Bool.and_false]
        array_get_dec
        refine Br.of (fun c2 => ?_) (fun c2 => ?_)
        · rw [Bool.not_eq_true'] at c2
          array_get_dec
          exact ⟨by rw [cTu c2], Kn.refl _⟩
        · rw [Bool.not_eq_false'] at c2
          array_get_dec
          refine Br.of (fun c3 => ?_) (fun c3 => ?_)
          · have eb : b = .non := by
              cases b with
              | non => rfl
              | _ => cases c3
            subst eb
            cases h3 with
            | @tup n3 cs dcs h3 =>
              array_get_dec
              refine vEqNilT hm (by omega) h3 ⟨?_, Kn.refl _⟩
              refine congrArg Val.bl ?_
              show cs.isEmpty = eqB (.tup cs) (.tup [])
              cases cs with
              | nil => exact (eqB_iff.mpr rfl).symm
              | cons p q => exact (eqB_no (fun h => by cases h)).symm
            | _ => cases c2
          · have e1 : isBh (nsV nn.names) (nsV (oes nn.ws mb.name)) b c = (isSy (nsV nn.names) b && isHd (nsV (oes nn.ws mb.name)) c) := by
              cases b with
              | non => cases c3
              | _ => rfl
            rw [e1]
            array_get_dec
            refine isTu_wp h2 ?_
            array_get_dec
            refine Br.of (fun c4 => ?_) (fun c4 => ?_)
            · rw [Bool.not_eq_true'] at c4
              array_get_dec
              exact ⟨by rw [isSy_tu c4, Bool.false_and], Kn.refl _⟩
            · rw [Bool.not_eq_false'] at c4
              cases h2 with
              | @tup n4 bs dbs h2 =>
                array_get_dec
                rcases three h2 with l3 | ⟨b1, b2, b3, y1, y2, y3, rfl, t1, t2, t3⟩
                · refine brT (by rw [decide_eq_false (by omega)]; rfl) ?_
                  array_get_dec
                  exact ⟨by rw [isSy_no l3, Bool.false_and], Kn.refl _⟩
                · array_get_dec
                  refine (keyL_wp t1).imp ?_
                  rintro _ T ⟨rfl, k⟩
                  array_get_dec
                  refine Br.of (fun c5 => ?_) (fun c5 => ?_)
                  · rw [Bool.not_eq_true'] at c5
                    array_get_dec
                    exact ⟨by simp only [isSy, c5, Bool.false_and], k⟩
                  · rw [Bool.not_eq_false'] at c5
                    array_get_dec
                    refine (from_wp (Tl.kn t2 k)).imp ?_
                    rintro _ _ ⟨rfl, rfl⟩
                    array_get_dec
                    refine Br.of (fun c6 => ?_) (fun c6 => ?_)
                    · rw [Bool.not_eq_true'] at c6
                      array_get_dec
                      exact ⟨by simp only [isSy, c6, Bool.false_and, Bool.and_false], k⟩
                    · rw [Bool.not_eq_false'] at c6
                      array_get_dec
                      refine .inl ⟨_, rfl, ?_⟩
                      refine lc_pure (fun _ => true) hd0 trivial (by rw [List.length_map]; omega) (fun u hu => ?_) ?_
                      · obtain ⟨mc, _, rfl⟩ := List.mem_map.mp hu
                        refine bn rfl ?_
                        array_get_dec
                        refine ⟨rfl, rfl, fun _ => ?_⟩
                        array_get_dec
                        exact ⟨rfl, rfl⟩
                      · intro T3 r3 e_r3 l_T3 g_r3 k_T3
                        rw [List.filter_eq_self.mpr (fun _ _ => rfl), ms_names] at g_r3
                        have kT := k.trans k_T3
                        refine in_wp hm (by omega) (Tl.kn t3 kT) (nms_of fun x hx => hn.nm hx) g_r3 ?_
                        array_get_dec
                        refine Br.of (fun c7 => ?_) (fun c7 => ?_)
                        · have c7 : (!inB b3 (nsV nn.names)) = true := c7
                          rw [Bool.not_eq_true'] at c7
                          array_get_dec
                          exact ⟨by simp only [isSy, c7, Bool.false_and, Bool.and_false], kT⟩
                        · have c7 : (!inB b3 (nsV nn.names)) = false := c7
                          rw [Bool.not_eq_false'] at c7
                          have e2 : (isSy (nsV nn.names) (.tup [b1, b2, b3]) && isHd (nsV (oes nn.ws mb.name)) c) = isHd (nsV (oes nn.ws mb.name)) c := by simp only [isSy, c5, c6, c7, Bool.true_and]
                          rw [e2]
                          generalize hE : nsV (oes nn.ws mb.name) = E
                          have eE : ∀ v, inB v (nsV (ends nn.ws mb.name)) = inB v E := fun v => by rw [← hE]; exact ends_in hn v
                          have nE : Nms E := by
                            rw [← hE]
                            exact ends_nms hn fun y hy => (oes_perm fun w hw => (hn.w.mem w hw).2.2).mem_iff.mp hy
                          have nF : Nms (nsV (ends nn.ws mb.name)) := ends_nms (x := mb.name) hn fun y hy => (sortS_perm _).mem_iff.mp hy
                          clear hE e0 e1 e2 cTu
                          cases h3 with
                          | @tup n3 cs dcs h3 =>
                            have lnw := h3.len
                            have llw : cs.length ≤ 90000 := by
                              have := wl dcs
                              have : PyData.weightAll dcs ≤ 90000 := by show (PyData.tuple dcs).weight ≤ _; omega
                              omega
                            have noH : ∀ u ∈ cs, isHr E u = false → isHd E (.tup cs) = false := fun u hu e => by
                              have : cs.all (isHr E) = false := by
                                rw [← Bool.not_eq_true, List.all_eq_true]
                                intro h
                                rw [h u hu] at e
                                cases e
                              simp only [isHd, this, Bool.false_and]
                            array_get_dec
                            refine .inl ⟨_, rfl, ?_⟩
                            refine ws_loop (fun i ρ U => (∃ o2, ρ = [some (netV nn), some (mbV mb), some (.tup [a, .tup [b1, b2, b3], .tup cs]), some (.tup [b1, b2, b3]), o2]) ∧ Kn S U ∧ (cs.take i).all (isHr E) = true) ⟨⟨_, rfl⟩, kT, rfl⟩ (fun _ _ _ _ _ => trivial) (fun i u ρ U hu hI => ?_) ?_
                            · obtain ⟨⟨o2, rfl⟩, kU, hb⟩ := hI
                              obtain ⟨d, _, t⟩ := h3.get hu
                              have um := List.mem_of_getElem? hu
                              have tk := Tl.kn t kU
                              clear t
                              refine bn rfl ?_
                              array_get_dec
                              refine isTu_wp tk ?_
                              cases tk with
                              | tup tt =>
                                array_get_dec
                                rcases four tt with l4 | ⟨p1, p2, p3, p4, q1, q2, q3, q4, rfl, s1, s2, s3, s4⟩
                                · refine brT (by rw [decide_eq_false (by omega)]; rfl) ?_
                                  array_get_dec
                                  exact ⟨by rw [noH _ um (isHr_no l4)], kU⟩
                                · array_get_dec
                                  refine (endsL_wp hn.w.len).imp ?_
                                  rintro _ V ⟨r, rfl, gr, kV, _⟩
                                  have kV2 := kU.trans kV
                                  refine in_wp hm (by omega) (Tl.kn s1 kV) nF gr ?_
                                  array_get_dec
                                  rw [eE]
                                  refine Br.of (fun d1 => ?_) (fun d1 => ?_)
                                  · have d1 : (!inB p1 E) = true := d1
                                    rw [Bool.not_eq_true'] at d1
                                    array_get_dec
                                    exact ⟨by rw [noH _ um (by simp only [isHr, d1, Bool.false_and])], kV2⟩
                                  · have d1 : (!inB p1 E) = false := d1
                                    rw [Bool.not_eq_false'] at d1
                                    array_get_dec
                                    refine (keyL_wp (Tl.kn s2 kV)).imp ?_
                                    rintro _ W ⟨rfl, kW⟩
                                    have kW2 := kV2.trans kW
                                    array_get_dec
                                    refine Br.of (fun d2 => ?_) (fun d2 => ?_)
                                    · rw [Bool.not_eq_true'] at d2
                                      array_get_dec
                                      exact ⟨by rw [noH _ um (by simp only [isHr, d2, Bool.false_and, Bool.and_false])], kW2⟩
                                    · rw [Bool.not_eq_false'] at d2
                                      array_get_dec
                                      refine (from_wp (Tl.kn s3 (kV.trans kW))).imp ?_
                                      rintro _ _ ⟨rfl, rfl⟩
                                      array_get_dec
                                      refine Br.of (fun d3 => ?_) (fun d3 => ?_)
                                      · rw [Bool.not_eq_true'] at d3
                                        array_get_dec
                                        exact ⟨by rw [noH _ um (by simp only [isHr, d3, Bool.false_and, Bool.and_false])], kW2⟩
                                      · rw [Bool.not_eq_false'] at d3
                                        array_get_dec
                                        refine (from_wp (Tl.kn s4 (kV.trans kW))).imp ?_
                                        rintro _ _ ⟨rfl, rfl⟩
                                        array_get_dec
                                        refine Br.of (fun d4 => ?_) (fun d4 => ?_)
                                        · rw [Bool.not_eq_true'] at d4
                                          array_get_dec
                                          exact ⟨by rw [noH _ um (by simp only [isHr, d4, Bool.and_false])], kW2⟩
                                        · rw [Bool.not_eq_false'] at d4
                                          array_get_dec
                                          refine ⟨⟨_, rfl⟩, kW2, ?_⟩
                                          rw [List.take_add_one, hu, List.all_append, hb]
                                          simp only [Option.toList_some, List.all_cons, List.all_nil, isHr, d1, d2, d3, d4, Bool.and_self]
                              | _ => array_get_dec; exact ⟨by rw [noH _ um rfl], kU⟩
                            · rintro ρ U ⟨⟨o2, rfl⟩, kU, hb⟩
                              rw [List.take_of_length_le (Nat.le_refl _)] at hb
                              array_get_dec
                              refine .inl ⟨_, rfl, ?_⟩
                              refine lc_pure (fun _ => true) hd0 trivial (by omega) (fun u hu => ?_) ?_
                              · refine bn rfl ?_
                                array_get_dec
                                refine ⟨rfl, rfl, fun _ => ?_⟩
                                array_get_dec
                                exact hr_step hb hu ⟨rfl, rfl⟩
                              · intro T5 r5 e_r5 l_T5 g_r5 k_T5
                                array_get_dec
                                rw [List.filter_eq_self.mpr (fun _ _ => rfl)] at g_r5
                                refine (risesL_go ((hr_nms nE hb).cmp (by rw [List.length_map]; omega)) (.inr ⟨r5, rfl, g_r5⟩)).imp ?_
                                rintro _ V ⟨rfl, k5⟩
                                exact ⟨by simp only [isHd, hb, Bool.true_and], (kU.trans k_T5).trans k5⟩
                          | _ => cases c2
              | _ => cases c4
  | _ => array_get_dec; exact ⟨rfl, Kn.refl _⟩
end
end K55
namespace K55
open PySem PySem.Spec PyProof.Rows L2 G Th AL KL Fr Od
open K57 (other_ends_ other_ends_B feedL_ feedL_B drawL_ drawL_B netL_ netL_B keyL_ keyL_B endsL_ endsL_B stateL_ stateL_B Tf draw_wp)
open K57 (wireV Mb mbV Net netV pool WOk NOk NmOk endsL ends oes oes_perm mem_endsL other_wp endsL_wp sortS_perm)
open K37 (fmod_lt p60 p40 p62 at_ints)
open K08 (ws_cut)
section
variable {S : Sto} {Fo : Nat → Prop} {m n : Nat} {v : Val} {d : PyData} {nn : Net} {x : Str}
noncomputable def bR (nn : Net) (rs : List Val) : Val → Bool
  | .int i => !(rowB nn (.tup [(nn.ms.map mbV).getD i.toNat .non, rs.getD i.toNat .non]))
  | _ => false
theorem isstateL_wp (hn : NOk nn) (hm : m < 2 ^ 900) (hd : n ≤ 36) (h : Tl S Fo m n v d) (hw : d.weight ≤ 80000) : Wp (is_stateL_ [netV nn, v] S) fun u T => u = .bl (isSt nn v) ∧ Kn S T := by
  have h8 := hn.len
  have h62 := p62
  refine AL.wf ?_; simp only [List.map_cons, List.map_nil, List.length_cons, List.length_nil, Nat.reduceAdd, Nat.reduceSub, List.replicate_succ, List.replicate_zero, List.cons_append, List.nil_append]; unfold is_stateL_B; array_get_dec
  refine isTu_wp h ?_
  cases h with
  | @tup n' vs ds h =>
    array_get_dec
    have lm : (List.map mbV nn.ms).length = nn.ms.length := List.length_map _
    rw [lm]
    refine Br.of (fun c => ?_) (fun c => ?_)
    · have ne : vs.length ≠ nn.ms.length := by
        intro e
        rw [e] at c
        simp at c
      array_get_dec
      exact ⟨by simp only [isSt, decide_eq_false ne, Bool.false_and], Kn.refl _⟩
    · have eq : vs.length = nn.ms.length := by
        have : (vs.length : Int) = nn.ms.length := by simpa using c
        omega
      have hw : PyData.weightAll ds ≤ 80000 := hw
      array_get_dec
      refine ⟨_, rfl, ?_, by omega, by omega⟩
      have lr : (rangeV 0 (vs.length : Int).toNat).length = nn.ms.length := by rw [rangeV_len]; omega
      refine lc_inv (fun i a T => a = ((rangeV 0 (vs.length : Int).toNat).take i).filter (bR nn vs) ∧ Kn S T) (by omega) ⟨rfl, Kn.refl _⟩ (fun _ _ _ _ _ => trivial) (fun i a T hI => by rw [hI.1]; exact Nat.le_trans (List.length_filter_le _ _) (by rw [List.length_take]; omega)) (fun i u a T hu hI => ?_) ?_
      · obtain ⟨rfl, k⟩ := hI
        have tk : (rangeV 0 (vs.length : Int).toNat).take (i + 1) = (rangeV 0 (vs.length : Int).toNat).take i ++ [u] := by
          rw [List.take_add_one, hu]
          rfl
        rw [tk, List.filter_append]
        obtain ⟨rfl, hi⟩ := rangeV_get hu
        have hmb := List.getElem?_eq_getElem (l := nn.ms) (i := i) (by omega)
        have hr := List.getElem?_eq_getElem (l := vs) (i := i) (by omega)
        obtain ⟨d, hdd, t⟩ := h.get hr
        have wd := w_at hdd
        have e1 : (nn.ms.map mbV)[i]? = some (mbV nn.ms[i]) := by rw [List.getElem?_map, hmb]; rfl
        have z0 : (0 : Int) + (i : Int) = (i : Int) := by omega
        rw [z0]
        have eb : bR nn vs (.int (i : Int)) = !(isRw (nsV nn.names) (nsV (oes nn.ws nn.ms[i].name)) (.str nn.ms[i].name) vs[i]) := by
          simp only [bR, Int.toNat_natCast, List.getD_eq_getElem?_getD, e1, hr, Option.getD_some]
          rfl
        refine bn rfl ?_
        array_get_dec
        refine vIxT rfl rfl (atI_nat e1) ?_
        array_get_dec
        refine vIxT rfl rfl (atI_nat hr) ?_
        array_get_dec
        refine (rowL_wp (mb := nn.ms[i]) hn hm (by omega) (Tl.kn t k) (by omega) (hn.nm (List.mem_map.mpr ⟨nn.ms[i], List.getElem_mem _, rfl⟩))).imp ?_
        rintro _ U ⟨rfl, k2⟩
        array_get_dec
        refine Br.of (fun c => ?_) (fun c => ?_)
        · array_get_dec
          refine ⟨?_, k.trans k2⟩
          rw [List.filter_cons_of_pos (by rw [eb]; exact c)]
          rfl
        · refine ⟨?_, k.trans k2⟩
          rw [List.filter_cons_of_neg (by rw [eb, c]; decide)]
          exact (List.append_nil _).symm
      · rintro a T ⟨rfl, k⟩
        rw [List.take_of_length_le (Nat.le_refl _)]
        intro T2 r2 e_r2 l_T2 g_r2 k_T2
        array_get_dec
        intro T3 r3 e_r3 l_T3 g_r3 k_T3
        array_get_dec
        have tl : ∀ L : List Val, (∀ v ∈ L, ∃ k : Nat, k ≤ 100 ∧ v = .int (0 + (k : Int))) → ∃ ds, TlL T3 (fun _ => True) 200000 0 L ds := fun L => by
          induction L with
          | nil => exact fun _ => ⟨_, .nil⟩
          | cons a L ih =>
            intro h
            obtain ⟨k, hk, rfl⟩ := h a List.mem_cons_self
            obtain ⟨ds, hds⟩ := ih fun v hv => h v (List.mem_cons_of_mem _ hv)
            exact ⟨_, .cons (.int _ (by omega)) hds⟩
        have mem : ∀ v ∈ rangeV 0 (vs.length : Int).toNat, ∃ k : Nat, k < vs.length ∧ v = .int (0 + (k : Int)) := fun v hv => by
          obtain ⟨k, hk⟩ := List.getElem?_of_mem hv
          obtain ⟨e, l⟩ := rangeV_get hk
          exact ⟨k, by omega, e⟩
        obtain ⟨ds2, hds⟩ := tl ((rangeV 0 (vs.length : Int).toNat).filter (bR nn vs)) (fun v hv => by
          obtain ⟨k, hk, e⟩ := mem v (List.mem_filter.mp hv).1
          exact ⟨k, by omega, e⟩)
        refine vEqNilD (Nat.lt_of_lt_of_le (show 200000 < 2 ^ 20 by decide) (Nat.pow_le_pow_right (by decide) (by decide))) (by decide) hds (k_T3 _ _ g_r2) g_r3 ⟨?_, (k.trans k_T2).trans k_T3⟩
        refine congrArg Val.bl ?_
        show _ = (decide (vs.length = nn.ms.length) && @decide (Rws nn vs) (Classical.propDecidable _))
        rw [decide_eq_true eq, Bool.true_and, Bool.eq_iff_iff, List.isEmpty_iff, List.filter_eq_nil_iff]
        refine Iff.trans ?_ (@decide_eq_true_iff (Rws nn vs) (Classical.propDecidable _)).symm
        constructor
        · intro h i mb r h1 h2
          have lt := (List.getElem?_eq_some_iff.mp h2).1
          have := h (.int (0 + (i : Int))) (by
            unfold rangeV
            exact List.mem_map.mpr ⟨i, List.mem_range.mpr (by omega), rfl⟩)
          have e1 : (nn.ms.map mbV)[i]? = some (mbV mb) := by rw [List.getElem?_map, h1]; rfl
          simp only [bR, Bool.not_eq_true, Bool.not_eq_false'] at this
          rw [show ((0 : Int) + (i : Int)).toNat = i by omega, List.getD_eq_getElem?_getD, List.getD_eq_getElem?_getD, e1, h2] at this
          exact this
        · intro h v hv
          obtain ⟨i, hi, rfl⟩ := mem v hv
          have hmb := List.getElem?_eq_getElem (l := nn.ms) (i := i) (by omega)
          have hr := List.getElem?_eq_getElem (l := vs) (i := i) (by omega)
          have e1 : (nn.ms.map mbV)[i]? = some (mbV nn.ms[i]) := by rw [List.getElem?_map, hmb]; rfl
          have this : rowB nn (.tup [mbV nn.ms[i], vs[i]]) = true := h i _ _ hmb hr
          simp only [bR]
          rw [show ((0 : Int) + (i : Int)).toNat = i by omega, List.getD_eq_getElem?_getD, List.getD_eq_getElem?_getD, e1, hr, Option.getD_some, Option.getD_some, this]
          decide
  | _ => array_get_dec; exact ⟨rfl, Kn.refl _⟩
end
end K55
namespace K55
open PySem PySem.Spec PyProof.Rows L2 G Th AL KL Fr Od
open K57 (other_ends_ other_ends_B feedL_ feedL_B drawL_ drawL_B netL_ netL_B keyL_ keyL_B any_keyL_ any_keyL_B endsL_ endsL_B stateL_ stateL_B Tf draw_wp)
open K57 (wireV Mb mbV Net netV pool WOk NOk NmOk net_wp state_wp feed_wp Ky keyV KyOk Bs bsV boV BsOk Hd hdV HdOk Rw rwV RwOk SOk stV)
open K37 (fmod_lt p60 p40 p62 at_ints)
open K08 (ws_cut)
section
variable {S U : Sto} {Fo : Nat → Prop} {m n w w' q : Nat} {v : Val} {vs us : List Val}
def In (S : Sto) (Fo : Nat → Prop) (m n w : Nat) (v : Val) : Prop := ∃ d, Tl S Fo m n v d ∧ d.weight ≤ w
def InL (S : Sto) (Fo : Nat → Prop) (m n w : Nat) (vs : List Val) : Prop := ∃ ds, TlL S Fo m n vs ds ∧ PyData.weightAll ds ≤ w
theorem InL.nil : InL S Fo m n 0 [] := ⟨_, .nil, Nat.le_refl _⟩
theorem InL.cons (h : In S Fo m n w v) (g : InL S Fo m n w' vs) : InL S Fo m n (w + 1 + w') (v :: vs) := by
  obtain ⟨d, a, b⟩ := h
  obtain ⟨ds, c, e⟩ := g
  refine ⟨_, .cons a c, ?_⟩
  simp only [PyData.weightAll]
  omega
theorem InL.tup (h : InL S Fo m n w vs) : In S Fo m (n + 1) w (.tup vs) := by
  obtain ⟨ds, c, e⟩ := h
  exact ⟨_, .tup c, e⟩
theorem InL.lst {r : Nat} (h : InL S Fo m n w vs) (f : Fo r) (g : S[r]? = some (.lst vs)) : In S Fo m (n + 1) w (.ref r) := by
  obtain ⟨ds, c, e⟩ := h
  exact ⟨_, .lst f g c, e⟩
theorem InL.map {α : Type} {f : α → Val} : ∀ (l : List α), (∀ a ∈ l, In S Fo m n w (f a)) → InL S Fo m n ((w + 1) * l.length) (l.map f)
  | [], _ => ⟨_, .nil, Nat.zero_le _⟩
  | a :: l, h => by
    have := InL.cons (h a List.mem_cons_self) (InL.map l fun b hb => h b (List.mem_cons_of_mem _ hb))
    rw [List.length_cons, Nat.mul_succ, Nat.add_comm]
    exact this
theorem In.mono {n' m' : Nat} (h : In S Fo m n w v) (hm : m ≤ m') (hn : n ≤ n') (hw : w ≤ w') : In S Fo m' n' w' v := by
  obtain ⟨d, a, b⟩ := h
  exact ⟨d, a.up hm (fun r vs f g => ⟨f, g⟩) _ hn, by omega⟩
theorem InL.mono {n' m' : Nat} (h : InL S Fo m n w vs) (hm : m ≤ m') (hn : n ≤ n') (hw : w ≤ w') : InL S Fo m' n' w' vs := by
  obtain ⟨d, a, b⟩ := h
  exact ⟨d, a.up hm (fun r vs f g => ⟨f, g⟩) _ hn, by omega⟩
theorem In.to {Fo' : Nat → Prop} (h : In S Fo m n w v) (k : ∀ r vs, Fo r → S[r]? = some (.lst vs) → Fo' r ∧ U[r]? = some (.lst vs)) : In U Fo' m n w v := by
  obtain ⟨d, a, b⟩ := h
  exact ⟨d, a.up (Nat.le_refl _) k _ (Nat.le_refl _), b⟩
theorem InL.app (h : InL S Fo m n w vs) (g : InL S Fo m n w' us) : InL S Fo m n (w + w') (vs ++ us) := by
  obtain ⟨ds, a, b⟩ := h
  obtain ⟨es, c, e⟩ := g
  exact ⟨_, a.app c, by rw [w_app]; omega⟩
theorem InL.rev (h : InL S Fo m n w vs) : InL S Fo m n w vs.reverse := by
  obtain ⟨ds, a, b⟩ := h
  exact ⟨_, a.rev, by rw [AL.w_rev]; omega⟩
theorem InL.take (h : InL S Fo m n w vs) (k : Nat) : InL S Fo m n w (vs.take k) := by
  obtain ⟨ds, a, b⟩ := h
  exact ⟨_, a.take k, by have := w_split k ds; omega⟩
theorem InL.drop (h : InL S Fo m n w vs) (k : Nat) : InL S Fo m n w (vs.drop k) := by
  obtain ⟨ds, a, b⟩ := h
  exact ⟨_, a.drop k, by have := w_split k ds; omega⟩
theorem In.str {x : Str} (h : NmOk x) : In S Fo m n 8 (.str x) := ⟨_, .str x h.1 (by have := h.2; omega), h.2⟩
theorem In.int {i : Int} (k : Nat) (h1 : i.natAbs ≤ m) (h2 : i.natAbs < 2 ^ k) : In S Fo m n k (.int i) := by
  refine ⟨_, .int i h1, ?_⟩
  show (if (i == 0) = true then 0 else i.natAbs.log2 + 1) ≤ _
  by_cases c : (i == 0) = true
  · rw [if_pos c]
    omega
  · rw [if_neg c]
    have c2 : i.natAbs ≠ 0 := fun h => c (by rw [show i = 0 by omega]; rfl)
    have := (Nat.log2_lt c2).mpr h2
    omega
theorem In.non : In S Fo m n 0 .non := ⟨_, .non, Nat.le_refl _⟩
theorem m0_big : 1000 ≤ M0 := by unfold M0; decide
theorem in_net {nn : Net} (hn : NOk nn) : InL S Fo M0 2 400 [.tup (nn.ms.map mbV), .tup (nn.ws.map wireV)] := by
  have l8 := hn.len
  have l12 := hn.w.len
  have hM := m0_big
  have a := (InL.map (S := S) (Fo := Fo) (m := M0) (n := 1) (w := 14) (f := mbV) nn.ms fun mb hmb => by
    obtain ⟨a, b, c, d⟩ := hn.num mb hmb
    have hx := hn.nm (List.mem_map.mpr ⟨mb, hmb, rfl⟩)
    exact (InL.cons (In.str hx) (InL.cons (In.int 2 (by omega) (by omega)) (InL.cons (In.int 1 (by omega) (by omega)) InL.nil))).tup)
  have b := (InL.map (S := S) (Fo := Fo) (m := M0) (n := 1) (w := 18) (f := wireV) nn.ws fun x hx => by
    obtain ⟨a, b, _⟩ := hn.w.mem x hx
    exact (InL.cons (In.str (hn.nm a)) (InL.cons (In.str (hn.nm b)) InL.nil)).tup)
  exact (InL.cons a.tup (InL.cons b.tup InL.nil)).mono (Nat.le_refl _) (Nat.le_refl _) (by omega)
theorem in_key {k : Ky} (h : KyOk k) : In S Fo M0 1 14 (keyV k) := by
  have a := h.p0
  have b := h.p1
  have c := h.c0
  have e := h.c1
  have hM := m0_big
  exact (InL.cons (In.int 2 (by omega) (by omega)) (InL.cons (In.int 1 (by omega) (by omega)) (InL.cons (In.str h.nm) InL.nil))).tup
theorem in_row {nn : Net} (hn : NOk nn) {r : Rw} (h : RwOk nn.names r) (nm : NmOk r.name) : In S Fo M0 4 360 (rwV r) := by
  have l8 := h.len hn
  have hM := m0_big
  have hb : In S Fo M0 3 30 (boV r.best) := by
    cases e : r.best with
    | none => exact (In.non (n := 0)).mono (Nat.le_refl _) (by omega) (by omega)
    | some b =>
      have hb := h.best b e
      have a := hb.s0
      have c := hb.s1
      exact (InL.cons (in_key hb.key) (InL.cons (In.int 4 (by omega) (by omega)) (InL.cons (In.str (hn.nm hb.who)) InL.nil))).tup.mono (Nat.le_refl _) (by omega) (by omega)
  have hh := (InL.map (S := S) (Fo := Fo) (m := M0) (n := 2) (w := 34) (f := hdV) r.hs fun x hx => by
    have hx := h.hs x hx
    have a := hx.s0
    have b := hx.s1
    have c := hx.o0
    have e := hx.o1
    exact (InL.cons (In.str (hn.nm hx.who)) (InL.cons (in_key hx.key) (InL.cons (In.int 4 (by omega) (by omega)) (InL.cons (In.int 3 (by omega) (by omega)) InL.nil)))).tup.mono (Nat.le_refl _) (Nat.le_refl _) (by omega))
  exact (InL.cons (In.str nm) (InL.cons hb (InL.cons hh.tup InL.nil))).tup.mono (Nat.le_refl _) (Nat.le_refl _) (by omega)
theorem in_st {nn : Net} (hn : NOk nn) {s : List Rw} (so : SOk nn s) : InL S Fo M0 4 3000 (s.map rwV) := by
  have l8 := hn.len
  have ls := so.len
  have := (InL.map (S := S) (Fo := Fo) (m := M0) (n := 4) (w := 360) (f := rwV) s fun r hr => in_row hn (so.row r hr) (so.nms hn hr))
  exact this.mono (Nat.le_refl _) (Nat.le_refl _) (by have := Nat.mul_le_mul_left (360 + 1) (show s.length ≤ 8 by omega); omega)
/-- bent -/
theorem in_bent {B : Int} (T : Tf S B) (hF : ∀ r, S.length ≤ r → Fo r) (hz : ∀ r, Fo r → r ≠ 0) (h : In S Fo m n w v) (hn : n ≤ 7) (hw : w ≤ 30000) (hB : B + 48 < 2 ^ 40) (hm : M0 ≤ m) (hM : m + 3 < 2 ^ 199) : Wp (bentL_ [.ref 0, v] S) fun v' U => In U Fo (m + 3) (n + 1) (2 * w + 300) v' ∧ Tf U (B + 48) ∧ Kx 0 S U := by
  obtain ⟨d, a, b⟩ := h
  refine (bent_wp 8 n T hF hz a (by omega) (by omega) (by omega) (by omega) hm hM).imp ?_
  rintro v' U ⟨⟨d', a', b'⟩, t, k⟩
  exact ⟨⟨d', a', by omega⟩, t.mono (by omega), k⟩
def Fq (q : Nat) (r : Nat) : Prop := r ≠ 0 ∧ r ≠ q
def K2 (q : Nat) (S U : Sto) : Prop := ∀ r o, r ≠ 0 → r ≠ q → S[r]? = some o → U[r]? = some o
theorem In.k2 (h : In S (Fq q) m n w v) (k : K2 q S U) : In U (Fq q) m n w v := h.to fun r vs f g => ⟨f, k r _ f.1 f.2 g⟩
end
end K55
namespace K55
open PySem PySem.Spec PyProof.Rows L2 G Th AL KL Fr Od
open K57 (other_ends_ other_ends_B feedL_ feedL_B drawL_ drawL_B netL_ netL_B keyL_ keyL_B any_keyL_ any_keyL_B endsL_ endsL_B stateL_ stateL_B Tf draw_wp)
open K57 (wireV Mb mbV Net netV pool WOk NOk NmOk net_wp state_wp feed_wp Ky keyV KyOk Bs bsV boV BsOk Hd hdV HdOk Rw rwV RwOk SOk stV)
open K37 (fmod_lt p60 p40 p62 at_ints)
open K08 (ws_cut)
section
variable {S U : Sto} {Fo : Nat → Prop} {m n w w' q : Nat} {v : Val} {vs us : List Val}
theorem step4 {B : Int} {X : Val} {z2 z3 z4 z5 z6 z7 z8 z9 z10 z11 z0 : Option Val} (T : Tf S B) (hB : B + 1000 < 2 ^ 40) (hX : In S (Fq q) M0 5 6600 X) (g : S[q]? = some (.lst vs)) (q3 : 3 ≤ q) (lv : vs.length ≤ 1000) :
    Ws ((sSeq (sAsg (.nm 10) (eDef bentL_ 2 (aCons (eV 1) (aCons (eV 6) aNil))))
    (sExpr (eMt isL gApp (eV 4) (aCons (eIf (eT (eB gEq (eDef drawL_ 2 (aCons (eV 1) (aCons (eC (.int 3)) aNil))) (eC (.int 0)))) (eDef bentL_ 2 (aCons (eV 1) (aCons (eV 10) aNil))) (eV 10)) aNil)))) [z0, some (.ref 0), z2, z3, some (.ref q), z5, some X, z7, z8, z9, z10, z11] S)
      (fun ρ U => (∃ o, ρ = [z0, some (.ref 0), z2, z3, some (.ref q), z5, some X, z7, z8, z9, o, z11]) ∧ ∃ v, U[q]? = some (.lst (vs ++ [v])) ∧ In U (Fq q) (M0 + 6) 7 27900 v ∧ K2 q S U ∧ Tf U (B + 100)) (fun _ _ => False) := by
  have h40 := p40
  have h60 := p60
  have hz : ∀ r, Fq q r → r ≠ 0 := fun r f => f.1
  have hF : ∀ r, S.length ≤ r → Fq q r := fun r hr => by
    have := (List.getElem?_eq_some_iff.mp g).1
    exact ⟨by omega, by omega⟩
  have M3 : M0 + 3 < 2 ^ 199 := by unfold M0; decide
  have M6 : M0 + 3 + 3 < 2 ^ 199 := by unfold M0; decide
  array_get_dec
  refine (in_bent T hF hz hX (by omega) (by omega) (by omega) (Nat.le_refl _) M3).imp ?_
  rintro v1 S1 ⟨i1, t1, k1⟩
  have g1 : S1[q]? = some (.lst vs) := k1 _ _ (by omega) g
  have le1 := tfle T k1
  array_get_dec
  have fin : ∀ {v2 : Val} {S2 : Sto}, In S2 (Fq q) (M0 + 6) 7 27900 v2 → Tf S2 (B + 100) → Kx 0 S S2 → S2[q]? = some (.lst vs) → Wp (gApp (.ref q) [v2] S2) fun _ U => (∃ o, [z0, some (.ref 0), z2, z3, some (.ref q), z5, some X, z7, z8, z9, some v1, z11] = [z0, some (.ref 0), z2, z3, some (.ref q), z5, some X, z7, z8, z9, o, z11]) ∧ ∃ v, U[q]? = some (.lst (vs ++ [v])) ∧ In U (Fq q) (M0 + 6) 7 27900 v ∧ K2 q S U ∧ Tf U (B + 100) := fun {v2 S2} i2 t2 k2 g2 => by
    refine vApp rfl g2 ?_ (small (by omega))
    intro S3 l_S3 g_S3 k_S3
    refine ⟨⟨_, rfl⟩, v2, g_S3, i2.to (fun r us f e => ⟨f, k_S3 _ _ f.2 e⟩), fun r o h0 h1 e => k_S3 _ _ h1 (k2 _ _ h0 e), ?_⟩
    exact t2.kx k_S3 q3
  refine (draw_wp t1 (by decide) (by decide) (by omega)).imp ?_
  rintro _ S2 ⟨x, rfl, x0, x1, t2, k2⟩
  have g2 : S2[q]? = some (.lst vs) := k2 _ _ (by omega) g1
  have k02 : Kx 0 S S2 := k1.trans k2
  have le2 := tfle T k02
  have i2 : In S2 (Fq q) (M0 + 3) 6 13500 v1 := (i1.to fun r us f e => ⟨f, k2 _ _ f.1 e⟩).mono (Nat.le_refl _) (Nat.le_refl _) (by omega)
  array_get_dec
  refine Br.of (fun c => ?_) (fun c => ?_)
  · array_get_dec
    refine (in_bent t2 (fun r hr => hF r (by omega)) hz i2 (by omega) (by omega) (by omega) (by omega) M6).imp ?_
    rintro v3 S3 ⟨i3, t3, k3⟩
    array_get_dec
    exact fin (i3.mono (Nat.le_refl _) (Nat.le_refl _) (by omega)) (t3.mono (by omega)) (k02.trans k3) (k3 _ _ (by omega) g2)
  · array_get_dec
    exact fin (i2.mono (by omega) (by omega) (by omega)) (t2.mono (by omega)) k02 g2
theorem step9 {B : Int} {X : Val} {z2 z3 z4 z5 z6 z7 z8 z9 z10 z11 z0 : Option Val} (T : Tf S B) (hB : B + 1000 < 2 ^ 40) (hX : In S (Fq q) M0 5 6600 X) (g : S[q]? = some (.lst vs)) (q3 : 3 ≤ q) (lv : vs.length ≤ 1000) :
    Ws ((sSeq (sAsg (.nm 10) (eDef bentL_ 2 (aCons (eV 1) (aCons (eV 7) aNil))))
    (sExpr (eMt isL gApp (eV 9) (aCons (eIf (eT (eB gEq (eDef drawL_ 2 (aCons (eV 1) (aCons (eC (.int 3)) aNil))) (eC (.int 0)))) (eDef bentL_ 2 (aCons (eV 1) (aCons (eV 10) aNil))) (eV 10)) aNil)))) [z0, some (.ref 0), z2, z3, z4, z5, z6, some X, z8, some (.ref q), z10, z11] S)
      (fun ρ U => (∃ o, ρ = [z0, some (.ref 0), z2, z3, z4, z5, z6, some X, z8, some (.ref q), o, z11]) ∧ ∃ v, U[q]? = some (.lst (vs ++ [v])) ∧ In U (Fq q) (M0 + 6) 7 27900 v ∧ K2 q S U ∧ Tf U (B + 100)) (fun _ _ => False) := by
  have h40 := p40
  have h60 := p60
  have hz : ∀ r, Fq q r → r ≠ 0 := fun r f => f.1
  have hF : ∀ r, S.length ≤ r → Fq q r := fun r hr => by
    have := (List.getElem?_eq_some_iff.mp g).1
    exact ⟨by omega, by omega⟩
  have M3 : M0 + 3 < 2 ^ 199 := by unfold M0; decide
  have M6 : M0 + 3 + 3 < 2 ^ 199 := by unfold M0; decide
  array_get_dec
  refine (in_bent T hF hz hX (by omega) (by omega) (by omega) (Nat.le_refl _) M3).imp ?_
  rintro v1 S1 ⟨i1, t1, k1⟩
  have g1 : S1[q]? = some (.lst vs) := k1 _ _ (by omega) g
  have le1 := tfle T k1
  array_get_dec
  have fin : ∀ {v2 : Val} {S2 : Sto}, In S2 (Fq q) (M0 + 6) 7 27900 v2 → Tf S2 (B + 100) → Kx 0 S S2 → S2[q]? = some (.lst vs) → Wp (gApp (.ref q) [v2] S2) fun _ U => (∃ o, [z0, some (.ref 0), z2, z3, z4, z5, z6, some X, z8, some (.ref q), some v1, z11] = [z0, some (.ref 0), z2, z3, z4, z5, z6, some X, z8, some (.ref q), o, z11]) ∧ ∃ v, U[q]? = some (.lst (vs ++ [v])) ∧ In U (Fq q) (M0 + 6) 7 27900 v ∧ K2 q S U ∧ Tf U (B + 100) := fun {v2 S2} i2 t2 k2 g2 => by
    refine vApp rfl g2 ?_ (small (by omega))
    intro S3 l_S3 g_S3 k_S3
    refine ⟨⟨_, rfl⟩, v2, g_S3, i2.to (fun r us f e => ⟨f, k_S3 _ _ f.2 e⟩), fun r o h0 h1 e => k_S3 _ _ h1 (k2 _ _ h0 e), ?_⟩
    exact t2.kx k_S3 q3
  refine (draw_wp t1 (by decide) (by decide) (by omega)).imp ?_
  rintro _ S2 ⟨x, rfl, x0, x1, t2, k2⟩
  have g2 : S2[q]? = some (.lst vs) := k2 _ _ (by omega) g1
  have k02 : Kx 0 S S2 := k1.trans k2
  have le2 := tfle T k02
  have i2 : In S2 (Fq q) (M0 + 3) 6 13500 v1 := (i1.to fun r us f e => ⟨f, k2 _ _ f.1 e⟩).mono (Nat.le_refl _) (Nat.le_refl _) (by omega)
  array_get_dec
  refine Br.of (fun c => ?_) (fun c => ?_)
  · array_get_dec
    refine (in_bent t2 (fun r hr => hF r (by omega)) hz i2 (by omega) (by omega) (by omega) (by omega) M6).imp ?_
    rintro v3 S3 ⟨i3, t3, k3⟩
    array_get_dec
    exact fin (i3.mono (Nat.le_refl _) (Nat.le_refl _) (by omega)) (t3.mono (by omega)) (k02.trans k3) (k3 _ _ (by omega) g2)
  · array_get_dec
    exact fin (i2.mono (by omega) (by omega) (by omega)) (t2.mono (by omega)) k02 g2
/-- a thing judged: both ways of asking agree and leave it as it is -/
theorem judge4 {d : PyData} {x : Val} {z0 z1 z2 z3 z4 z5 z6 z7 z8 z9 z10 z11 : Option Val} (h : Tl S Fo m n x d) (hm : m < 2 ^ 900) (hn : n ≤ 30) (hw : d.weight ≤ 40000) :
    Ws ((sSeq (sAsg (.nm 11) (eCall gRepr (aCons (eV 10) aNil)))
    (sIf (bOr (eT (eB gNe (eCall gRepr (aCons (eDef is_net_ 1 (aCons (eV 10) aNil)) aNil)) (eCall gRepr (aCons (eDef is_netL_ 1 (aCons (eV 10) aNil)) aNil)))) (eT (eB gNe (eCall gRepr (aCons (eV 10) aNil)) (eV 11)))) (sRet (eC (.bl false))) sNil)) [z0, z1, z2, z3, z4, z5, z6, z7, z8, z9, some x, z11] S)
      (fun ρ U => (∃ o, ρ = [z0, z1, z2, z3, z4, z5, z6, z7, z8, z9, some x, o]) ∧ Kn S U) (fun _ _ => False) := by
  array_get_dec
  refine Wp.of (h.repr hm (by omega) hw) ?_
  array_get_dec
  refine (isnet_wp hm (by omega) h (by omega)).imp ?_
  rintro _ S1 ⟨rfl, k1⟩
  array_get_dec
  refine Wp.of (Tl.repr (S := S1) (Fo := Fo) (n := 0) hm (by omega) (Nat.zero_le _) (.bl _)) ?_
  array_get_dec
  refine (isnetL_wp hm (by omega) (Tl.kn h k1) (by omega)).imp ?_
  rintro _ S2 ⟨rfl, k2⟩
  array_get_dec
  refine Wp.of (Tl.repr (S := S2) (Fo := Fo) (n := 0) hm (by omega) (Nat.zero_le _) (.bl _)) ?_
  array_get_dec
  refine brF (by simp) ?_
  array_get_dec
  refine Wp.of ((Tl.kn h (k1.trans k2)).repr hm (by omega) hw) ?_
  array_get_dec
  refine brF (by simp) ?_
  array_get_dec
  exact ⟨⟨_, rfl⟩, k1.trans k2⟩
/-- a thing judged: both ways of asking agree and leave it as it is -/
theorem judge9 {d : PyData} {x : Val} {nn : Net} {z0 z1 z2 z3 z4 z5 z6 z7 z8 z9 z10 z11 : Option Val} (hnn : NOk nn) (h : Tl S Fo m n x d) (hm : m < 2 ^ 900) (hn : n ≤ 30) (hw : d.weight ≤ 40000) :
    Ws ((sSeq (sAsg (.nm 11) (eCall gRepr (aCons (eV 10) aNil)))
    (sIf (bOr (eT (eB gNe (eCall gRepr (aCons (eDef is_state_ 2 (aCons (eV 6) (aCons (eV 10) aNil))) aNil)) (eCall gRepr (aCons (eDef is_stateL_ 2 (aCons (eV 6) (aCons (eV 10) aNil))) aNil)))) (eT (eB gNe (eCall gRepr (aCons (eV 10) aNil)) (eV 11)))) (sRet (eC (.bl false))) sNil)) [z0, z1, z2, z3, z4, z5, some (netV nn), z7, z8, z9, some x, z11] S)
      (fun ρ U => (∃ o, ρ = [z0, z1, z2, z3, z4, z5, some (netV nn), z7, z8, z9, some x, o]) ∧ Kn S U) (fun _ _ => False) := by
  array_get_dec
  refine Wp.of (h.repr hm (by omega) hw) ?_
  array_get_dec
  refine (isstate_wp hnn hm (by omega) h (by omega)).imp ?_
  rintro _ S1 ⟨rfl, k1⟩
  array_get_dec
  refine Wp.of (Tl.repr (S := S1) (Fo := Fo) (n := 0) hm (by omega) (Nat.zero_le _) (.bl _)) ?_
  array_get_dec
  refine (isstateL_wp hnn hm (by omega) (Tl.kn h k1) (by omega)).imp ?_
  rintro _ S2 ⟨rfl, k2⟩
  array_get_dec
  refine Wp.of (Tl.repr (S := S2) (Fo := Fo) (n := 0) hm (by omega) (Nat.zero_le _) (.bl _)) ?_
  array_get_dec
  refine brF (by simp) ?_
  array_get_dec
  refine Wp.of ((Tl.kn h (k1.trans k2)).repr hm (by omega) hw) ?_
  array_get_dec
  refine brF (by simp) ?_
  array_get_dec
  exact ⟨⟨_, rfl⟩, k1.trans k2⟩
end
end K55
namespace K55
open PySem PySem.Spec PyProof.Rows L2 G Th AL KL Fr Od
open K57 (other_ends_ other_ends_B feedL_ feedL_B drawL_ drawL_B netL_ netL_B keyL_ keyL_B any_keyL_ any_keyL_B endsL_ endsL_B stateL_ stateL_B Tf draw_wp)
open K57 (wireV Mb mbV Net netV pool WOk NOk NmOk net_wp state_wp feed_wp Ky keyV KyOk Bs bsV boV BsOk Hd hdV HdOk Rw rwV RwOk SOk stV)
open K37 (fmod_lt p60 p40 p62 at_ints)
open K08 (ws_cut wd wm)
section
variable {S U : Sto} {Fo : Nat → Prop} {m n w w' q : Nat} {v : Val} {vs us : List Val}
def ch (j : Int) : Str := ⟨#[(Str.cps abc).toList.getD j.toNat 0]⟩
def nmI (i : Int) : Str := ("q" ++ ch (i / 26)) ++ ch (i.fmod 26)
def manyV : Val → Val
  | .int i => .tup [.str (nmI i), .int i, .int (10 ^ 40)]
  | _ => .non
theorem abc_len : (Str.cps abc).toList.length = 26 := by decide +kernel
theorem nm_ok : ∀ k : Fin 50, PyData.strOk (nmI ((k.1 : Nat) : Int)) = true ∧ (nmI ((k.1 : Nat) : Int)).cps.size ≤ 8 := by decide +kernel
theorem vIxS {Q : Val → Sto → Prop} {j : Int} (j0 : 0 ≤ j) (j1 : j < 26) (q : Q (.str (ch j)) S) : Wp (gIxA (.str abc) (.int j) S) Q := by
  obtain ⟨k, rfl⟩ := Int.eq_ofNat_of_zero_le j0
  have l := abc_len
  have e := List.getElem?_eq_getElem (l := (Str.cps abc).toList) (i := k) (by omega)
  refine ⟨.str (ch k), S, ?_, q⟩
  show gIx (.str abc) (.int k) S = _
  unfold gIx
  dsimp only
  rw [if_pos (Nat.le_of_lt (small (by show (Str.cps abc).size < _; rw [← Array.length_toList, l]; decide))), atI_nat e]
  simp only [Option.map_some, ch, Int.toNat_natCast, List.getD_eq_getElem?_getD, e, Option.getD_some]
theorem vAddTs {Q : Val → Sto → Prop} {a b : Str} (l : a.cps.size + b.cps.size < 1000) (q : Q (.str (a ++ b)) S) : Wp (gAddT (.str a) (.str b) S) Q := by
  refine ⟨_, S, ?_, q⟩
  show (if a.cps.size + b.cps.size ≤ sizeLine then _ else _) = _
  rw [if_pos (Nat.le_of_lt (small (by omega)))]
theorem app_size (a b : Str) : (a ++ b).cps.size = a.cps.size + b.cps.size := by
  show (a.cps ++ b.cps).size = _
  exact Array.size_append
theorem ch_size (j : Int) : (ch j).cps.size = 1 := rfl
theorem in_many {k : Nat} (hk : k < 50) : In S Fo M0 1 160 (manyV (.int (k : Nat))) := by
  have h := nm_ok ⟨k, hk⟩
  have hM := m0_big
  exact (InL.cons (In.str (show NmOk _ from h)) (InL.cons (In.int 6 (by omega) (by omega)) (InL.cons (In.int 140 (by unfold M0; decide) (by decide)) InL.nil))).tup.mono (Nat.le_refl _) (Nat.le_refl _) (by omega)
def mans : List Val := (rangeV 0 50).map manyV
theorem in_mans : InL S Fo M0 1 8050 mans := by
  have : mans = (List.range 50).map fun (k : Nat) => manyV (.int (k : Nat)) := by
    unfold mans rangeV
    rw [List.map_map]
    refine List.map_congr_left fun k _ => ?_
    show manyV (.int (0 + (k : Int))) = _
    rw [Int.zero_add]
  rw [this]
  have := (InL.map (S := S) (Fo := Fo) (m := M0) (n := 1) (w := 160) (f := fun (k : Nat) => manyV (.int (k : Nat))) (List.range 50) fun k hk => in_many (List.mem_range.mp hk))
  exact this.mono (Nat.le_refl _) (Nat.le_refl _) (by rw [List.length_range]; omega)
theorem K2.of_kn {S U : Sto} (k : Kn S U) : K2 q S U := fun r o _ _ e => k _ _ e
theorem K2.of_kx {S U : Sto} (k : Kx 0 S U) : K2 q S U := fun r o h _ e => k _ _ h e
theorem K2.trans {S T U : Sto} (a : K2 q S T) (b : K2 q T U) : K2 q S U := fun r o h h2 e => b _ _ h h2 (a _ _ h h2 e)
theorem law_true (ns : List Int) (h : ns.length ≤ 63) : ∃ S', law_ [.scr ns] [] = some (.bl true, S') := by
  have h60 := p60
  have h40 := p40
  have h62 := p62
  suffices z : Wp (law_ [.scr ns] []) fun v _ => v = .bl true by
    obtain ⟨v, S', e, rfl⟩ := z
    exact ⟨S', e⟩
  refine AL.wf ?_; simp only [List.map_cons, List.map_nil, List.length_cons, List.length_nil, Nat.reduceAdd, Nat.reduceSub, List.replicate_succ, List.replicate_zero, List.cons_append, List.nil_append]; unfold law_B; array_get_dec
  refine (feed_wp ns h).imp ?_
  rintro _ S0 ⟨rfl, t0⟩
  array_get_dec
  refine ⟨_, rfl, ?_, by omega, by omega⟩
  refine lc_pure (fun _ => true) manyV trivial (by rw [rangeV_len]; decide) (fun u hu => ?_) ?_
  · obtain ⟨k, hk, rfl⟩ := List.mem_map.mp hu
    have hk : k < 50 := List.mem_range.mp hk
    rw [show (0 : Int) + (k : Int) = k from Int.zero_add _]
    refine bn rfl ?_
    array_get_dec
    refine ⟨rfl, rfl, fun _ => ?_⟩
    have fm := fmod_lt (a := ((k : Nat) : Int)) (b := 26) (by decide)
    have sq : (Str.ofString "q").cps.size = 1 := by decide +kernel
    array_get_dec
    · refine vIxS (by omega) (by omega) ?_
      array_get_dec
      refine vAddTs (by rw [ch_size, sq]; decide) ?_
      array_get_dec
      refine vIxS fm.1 fm.2 ?_
      array_get_dec
      refine vAddTs (by rw [app_size, ch_size, ch_size, sq]; decide) ?_
      array_get_dec
      refine vPow rfl rfl ?_ ⟨by decide, by decide, by decide⟩
      array_get_dec
      exact ⟨rfl, rfl⟩
      all_goals decide
    · exact wd (by decide) (by decide)
  · rw [List.filter_eq_self.mpr (fun _ _ => rfl)]
    have em : (rangeV 0 (50 : Int).toNat).map manyV = mans := rfl
    rw [em]
    have iM : ∀ {S : Sto} {Fo : Nat → Prop}, InL S Fo M0 1 8050 mans := in_mans
    have lM : mans.length = 50 := by unfold mans; rw [List.length_map, rangeV_len]
    have e0 : mans[0]? = some (manyV (.int (0 : Nat))) := by rfl
    have e49 : mans[49]? = some (manyV (.int (49 : Nat))) := by rfl
    generalize mans = M at iM lM e0 e49 ⊢
    intro S1 r1 e_r1 l_S1 g_r1 k_S1
    array_get_dec
    refine vIxT rfl rfl (atI_nat e0) ?_
    array_get_dec
    refine vIxT rfl rfl (atI_nat e49) ?_
    array_get_dec
    refine vRevT rfl ?_
    array_get_dec
    intro S2 r2 e_r2 l_S2 g_r2 k_S2
    array_get_dec
    have t2 : Tf S2 0 := (t0.fr k_S1).fr k_S2
    have ls : ∀ {S : Sto} {B : Int}, Tf S B → 3 ≤ S.length := fun {S B} t => by
      obtain ⟨_, _, _, _, h, _⟩ := t.ex
      have := (List.getElem?_eq_some_iff.mp h).1
      omega
    have l0 := ls t0
    have i2 : ∀ u ∈ [Val.tup [Val.tup M, Val.tup []], Val.tup [Val.tup M, Val.tup [Val.tup [Val.str (nmI (0 : Nat)), Val.str (nmI (49 : Nat))]]], Val.tup [Val.tup M.reverse, Val.tup []], Val.tup [Val.tup [], Val.tup []], Val.tup [Val.tup [], Val.tup [Val.tup [Val.str "a", Val.str "b"]]], Val.non, Val.tup []], In S2 (fun r => r ≠ 0) (M0 + 6) 7 27900 u := fun u hu => by
      have n0 := nm_ok ⟨0, by decide⟩
      have n49 := nm_ok ⟨49, by decide⟩
      have wi : ∀ {a b : Str}, NmOk a → NmOk b → In S2 (fun r => r ≠ 0) M0 2 20 (.tup [.tup [.str a, .str b]]) := fun ha hb => (InL.cons (InL.cons (In.str ha) (InL.cons (In.str hb) InL.nil)).tup InL.nil).tup.mono (Nat.le_refl _) (Nat.le_refl _) (by omega)
      have em : ∀ {n : Nat}, In S2 (fun r => r ≠ 0) M0 (n + 1) 0 (.tup []) := InL.nil.tup
      simp only [List.mem_cons, List.not_mem_nil, or_false] at hu
      rcases hu with rfl | rfl | rfl | rfl | rfl | rfl | rfl
      · exact (InL.cons iM.tup (InL.cons em InL.nil)).tup.mono (by omega) (by omega) (by omega)
      · exact (InL.cons iM.tup (InL.cons (wi n0 n49) InL.nil)).tup.mono (by omega) (by omega) (by omega)
      · exact (InL.cons iM.rev.tup (InL.cons em InL.nil)).tup.mono (by omega) (by omega) (by omega)
      · exact (InL.cons (em (n := 1)) (InL.cons em InL.nil)).tup.mono (by omega) (by omega) (by omega)
      · exact (InL.cons (em (n := 1)) (InL.cons (wi ⟨by decide +kernel, by decide +kernel⟩ ⟨by decide +kernel, by decide +kernel⟩) InL.nil)).tup.mono (by omega) (by omega) (by omega)
      · exact (In.non (n := 0) (m := M0)).mono (by omega) (by omega) (by omega)
      · exact (em (n := 0)).mono (by omega) (by omega) (by omega)
    refine ⟨_, rfl, ?_, by omega, by omega⟩
    have lz : (rangeV 0 (3 : Int).toNat).length = 3 := by rfl
    refine ws_loop (fun i ρ S => (∃ (q : Nat) (z5 z6 z7 z8 z9 z10 z11 : Option Val) (vs : List Val), ρ = [some (.scr ns), some (.ref 0), some (.str abc), some (.tup M), some (.ref q), z5, z6, z7, z8, z9, z10, z11] ∧ S[q]? = some (.lst vs) ∧ vs.length ≤ 7 ∧ 3 ≤ q ∧ ∀ u ∈ vs, In S (fun r => r ≠ 0) (M0 + 6) 7 27900 u) ∧ Tf S (10000 * (i : Nat)) ∧ i ≤ 3) ⟨⟨r2, _, _, _, _, _, _, _, _, rfl, g_r2, Nat.le_refl _, by omega, i2⟩, by simpa using t2, Nat.zero_le _⟩ (fun _ _ _ _ _ => trivial) ?_ ?_
    · rintro i v ρ S hv ⟨⟨q, z5, z6, z7, z8, z9, z10, z11, vs, rfl, gq, lv, q3, iv⟩, T, i6⟩
      have li : i < 3 := by
        have := (List.getElem?_eq_some_iff.mp hv).1
        rwa [lz] at this
      refine bn rfl ?_
      array_get_dec
      refine (net_wp (m := 8) T (by omega) (by omega) (by omega)).imp ?_
      rintro _ S3 ⟨nn, rfl, hn, _, T3, k3⟩
      array_get_dec
      refine (state_wp hn T3 (by omega)).imp ?_
      rintro _ S4 ⟨st, rfl, so, T4, k4⟩
      array_get_dec
      refine vListT (vs := [.tup (nn.ms.map mbV), .tup (nn.ws.map wireV)]) rfl ?_
      intro S5 r5 e_r5 l_S5 g_r5 k_S5
      array_get_dec
      refine vRevT (vs := [.tup (nn.ms.map mbV), .tup (nn.ws.map wireV)]) rfl ?_
      array_get_dec
      refine vSlA (vs := [.tup (nn.ms.map mbV), .tup (nn.ws.map wireV)]) rfl ?_
      array_get_dec
      refine vAddT (a := [.tup (nn.ms.map mbV), .tup (nn.ws.map wireV)]) (b := [.tup []]) rfl rfl (Nat.le_of_ble_eq_true rfl) ?_
      array_get_dec
      intro S6 r6 e_r6 l_S6 g_r6 k_S6
      array_get_dec
      have lS := ls T
      have le3 := tfle T k3
      have le4 := tfle T3 k4
      have g4 : S4[q]? = some (.lst vs) := k4 _ _ (by omega) (k3 _ _ (by omega) gq)
      refine vCatL rfl rfl (k_S6 _ _ (k_S5 _ _ g4)) g_r6 (by simp; omega) ?_
      intro S7 r7 e_r7 l_S7 g_r7 k_S7
      array_get_dec
      have le5 : S.length ≤ r7 := by omega
      have K7 : K2 r7 S S7 := (K2.of_kx (k3.trans k4)).trans (K2.of_kn ((k_S5.trans k_S6).trans k_S7))
      have T7 : Tf S7 (10000 * (i : Nat) + 820) := ((T4.fr k_S5).fr k_S6).fr k_S7 |>.mono (by omega)
      have r57 : r5 ≠ r7 := by omega
      have g57 : S7[r5]? = some (.lst [.tup (nn.ms.map mbV), .tup (nn.ws.map wireV)]) := k_S7 _ _ (k_S6 _ _ g_r5)
      have old : ∀ u ∈ vs, In S7 (Fq r7) (M0 + 6) 7 27900 u := fun u hu => (iv u hu).to fun r us f e => by
        have := (List.getElem?_eq_some_iff.mp e).1
        exact ⟨⟨f, by omega⟩, K7 _ _ f (by omega) e⟩
      have iN : ∀ {S : Sto} {Fo : Nat → Prop}, InL S Fo M0 2 400 [.tup (nn.ms.map mbV), .tup (nn.ws.map wireV)] := in_net hn
      have i7 : ∀ u ∈ vs ++ [netV nn, .ref r5, .tup [.tup (nn.ms.map mbV), .tup (nn.ws.map wireV)].reverse, .tup (cutL [.tup (nn.ms.map mbV), .tup (nn.ws.map wireV)] none (some 1)), .tup ([.tup (nn.ms.map mbV), .tup (nn.ws.map wireV)] ++ [.tup []])], In S7 (Fq r7) (M0 + 6) 7 27900 u := fun u hu => by
        rcases List.mem_append.mp hu with hu | hu
        · exact old u hu
        · simp only [List.mem_cons, List.not_mem_nil, or_false] at hu
          rcases hu with rfl | rfl | rfl | rfl | rfl
          · exact iN.tup.mono (by omega) (by omega) (by omega)
          · exact (iN.lst ⟨by omega, r57⟩ g57).mono (by omega) (by omega) (by omega)
          · exact iN.rev.tup.mono (by omega) (by omega) (by omega)
          · unfold cutL
            exact ((iN.drop _).take _).tup.mono (by omega) (by omega) (by omega)
          · exact (iN.app (InL.cons (InL.nil.tup (n := 1)) InL.nil)).tup.mono (by omega) (by omega) (by omega)
      generalize hv7 : vs ++ [netV nn, .ref r5, .tup [.tup (nn.ms.map mbV), .tup (nn.ws.map wireV)].reverse, .tup (cutL [.tup (nn.ms.map mbV), .tup (nn.ws.map wireV)] none (some 1)), .tup ([.tup (nn.ms.map mbV), .tup (nn.ws.map wireV)] ++ [.tup []])] = v7 at i7
      have g7 : S7[r7]? = some (.lst v7) := by rw [← hv7]; exact g_r7
      have lv7 : v7.length ≤ 12 := by rw [← hv7]; simp; omega
      clear hv7 old iv
      refine ⟨_, rfl, ?_, by omega, by omega⟩
      have lz2 : (rangeV 0 (12 : Int).toNat).length = 12 := by rfl
      refine ws_loop (fun j ρ U => (∃ z8 z10, ρ = [some (.scr ns), some (.ref 0), some (.str abc), some (.tup M), some (.ref r7), some v, some (netV nn), some (stV st), z8, z9, z10, z11]) ∧ (∃ us, U[r7]? = some (.lst us) ∧ us.length ≤ 12 + j ∧ ∀ u ∈ us, In U (Fq r7) (M0 + 6) 7 27900 u) ∧ Tf U (10000 * (i : Nat) + 820 + 100 * (j : Nat)) ∧ j ≤ 12) ⟨⟨_, _, rfl⟩, ⟨_, g7, lv7, i7⟩, by simpa using T7, Nat.zero_le _⟩ (fun _ _ _ _ _ => trivial) ?_ ?_
      · rintro j u ρ U hj ⟨⟨z8, z10, rfl⟩, ⟨us, gu, lu, iu⟩, TU, j12⟩
        have lj : j < 12 := by
          have := (List.getElem?_eq_some_iff.mp hj).1
          rwa [lz2] at this
        refine bn rfl ?_
        dsimp only [List.set_cons_zero, List.set_cons_succ]
        refine ws_cut' (step4 (z4 := none) (z6 := none) TU (by omega) (iN.tup.mono (Nat.le_refl _) (by omega) (by omega)) gu (by omega) (by omega)) ?_ (fun _ _ h => h.elim)
        rintro _ V ⟨⟨o, rfl⟩, v2, gv, iv2, kV, TV⟩
        refine ⟨⟨_, _, rfl⟩, ⟨_, gv, by rw [List.length_append]; simp; omega, fun u hu => ?_⟩, TV.mono (by omega), by omega⟩
        rcases List.mem_append.mp hu with hu | hu
        · exact (iu u hu).k2 kV
        · rw [List.mem_singleton.mp hu]
          exact iv2
      · rintro ρ U ⟨⟨z8, z10, rfl⟩, ⟨us, gu, lu, iu⟩, TU, _⟩
        have TU : Tf U (10000 * (i : Nat) + 2020) := TU.mono (by rw [lz2]; omega)
        have lu : us.length ≤ 24 := by rw [lz2] at lu; omega
        have iS : ∀ {S : Sto} {Fo : Nat → Prop}, InL S Fo M0 4 3000 (st.map rwV) := in_st hn so
        have lst' := so.len
        have lst : (st.map rwV).length ≤ 8 := by rw [List.length_map]; have := hn.len; omega
        array_get_dec
        refine vSlA (vs := st.map rwV) rfl ?_
        array_get_dec
        refine vSlA (vs := st.map rwV) rfl ?_
        have lc : (cutL (st.map rwV) (some (-1)) none).length ≤ 8 := by
          unfold cutL
          rw [List.length_take, List.length_drop]
          omega
        refine vAddT (a := st.map rwV) rfl rfl (by omega) ?_
        array_get_dec
        refine vListT (vs := st.map rwV) rfl ?_
        intro U1 p1 e_p1 l_U1 g_p1 k_U1
        array_get_dec
        have T1 := TU.fr k_U1
        refine (net_wp (m := 8) T1 (by omega) (by omega) (by omega)).imp ?_
        rintro _ U2 ⟨nn2, rfl, hn2, _, T2, k2⟩
        array_get_dec
        refine (state_wp hn2 T2 (by omega)).imp ?_
        rintro _ U3 ⟨st2, rfl, so2, T3', k3'⟩
        array_get_dec
        intro U4 p4 e_p4 l_U4 g_p4 k_U4
        array_get_dec
        have lU := ls TU
        have le2' := tfle T1 k2
        have le3' := tfle T2 k3'
        have r7U := (List.getElem?_eq_some_iff.mp gu).1
        have K4 : ∀ r o, r ≠ 0 → U[r]? = some o → U4[r]? = some o := fun r o h0 e => k_U4 _ _ (k3' _ _ h0 (k2 _ _ h0 (k_U1 _ _ e)))
        have T4' : Tf U4 (10000 * (i : Nat) + 2840) := (T3'.fr k_U4).mono (by omega)
        have gu4 : U4[r7]? = some (.lst us) := K4 _ _ (by omega) gu
        have gp1 : U4[p1]? = some (.lst (st.map rwV)) := k_U4 _ _ (k3' _ _ (by omega) (k2 _ _ (by omega) g_p1))
        have iu4 : ∀ u ∈ us, In U4 (Fq p4) (M0 + 6) 7 27900 u := fun u hu => (iu u hu).to fun r us f e => by
          have := (List.getElem?_eq_some_iff.mp e).1
          exact ⟨⟨f.1, by omega⟩, K4 _ _ f.1 e⟩
        have iS2 : ∀ {S : Sto} {Fo : Nat → Prop}, InL S Fo M0 4 3000 (st2.map rwV) := in_st hn2 so2
        have i4 : ∀ u ∈ [stV st, .tup (cutL (st.map rwV) none (some (-1))), .tup (st.map rwV ++ cutL (st.map rwV) (some (-1)) none), .ref p1, stV st2, .tup [], .non], In U4 (Fq p4) (M0 + 6) 7 27900 u := fun u hu => by
          simp only [List.mem_cons, List.not_mem_nil, or_false] at hu
          rcases hu with rfl | rfl | rfl | rfl | rfl | rfl | rfl
          · exact iS.tup.mono (by omega) (by omega) (by omega)
          · unfold cutL
            exact ((iS.drop _).take _).tup.mono (by omega) (by omega) (by omega)
          · unfold cutL
            exact (iS.app ((iS.drop _).take _)).tup.mono (by omega) (by omega) (by omega)
          · exact (iS.lst ⟨by omega, by omega⟩ gp1).mono (by omega) (by omega) (by omega)
          · exact iS2.tup.mono (by omega) (by omega) (by omega)
          · exact (InL.nil.tup (m := M0) (n := 0)).mono (by omega) (by omega) (by omega)
          · exact (In.non (n := 0) (m := M0)).mono (by omega) (by omega) (by omega)
        generalize hs4 : [stV st, .tup (cutL (st.map rwV) none (some (-1))), .tup (st.map rwV ++ cutL (st.map rwV) (some (-1)) none), .ref p1, stV st2, .tup [], .non] = s4 at i4
        have gp4 : U4[p4]? = some (.lst s4) := by rw [← hs4]; exact g_p4
        have ls4 : s4.length ≤ 7 := by rw [← hs4]; exact Nat.le_refl _
        clear hs4
        refine ⟨_, rfl, ?_, by omega, by omega⟩
        refine ws_loop (fun j ρ V => (∃ z8 z10, ρ = [some (.scr ns), some (.ref 0), some (.str abc), some (.tup M), some (.ref r7), some v, some (netV nn), some (stV st), z8, some (.ref p4), z10, z11]) ∧ (∃ ws, V[p4]? = some (.lst ws) ∧ ws.length ≤ 7 + j ∧ ∀ u ∈ ws, In V (Fq p4) (M0 + 6) 7 27900 u) ∧ Tf V (10000 * (i : Nat) + 2840 + 100 * (j : Nat)) ∧ K2 p4 U4 V ∧ j ≤ 12) ⟨⟨_, _, rfl⟩, ⟨_, gp4, ls4, i4⟩, by simpa using T4', fun r o _ _ e => e, Nat.zero_le _⟩ (fun _ _ _ _ _ => trivial) ?_ ?_
        · rintro j u ρ V hj ⟨⟨z8, z10, rfl⟩, ⟨ws, gw, lw, iw⟩, TV, KV, j12⟩
          have lj : j < 12 := by
            have := (List.getElem?_eq_some_iff.mp hj).1
            rwa [lz2] at this
          refine bn rfl ?_
          dsimp only [List.set_cons_zero, List.set_cons_succ]
          refine ws_cut' (step9 (z7 := none) (z9 := none) TV (by omega) (iS.tup.mono (Nat.le_refl _) (by omega) (by omega)) gw (by omega) (by omega)) ?_ (fun _ _ h => h.elim)
          rintro _ W ⟨⟨o, rfl⟩, v2, gv, iv2, kW, TW⟩
          refine ⟨⟨_, _, rfl⟩, ⟨_, gv, by rw [List.length_append]; simp; omega, fun u hu => ?_⟩, TW.mono (by omega), KV.trans kW, by omega⟩
          rcases List.mem_append.mp hu with hu | hu
          · exact (iw u hu).k2 kW
          · rw [List.mem_singleton.mp hu]
            exact iv2
        · rintro ρ V ⟨⟨z8, z10, rfl⟩, ⟨ws, gw, lw, iw⟩, TV, KV, _⟩
          have TV : Tf V (10000 * (i : Nat) + 4040) := TV.mono (by rw [lz2]; omega)
          have guV : V[r7]? = some (.lst us) := KV _ _ (by omega) (by omega) gu4
          have iuV : ∀ u ∈ us, In V (Fq p4) (M0 + 6) 7 27900 u := fun u hu => (iu4 u hu).k2 KV
          have h900 : M0 + 6 < 2 ^ 900 := Nat.lt_of_lt_of_le (show M0 + 6 < 2 ^ 199 by unfold M0; decide) (Nat.pow_le_pow_right (by decide) (by decide))
          array_get_dec
          refine .inr ⟨_, _, rfl, guV, ?_⟩
          refine ws_loop (fun j ρ W => (∃ z10 z11, ρ = [some (.scr ns), some (.ref 0), some (.str abc), some (.tup M), some (.ref r7), some v, some (netV nn), some (stV st), z8, some (.ref p4), z10, z11]) ∧ Kn V W) ⟨⟨_, _, rfl⟩, Kn.refl _⟩ (fun _ _ _ _ hI => hI.2 _ _ guV) ?_ ?_
          · rintro j u ρ W hj ⟨⟨z10, z11, rfl⟩, kW⟩
            obtain ⟨d, td, wd'⟩ := iuV u (List.mem_of_getElem? hj)
            refine bn rfl ?_
            dsimp only [List.set_cons_zero, List.set_cons_succ]
            refine ws_cut' (judge4 (z10 := none) (Tl.kn td kW) h900 (by omega) (by omega)) ?_ (fun _ _ h => h.elim)
            rintro _ W2 ⟨⟨o, rfl⟩, k2⟩
            exact ⟨⟨_, _, rfl⟩, kW.trans k2⟩
          · rintro ρ W ⟨⟨z10, z11, rfl⟩, kW⟩
            array_get_dec
            refine .inr ⟨_, _, rfl, kW _ _ gw, ?_⟩
            refine ws_loop (fun j ρ X => (∃ z10 z11, ρ = [some (.scr ns), some (.ref 0), some (.str abc), some (.tup M), some (.ref r7), some v, some (netV nn), some (stV st), z8, some (.ref p4), z10, z11]) ∧ Kn V X) ⟨⟨_, _, rfl⟩, kW⟩ (fun _ _ _ _ hI => hI.2 _ _ gw) ?_ ?_
            · rintro j u ρ X hj ⟨⟨z10, z11, rfl⟩, kX⟩
              obtain ⟨d, td, wd'⟩ := iw u (List.mem_of_getElem? hj)
              refine bn rfl ?_
              dsimp only [List.set_cons_zero, List.set_cons_succ]
              refine ws_cut' (judge9 (z6 := none) (z10 := none) hn (Tl.kn td kX) h900 (by omega) (by omega)) ?_ (fun _ _ h => h.elim)
              rintro _ X2 ⟨⟨o, rfl⟩, k2⟩
              exact ⟨⟨_, _, rfl⟩, kX.trans k2⟩
            · rintro ρ X ⟨⟨z10, z11, rfl⟩, kX⟩
              array_get_dec
              intro Y y e_y l_Y g_y k_Y
              array_get_dec
              have lV := (List.getElem?_eq_some_iff.mp guV).1
              have lX := kX.len
              exact ⟨⟨_, _, _, _, _, _, _, _, _, rfl, g_y, Nat.zero_le _, by omega, fun u hu => absurd hu List.not_mem_nil⟩, ((TV.fr kX).fr k_Y).mono (by omega), li⟩
    · rintro ρ S ⟨⟨q, z5, z6, z7, z8, z9, z10, z11, vs, rfl, gq, lv, q3, iv⟩, T, i6⟩
      array_get_dec
      rfl
end
end K55
namespace K55
open PySem PySem.Spec PyProof.Rows L2 G Th AL
open K57 (other_ends_ other_ends_B feedL_ feedL_B drawL_ drawL_B netL_ netL_B keyL_ keyL_B any_keyL_ any_keyL_B endsL_ endsL_B stateL_ stateL_B)
theorem all_mk {l : PySem.W.OpenLaw} {w : World} {K : PySem.W.Frag} {h : Heap} {mg : Str → Option Value} {fa : Addr} (X : K.In h) (G : h.Ns mainGlobals mg) (hfa : mg "law" = some (.ref fa))
    {o0 : Value} {od0 an0 : Option Addr} {sl0 : Array (Option Value)} {kV0 dc0 pm0 cd0 ct0 : Value} {f0 : Addr} {o1 : Value} {od1 an1 : Option Addr} {sl1 : Array (Option Value)} {kV1 dc1 pm1 cd1 ct1 : Value} {f1 : Addr} {o2 : Value} {od2 an2 : Option Addr} {sl2 : Array (Option Value)} {kV2 dc2 pm2 cd2 ct2 : Value} {f2 : Addr} {o3 : Value} {od3 an3 : Option Addr} {sl3 : Array (Option Value)} {kV3 dc3 pm3 cd3 ct3 : Value} {f3 : Addr} {o4 : Value} {od4 an4 : Option Addr} {sl4 : Array (Option Value)} {kV4 dc4 pm4 cd4 ct4 : Value} {f4 : Addr} {o5 : Value} {od5 an5 : Option Addr} {sl5 : Array (Option Value)} {kV5 dc5 pm5 cd5 ct5 : Value} {f5 : Addr} {o6 : Value} {od6 an6 : Option Addr} {sl6 : Array (Option Value)} {kV6 dc6 pm6 cd6 ct6 : Value} {f6 : Addr} {o7 : Value} {od7 an7 : Option Addr} {sl7 : Array (Option Value)} {kV7 dc7 pm7 cd7 ct7 : Value} {f7 : Addr} {o8 : Value} {od8 an8 : Option Addr} {sl8 : Array (Option Value)} {kV8 dc8 pm8 cd8 ct8 : Value} {f8 : Addr} {o9 : Value} {od9 an9 : Option Addr} {sl9 : Array (Option Value)} {kV9 dc9 pm9 cd9 ct9 : Value} {f9 : Addr} {o10 : Value} {od10 an10 : Option Addr} {sl10 : Array (Option Value)} {kV10 dc10 pm10 cd10 ct10 : Value} {f10 : Addr} {o11 : Value} {od11 an11 : Option Addr} {sl11 : Array (Option Value)} {kV11 dc11 pm11 cd11 ct11 : Value} {f11 : Addr} {o12 : Value} {od12 an12 : Option Addr} {sl12 : Array (Option Value)} {kV12 dc12 pm12 cd12 ct12 : Value} {f12 : Addr} {o13 : Value} {od13 an13 : Option Addr} {sl13 : Array (Option Value)} {kV13 dc13 pm13 cd13 ct13 : Value} {f13 : Addr} {o14 : Value} {od14 an14 : Option Addr} {sl14 : Array (Option Value)} {kV14 dc14 pm14 cd14 ct14 : Value} {f14 : Addr} {o15 : Value} {od15 an15 : Option Addr} {sl15 : Array (Option Value)} {kV15 dc15 pm15 cd15 ct15 : Value} {f15 : Addr} {o16 : Value} {od16 an16 : Option Addr} {sl16 : Array (Option Value)} {kV16 dc16 pm16 cd16 ct16 : Value} {f16 : Addr} {o17 : Value} {od17 an17 : Option Addr} {sl17 : Array (Option Value)} {kV17 dc17 pm17 cd17 ct17 : Value} {f17 : Addr} {o18 : Value} {od18 an18 : Option Addr} {sl18 : Array (Option Value)} {kV18 dc18 pm18 cd18 ct18 : Value} {f18 : Addr} {o19 : Value} {od19 an19 : Option Addr} {sl19 : Array (Option Value)} {kV19 dc19 pm19 cd19 ct19 : Value} {f19 : Addr} {o20 : Value} {od20 an20 : Option Addr} {sl20 : Array (Option Value)} {kV20 dc20 pm20 cd20 ct20 : Value} {f20 : Addr} {o21 : Value} {od21 an21 : Option Addr} {sl21 : Array (Option Value)} {kV21 dc21 pm21 cd21 ct21 : Value} {f21 : Addr} {o22 : Value} {od22 an22 : Option Addr} {sl22 : Array (Option Value)} {kV22 dc22 pm22 cd22 ct22 : Value} {f22 : Addr} {o23 : Value} {od23 an23 : Option Addr} {sl23 : Array (Option Value)} {kV23 dc23 pm23 cd23 ct23 : Value} {f23 : Addr} {o24 : Value} {od24 an24 : Option Addr} {sl24 : Array (Option Value)} {kV24 dc24 pm24 cd24 ct24 : Value} {f24 : Addr} {o25 : Value} {od25 an25 : Option Addr} {sl25 : Array (Option Value)} {kV25 dc25 pm25 cd25 ct25 : Value} {f25 : Addr} {o26 : Value} {od26 an26 : Option Addr} {sl26 : Array (Option Value)} {kV26 dc26 pm26 cd26 ct26 : Value} {f26 : Addr} {o27 : Value} {od27 an27 : Option Addr} {sl27 : Array (Option Value)} {kV27 dc27 pm27 cd27 ct27 : Value} {f27 : Addr} {o28 : Value} {od28 an28 : Option Addr} {sl28 : Array (Option Value)} {kV28 dc28 pm28 cd28 ct28 : Value} {f28 : Addr} {o29 : Value} {od29 an29 : Option Addr} {sl29 : Array (Option Value)} {kV29 dc29 pm29 cd29 ct29 : Value} {f29 : Addr} {o30 : Value} {od30 an30 : Option Addr} {sl30 : Array (Option Value)} {kV30 dc30 pm30 cd30 ct30 : Value} {f30 : Addr} {o31 : Value} {od31 an31 : Option Addr} {sl31 : Array (Option Value)} {kV31 dc31 pm31 cd31 ct31 : Value} {f31 : Addr}
    {u_LONGEST_WORD : Value}    {u_SMALL_LETTERS : Value}
    (g_LONGEST_WORD : PySem.W.nsIn K mainGlobals "LONGEST_WORD" = some (some u_LONGEST_WORD)) (v_LONGEST_WORD : CV K u_LONGEST_WORD (.int 8))
    (g_SMALL_LETTERS : PySem.W.nsIn K mainGlobals "SMALL_LETTERS" = some (some u_SMALL_LETTERS)) (v_SMALL_LETTERS : CV K u_SMALL_LETTERS (.str "abcdefghijklmnopqrstuvwxyz"))
    (a0 : PySem.W.nsIn K mainGlobals "is_number" = some (some (.ref f0))) (l0 : K.lookup f0 = some ⟨o0, od0, .func (PySem.W.fnOf "is_number" "is_number" (defArgs st_is_number_) (defBody st_is_number_) (defScope st_is_number_) .none kV0 dc0 pm0 an0 cd0 ct0), sl0⟩) (c0 : PySem.W.codeIn K cd0 "is_number" = true) (k0 : PySem.W.keepIn K (.ref f0) = true)
    (a1 : PySem.W.nsIn K mainGlobals "is_word" = some (some (.ref f1))) (l1 : K.lookup f1 = some ⟨o1, od1, .func (PySem.W.fnOf "is_word" "is_word" (defArgs st_is_word_) (defBody st_is_word_) (defScope st_is_word_) .none kV1 dc1 pm1 an1 cd1 ct1), sl1⟩) (c1 : PySem.W.codeIn K cd1 "is_word" = true) (k1 : PySem.W.keepIn K (.ref f1) = true)
    (a2 : PySem.W.nsIn K mainGlobals "is_count" = some (some (.ref f2))) (l2 : K.lookup f2 = some ⟨o2, od2, .func (PySem.W.fnOf "is_count" "is_count" (defArgs st_is_count_) (defBody st_is_count_) (defScope st_is_count_) .none kV2 dc2 pm2 an2 cd2 ct2), sl2⟩) (c2 : PySem.W.codeIn K cd2 "is_count" = true) (k2 : PySem.W.keepIn K (.ref f2) = true)
    (a3 : PySem.W.nsIn K mainGlobals "rises" = some (some (.ref f3))) (l3 : K.lookup f3 = some ⟨o3, od3, .func (PySem.W.fnOf "rises" "rises" (defArgs st_rises_) (defBody st_rises_) (defScope st_rises_) .none kV3 dc3 pm3 an3 cd3 ct3), sl3⟩) (c3 : PySem.W.codeIn K cd3 "rises" = true) (k3 : PySem.W.keepIn K (.ref f3) = true)
    (a4 : PySem.W.nsIn K mainGlobals "is_member" = some (some (.ref f4))) (l4 : K.lookup f4 = some ⟨o4, od4, .func (PySem.W.fnOf "is_member" "is_member" (defArgs st_is_member_) (defBody st_is_member_) (defScope st_is_member_) .none kV4 dc4 pm4 an4 cd4 ct4), sl4⟩) (c4 : PySem.W.codeIn K cd4 "is_member" = true) (k4 : PySem.W.keepIn K (.ref f4) = true)
    (a5 : PySem.W.nsIn K mainGlobals "are_members" = some (some (.ref f5))) (l5 : K.lookup f5 = some ⟨o5, od5, .func (PySem.W.fnOf "are_members" "are_members" (defArgs st_are_members_) (defBody st_are_members_) (defScope st_are_members_) .none kV5 dc5 pm5 an5 cd5 ct5), sl5⟩) (c5 : PySem.W.codeIn K cd5 "are_members" = true) (k5 : PySem.W.keepIn K (.ref f5) = true)
    (a6 : PySem.W.nsIn K mainGlobals "is_wire" = some (some (.ref f6))) (l6 : K.lookup f6 = some ⟨o6, od6, .func (PySem.W.fnOf "is_wire" "is_wire" (defArgs st_is_wire_) (defBody st_is_wire_) (defScope st_is_wire_) .none kV6 dc6 pm6 an6 cd6 ct6), sl6⟩) (c6 : PySem.W.codeIn K cd6 "is_wire" = true) (k6 : PySem.W.keepIn K (.ref f6) = true)
    (a7 : PySem.W.nsIn K mainGlobals "are_wires" = some (some (.ref f7))) (l7 : K.lookup f7 = some ⟨o7, od7, .func (PySem.W.fnOf "are_wires" "are_wires" (defArgs st_are_wires_) (defBody st_are_wires_) (defScope st_are_wires_) .none kV7 dc7 pm7 an7 cd7 ct7), sl7⟩) (c7 : PySem.W.codeIn K cd7 "are_wires" = true) (k7 : PySem.W.keepIn K (.ref f7) = true)
    (a8 : PySem.W.nsIn K mainGlobals "is_net" = some (some (.ref f8))) (l8 : K.lookup f8 = some ⟨o8, od8, .func (PySem.W.fnOf "is_net" "is_net" (defArgs st_is_net_) (defBody st_is_net_) (defScope st_is_net_) .none kV8 dc8 pm8 an8 cd8 ct8), sl8⟩) (c8 : PySem.W.codeIn K cd8 "is_net" = true) (k8 : PySem.W.keepIn K (.ref f8) = true)
    (a9 : PySem.W.nsIn K mainGlobals "is_key" = some (some (.ref f9))) (l9 : K.lookup f9 = some ⟨o9, od9, .func (PySem.W.fnOf "is_key" "is_key" (defArgs st_is_key_) (defBody st_is_key_) (defScope st_is_key_) .none kV9 dc9 pm9 an9 cd9 ct9), sl9⟩) (c9 : PySem.W.codeIn K cd9 "is_key" = true) (k9 : PySem.W.keepIn K (.ref f9) = true)
    (a10 : PySem.W.nsIn K mainGlobals "is_saying" = some (some (.ref f10))) (l10 : K.lookup f10 = some ⟨o10, od10, .func (PySem.W.fnOf "is_saying" "is_saying" (defArgs st_is_saying_) (defBody st_is_saying_) (defScope st_is_saying_) .none kV10 dc10 pm10 an10 cd10 ct10), sl10⟩) (c10 : PySem.W.codeIn K cd10 "is_saying" = true) (k10 : PySem.W.keepIn K (.ref f10) = true)
    (a11 : PySem.W.nsIn K mainGlobals "is_heard_row" = some (some (.ref f11))) (l11 : K.lookup f11 = some ⟨o11, od11, .func (PySem.W.fnOf "is_heard_row" "is_heard_row" (defArgs st_is_heard_row_) (defBody st_is_heard_row_) (defScope st_is_heard_row_) .none kV11 dc11 pm11 an11 cd11 ct11), sl11⟩) (c11 : PySem.W.codeIn K cd11 "is_heard_row" = true) (k11 : PySem.W.keepIn K (.ref f11) = true)
    (a12 : PySem.W.nsIn K mainGlobals "is_heard" = some (some (.ref f12))) (l12 : K.lookup f12 = some ⟨o12, od12, .func (PySem.W.fnOf "is_heard" "is_heard" (defArgs st_is_heard_) (defBody st_is_heard_) (defScope st_is_heard_) .none kV12 dc12 pm12 an12 cd12 ct12), sl12⟩) (c12 : PySem.W.codeIn K cd12 "is_heard" = true) (k12 : PySem.W.keepIn K (.ref f12) = true)
    (a13 : PySem.W.nsIn K mainGlobals "other_ends" = some (some (.ref f13))) (l13 : K.lookup f13 = some ⟨o13, od13, .func (PySem.W.fnOf "other_ends" "other_ends" (defArgs st_other_ends_) (defBody st_other_ends_) (defScope st_other_ends_) .none kV13 dc13 pm13 an13 cd13 ct13), sl13⟩) (c13 : PySem.W.codeIn K cd13 "other_ends" = true) (k13 : PySem.W.keepIn K (.ref f13) = true)
    (a14 : PySem.W.nsIn K mainGlobals "is_state_row" = some (some (.ref f14))) (l14 : K.lookup f14 = some ⟨o14, od14, .func (PySem.W.fnOf "is_state_row" "is_state_row" (defArgs st_is_state_row_) (defBody st_is_state_row_) (defScope st_is_state_row_) .none kV14 dc14 pm14 an14 cd14 ct14), sl14⟩) (c14 : PySem.W.codeIn K cd14 "is_state_row" = true) (k14 : PySem.W.keepIn K (.ref f14) = true)
    (a15 : PySem.W.nsIn K mainGlobals "is_state" = some (some (.ref f15))) (l15 : K.lookup f15 = some ⟨o15, od15, .func (PySem.W.fnOf "is_state" "is_state" (defArgs st_is_state_) (defBody st_is_state_) (defScope st_is_state_) .none kV15 dc15 pm15 an15 cd15 ct15), sl15⟩) (c15 : PySem.W.codeIn K cd15 "is_state" = true) (k15 : PySem.W.keepIn K (.ref f15) = true)
    (a16 : PySem.W.nsIn K mainGlobals "_law_feed" = some (some (.ref f16))) (l16 : K.lookup f16 = some ⟨o16, od16, .func (PySem.W.fnOf "_law_feed" "_law_feed" (defArgs st_feedL_) (defBody st_feedL_) (defScope st_feedL_) .none kV16 dc16 pm16 an16 cd16 ct16), sl16⟩) (c16 : PySem.W.codeIn K cd16 "_law_feed" = true) (k16 : PySem.W.keepIn K (.ref f16) = true)
    (a17 : PySem.W.nsIn K mainGlobals "_law_draw" = some (some (.ref f17))) (l17 : K.lookup f17 = some ⟨o17, od17, .func (PySem.W.fnOf "_law_draw" "_law_draw" (defArgs st_drawL_) (defBody st_drawL_) (defScope st_drawL_) .none kV17 dc17 pm17 an17 cd17 ct17), sl17⟩) (c17 : PySem.W.codeIn K cd17 "_law_draw" = true) (k17 : PySem.W.keepIn K (.ref f17) = true)
    (a18 : PySem.W.nsIn K mainGlobals "_law_net" = some (some (.ref f18))) (l18 : K.lookup f18 = some ⟨o18, od18, .func (PySem.W.fnOf "_law_net" "_law_net" (defArgs st_netL_) (defBody st_netL_) (defScope st_netL_) .none kV18 dc18 pm18 an18 cd18 ct18), sl18⟩) (c18 : PySem.W.codeIn K cd18 "_law_net" = true) (k18 : PySem.W.keepIn K (.ref f18) = true)
    (a19 : PySem.W.nsIn K mainGlobals "_law_key" = some (some (.ref f19))) (l19 : K.lookup f19 = some ⟨o19, od19, .func (PySem.W.fnOf "_law_key" "_law_key" (defArgs st_keyL_) (defBody st_keyL_) (defScope st_keyL_) .none kV19 dc19 pm19 an19 cd19 ct19), sl19⟩) (c19 : PySem.W.codeIn K cd19 "_law_key" = true) (k19 : PySem.W.keepIn K (.ref f19) = true)
    (a20 : PySem.W.nsIn K mainGlobals "_law_any_key" = some (some (.ref f20))) (l20 : K.lookup f20 = some ⟨o20, od20, .func (PySem.W.fnOf "_law_any_key" "_law_any_key" (defArgs st_any_keyL_) (defBody st_any_keyL_) (defScope st_any_keyL_) .none kV20 dc20 pm20 an20 cd20 ct20), sl20⟩) (c20 : PySem.W.codeIn K cd20 "_law_any_key" = true) (k20 : PySem.W.keepIn K (.ref f20) = true)
    (a21 : PySem.W.nsIn K mainGlobals "_law_ends" = some (some (.ref f21))) (l21 : K.lookup f21 = some ⟨o21, od21, .func (PySem.W.fnOf "_law_ends" "_law_ends" (defArgs st_endsL_) (defBody st_endsL_) (defScope st_endsL_) .none kV21 dc21 pm21 an21 cd21 ct21), sl21⟩) (c21 : PySem.W.codeIn K cd21 "_law_ends" = true) (k21 : PySem.W.keepIn K (.ref f21) = true)
    (a22 : PySem.W.nsIn K mainGlobals "_law_state" = some (some (.ref f22))) (l22 : K.lookup f22 = some ⟨o22, od22, .func (PySem.W.fnOf "_law_state" "_law_state" (defArgs st_stateL_) (defBody st_stateL_) (defScope st_stateL_) .none kV22 dc22 pm22 an22 cd22 ct22), sl22⟩) (c22 : PySem.W.codeIn K cd22 "_law_state" = true) (k22 : PySem.W.keepIn K (.ref f22) = true)
    (a23 : PySem.W.nsIn K mainGlobals "_law_bent" = some (some (.ref f23))) (l23 : K.lookup f23 = some ⟨o23, od23, .func (PySem.W.fnOf "_law_bent" "_law_bent" (defArgs st_bentL_) (defBody st_bentL_) (defScope st_bentL_) .none kV23 dc23 pm23 an23 cd23 ct23), sl23⟩) (c23 : PySem.W.codeIn K cd23 "_law_bent" = true) (k23 : PySem.W.keepIn K (.ref f23) = true)
    (a24 : PySem.W.nsIn K mainGlobals "_law_is_word" = some (some (.ref f24))) (l24 : K.lookup f24 = some ⟨o24, od24, .func (PySem.W.fnOf "_law_is_word" "_law_is_word" (defArgs st_is_wordL_) (defBody st_is_wordL_) (defScope st_is_wordL_) .none kV24 dc24 pm24 an24 cd24 ct24), sl24⟩) (c24 : PySem.W.codeIn K cd24 "_law_is_word" = true) (k24 : PySem.W.keepIn K (.ref f24) = true)
    (a25 : PySem.W.nsIn K mainGlobals "_law_is_from" = some (some (.ref f25))) (l25 : K.lookup f25 = some ⟨o25, od25, .func (PySem.W.fnOf "_law_is_from" "_law_is_from" (defArgs st_is_fromL_) (defBody st_is_fromL_) (defScope st_is_fromL_) .none kV25 dc25 pm25 an25 cd25 ct25), sl25⟩) (c25 : PySem.W.codeIn K cd25 "_law_is_from" = true) (k25 : PySem.W.keepIn K (.ref f25) = true)
    (a26 : PySem.W.nsIn K mainGlobals "_law_is_key" = some (some (.ref f26))) (l26 : K.lookup f26 = some ⟨o26, od26, .func (PySem.W.fnOf "_law_is_key" "_law_is_key" (defArgs st_is_keyL_) (defBody st_is_keyL_) (defScope st_is_keyL_) .none kV26 dc26 pm26 an26 cd26 ct26), sl26⟩) (c26 : PySem.W.codeIn K cd26 "_law_is_key" = true) (k26 : PySem.W.keepIn K (.ref f26) = true)
    (a27 : PySem.W.nsIn K mainGlobals "_law_rises" = some (some (.ref f27))) (l27 : K.lookup f27 = some ⟨o27, od27, .func (PySem.W.fnOf "_law_rises" "_law_rises" (defArgs st_risesL_) (defBody st_risesL_) (defScope st_risesL_) .none kV27 dc27 pm27 an27 cd27 ct27), sl27⟩) (c27 : PySem.W.codeIn K cd27 "_law_rises" = true) (k27 : PySem.W.keepIn K (.ref f27) = true)
    (a28 : PySem.W.nsIn K mainGlobals "_law_is_net" = some (some (.ref f28))) (l28 : K.lookup f28 = some ⟨o28, od28, .func (PySem.W.fnOf "_law_is_net" "_law_is_net" (defArgs st_is_netL_) (defBody st_is_netL_) (defScope st_is_netL_) .none kV28 dc28 pm28 an28 cd28 ct28), sl28⟩) (c28 : PySem.W.codeIn K cd28 "_law_is_net" = true) (k28 : PySem.W.keepIn K (.ref f28) = true)
    (a29 : PySem.W.nsIn K mainGlobals "_law_is_row" = some (some (.ref f29))) (l29 : K.lookup f29 = some ⟨o29, od29, .func (PySem.W.fnOf "_law_is_row" "_law_is_row" (defArgs st_is_rowL_) (defBody st_is_rowL_) (defScope st_is_rowL_) .none kV29 dc29 pm29 an29 cd29 ct29), sl29⟩) (c29 : PySem.W.codeIn K cd29 "_law_is_row" = true) (k29 : PySem.W.keepIn K (.ref f29) = true)
    (a30 : PySem.W.nsIn K mainGlobals "_law_is_state" = some (some (.ref f30))) (l30 : K.lookup f30 = some ⟨o30, od30, .func (PySem.W.fnOf "_law_is_state" "_law_is_state" (defArgs st_is_stateL_) (defBody st_is_stateL_) (defScope st_is_stateL_) .none kV30 dc30 pm30 an30 cd30 ct30), sl30⟩) (c30 : PySem.W.codeIn K cd30 "_law_is_state" = true) (k30 : PySem.W.keepIn K (.ref f30) = true)
    (a31 : PySem.W.nsIn K mainGlobals "law" = some (some (.ref f31))) (l31 : K.lookup f31 = some ⟨o31, od31, .func (PySem.W.fnOf "law" "law" (defArgs st_law_) (defBody st_law_) (defScope st_law_) .none kV31 dc31 pm31 an31 cd31 ct31), sl31⟩) (c31 : PySem.W.codeIn K cd31 "law" = true) (k31 : PySem.W.keepIn K (.ref f31) = true)
    (z_isinstance : PySem.W.nsIn K mainGlobals "isinstance" = some none) (z_int : PySem.W.nsIn K mainGlobals "int" = some none) (z_bool : PySem.W.nsIn K mainGlobals "bool" = some none) (z_all : PySem.W.nsIn K mainGlobals "all" = some none) (z_str : PySem.W.nsIn K mainGlobals "str" = some none) (z_len : PySem.W.nsIn K mainGlobals "len" = some none) (z_zip : PySem.W.nsIn K mainGlobals "zip" = some none) (z_tuple : PySem.W.nsIn K mainGlobals "tuple" = some none) (z_list : PySem.W.nsIn K mainGlobals "list" = some none) (z_sorted : PySem.W.nsIn K mainGlobals "sorted" = some none) (z_range : PySem.W.nsIn K mainGlobals "range" = some none) (z_min : PySem.W.nsIn K mainGlobals "min" = some none) (z_max : PySem.W.nsIn K mainGlobals "max" = some none) (z_repr : PySem.W.nsIn K mainGlobals "repr" = some none) :
    ∃ fd : FuncData, (∀ (s : Shared) (v : Value), BindsTo s fd ⟨[v], []⟩ [("_law_script", v)]) ∧ ∀ base : Heap, K.In base → base.Ns mainGlobals mg → FnG l.prog w K mg base 11 fa fd ["_law_script"] (spA K 1 law_) := by
  have e := hfa.symm.trans (PySem.W.mg_of X G a31)
  cases e
  have F0 := fun_mk (st := st_is_number_) l0 c0 k0
  have g0 := PySem.W.mg_of X G a0
  have b0 := F0.binds (ps := ["thing"]) fun _ _ _ _ _ _ us hl => match us, hl with | [_], _ => rfl
  have F1 := fun_mk (st := st_is_word_) l1 c1 k1
  have g1 := PySem.W.mg_of X G a1
  have b1 := F1.binds (ps := ["thing"]) fun _ _ _ _ _ _ us hl => match us, hl with | [_], _ => rfl
  have F2 := fun_mk (st := st_is_count_) l2 c2 k2
  have g2 := PySem.W.mg_of X G a2
  have b2 := F2.binds (ps := ["thing"]) fun _ _ _ _ _ _ us hl => match us, hl with | [_], _ => rfl
  have F3 := fun_mk (st := st_rises_) l3 c3 k3
  have g3 := PySem.W.mg_of X G a3
  have b3 := F3.binds (ps := ["things"]) fun _ _ _ _ _ _ us hl => match us, hl with | [_], _ => rfl
  have F4 := fun_mk (st := st_is_member_) l4 c4 k4
  have g4 := PySem.W.mg_of X G a4
  have b4 := F4.binds (ps := ["thing"]) fun _ _ _ _ _ _ us hl => match us, hl with | [_], _ => rfl
  have F5 := fun_mk (st := st_are_members_) l5 c5 k5
  have g5 := PySem.W.mg_of X G a5
  have b5 := F5.binds (ps := ["thing"]) fun _ _ _ _ _ _ us hl => match us, hl with | [_], _ => rfl
  have F6 := fun_mk (st := st_is_wire_) l6 c6 k6
  have g6 := PySem.W.mg_of X G a6
  have b6 := F6.binds (ps := ["thing", "names"]) fun _ _ _ _ _ _ us hl => match us, hl with | [_, _], _ => rfl
  have F7 := fun_mk (st := st_are_wires_) l7 c7 k7
  have g7 := PySem.W.mg_of X G a7
  have b7 := F7.binds (ps := ["thing", "names"]) fun _ _ _ _ _ _ us hl => match us, hl with | [_, _], _ => rfl
  have F8 := fun_mk (st := st_is_net_) l8 c8 k8
  have g8 := PySem.W.mg_of X G a8
  have b8 := F8.binds (ps := ["thing"]) fun _ _ _ _ _ _ us hl => match us, hl with | [_], _ => rfl
  have F9 := fun_mk (st := st_is_key_) l9 c9 k9
  have g9 := PySem.W.mg_of X G a9
  have b9 := F9.binds (ps := ["thing"]) fun _ _ _ _ _ _ us hl => match us, hl with | [_], _ => rfl
  have F10 := fun_mk (st := st_is_saying_) l10 c10 k10
  have g10 := PySem.W.mg_of X G a10
  have b10 := F10.binds (ps := ["net", "thing"]) fun _ _ _ _ _ _ us hl => match us, hl with | [_, _], _ => rfl
  have F11 := fun_mk (st := st_is_heard_row_) l11 c11 k11
  have g11 := PySem.W.mg_of X G a11
  have b11 := F11.binds (ps := ["ends", "thing"]) fun _ _ _ _ _ _ us hl => match us, hl with | [_, _], _ => rfl
  have F12 := fun_mk (st := st_is_heard_) l12 c12 k12
  have g12 := PySem.W.mg_of X G a12
  have b12 := F12.binds (ps := ["ends", "thing"]) fun _ _ _ _ _ _ us hl => match us, hl with | [_, _], _ => rfl
  have F13 := fun_mk (st := st_other_ends_) l13 c13 k13
  have g13 := PySem.W.mg_of X G a13
  have b13 := F13.binds (ps := ["wires", "name"]) fun _ _ _ _ _ _ us hl => match us, hl with | [_, _], _ => rfl
  have F14 := fun_mk (st := st_is_state_row_) l14 c14 k14
  have g14 := PySem.W.mg_of X G a14
  have b14 := F14.binds (ps := ["net", "name", "thing"]) fun _ _ _ _ _ _ us hl => match us, hl with | [_, _, _], _ => rfl
  have F15 := fun_mk (st := st_is_state_) l15 c15 k15
  have g15 := PySem.W.mg_of X G a15
  have b15 := F15.binds (ps := ["net", "thing"]) fun _ _ _ _ _ _ us hl => match us, hl with | [_, _], _ => rfl
  have F16 := fun_mk (st := st_feedL_) l16 c16 k16
  have g16 := PySem.W.mg_of X G a16
  have b16 := F16.binds (ps := ["_law_script"]) fun _ _ _ _ _ _ us hl => match us, hl with | [_], _ => rfl
  have F17 := fun_mk (st := st_drawL_) l17 c17 k17
  have g17 := PySem.W.mg_of X G a17
  have b17 := F17.binds (ps := ["_law_feed_here", "_law_many"]) fun _ _ _ _ _ _ us hl => match us, hl with | [_, _], _ => rfl
  have F18 := fun_mk (st := st_netL_) l18 c18 k18
  have g18 := PySem.W.mg_of X G a18
  have b18 := F18.binds (ps := ["_law_feed_here", "_law_limit"]) fun _ _ _ _ _ _ us hl => match us, hl with | [_, _], _ => rfl
  have F19 := fun_mk (st := st_keyL_) l19 c19 k19
  have g19 := PySem.W.mg_of X G a19
  have b19 := F19.binds (ps := ["_law_member"]) fun _ _ _ _ _ _ us hl => match us, hl with | [_], _ => rfl
  have F20 := fun_mk (st := st_any_keyL_) l20 c20 k20
  have g20 := PySem.W.mg_of X G a20
  have b20 := F20.binds (ps := ["_law_feed_here", "_law_net_here"]) fun _ _ _ _ _ _ us hl => match us, hl with | [_, _], _ => rfl
  have F21 := fun_mk (st := st_endsL_) l21 c21 k21
  have g21 := PySem.W.mg_of X G a21
  have b21 := F21.binds (ps := ["_law_wires", "_law_name"]) fun _ _ _ _ _ _ us hl => match us, hl with | [_, _], _ => rfl
  have F22 := fun_mk (st := st_stateL_) l22 c22 k22
  have g22 := PySem.W.mg_of X G a22
  have b22 := F22.binds (ps := ["_law_feed_here", "_law_net_here"]) fun _ _ _ _ _ _ us hl => match us, hl with | [_, _], _ => rfl
  have F23 := fun_mk (st := st_bentL_) l23 c23 k23
  have g23 := PySem.W.mg_of X G a23
  have b23 := F23.binds (ps := ["_law_feed_here", "_law_thing"]) fun _ _ _ _ _ _ us hl => match us, hl with | [_, _], _ => rfl
  have F24 := fun_mk (st := st_is_wordL_) l24 c24 k24
  have g24 := PySem.W.mg_of X G a24
  have b24 := F24.binds (ps := ["_law_thing"]) fun _ _ _ _ _ _ us hl => match us, hl with | [_], _ => rfl
  have F25 := fun_mk (st := st_is_fromL_) l25 c25 k25
  have g25 := PySem.W.mg_of X G a25
  have b25 := F25.binds (ps := ["_law_thing"]) fun _ _ _ _ _ _ us hl => match us, hl with | [_], _ => rfl
  have F26 := fun_mk (st := st_is_keyL_) l26 c26 k26
  have g26 := PySem.W.mg_of X G a26
  have b26 := F26.binds (ps := ["_law_thing"]) fun _ _ _ _ _ _ us hl => match us, hl with | [_], _ => rfl
  have F27 := fun_mk (st := st_risesL_) l27 c27 k27
  have g27 := PySem.W.mg_of X G a27
  have b27 := F27.binds (ps := ["_law_things"]) fun _ _ _ _ _ _ us hl => match us, hl with | [_], _ => rfl
  have F28 := fun_mk (st := st_is_netL_) l28 c28 k28
  have g28 := PySem.W.mg_of X G a28
  have b28 := F28.binds (ps := ["_law_thing"]) fun _ _ _ _ _ _ us hl => match us, hl with | [_], _ => rfl
  have F29 := fun_mk (st := st_is_rowL_) l29 c29 k29
  have g29 := PySem.W.mg_of X G a29
  have b29 := F29.binds (ps := ["_law_net_here", "_law_member", "_law_thing"]) fun _ _ _ _ _ _ us hl => match us, hl with | [_, _, _], _ => rfl
  have F30 := fun_mk (st := st_is_stateL_) l30 c30 k30
  have g30 := PySem.W.mg_of X G a30
  have b30 := F30.binds (ps := ["_law_net_here", "_law_thing"]) fun _ _ _ _ _ _ us hl => match us, hl with | [_, _], _ => rfl
  have F31 := fun_mk (st := st_law_) l31 c31 k31
  have m_isinstance := PySem.W.mg_none_of X G z_isinstance
  have m_int := PySem.W.mg_none_of X G z_int
  have m_bool := PySem.W.mg_none_of X G z_bool
  have m_all := PySem.W.mg_none_of X G z_all
  have m_str := PySem.W.mg_none_of X G z_str
  have m_len := PySem.W.mg_none_of X G z_len
  have m_zip := PySem.W.mg_none_of X G z_zip
  have m_tuple := PySem.W.mg_none_of X G z_tuple
  have m_list := PySem.W.mg_none_of X G z_list
  have m_sorted := PySem.W.mg_none_of X G z_sorted
  have m_range := PySem.W.mg_none_of X G z_range
  have m_min := PySem.W.mg_none_of X G z_min
  have m_max := PySem.W.mg_none_of X G z_max
  have m_repr := PySem.W.mg_none_of X G z_repr
  have c_LONGEST_WORD : Cst K mg "LONGEST_WORD" (.int 8) := ⟨u_LONGEST_WORD, PySem.W.mg_of X G g_LONGEST_WORD, v_LONGEST_WORD⟩
  have c_SMALL_LETTERS : Cst K mg "SMALL_LETTERS" (.str "abcdefghijklmnopqrstuvwxyz") := ⟨u_SMALL_LETTERS, PySem.W.mg_of X G g_SMALL_LETTERS, v_SMALL_LETTERS⟩
  refine ⟨PySem.W.fnOf "law" "law" (defArgs st_law_) (defBody st_law_) (defScope st_law_) .none kV31 dc31 pm31 an31 cd31 ct31, fun s v => .of_eq rfl, fun base _ _ => ?_⟩
  have d_is_number_ : Def l.prog w K mg base 1 "is_number" ["thing"] is_number_ := ok_is_number_ F0 b0 g0 m_isinstance m_int m_bool
  have d_is_word_ : Def l.prog w K mg base 1 "is_word" ["thing"] is_word_ := ok_is_word_ F1 b1 g1 c_LONGEST_WORD c_SMALL_LETTERS m_all m_isinstance m_str m_len
  have d_is_count_ : Def l.prog w K mg base 2 "is_count" ["thing"] is_count_ := ok_is_count_ F2 b2 g2 d_is_number_
  have d_rises_ : Def l.prog w K mg base 1 "rises" ["things"] rises_ := ok_rises_ F3 b3 g3 m_all m_zip
  have d_is_member_ : Def l.prog w K mg base 3 "is_member" ["thing"] is_member_ := ok_is_member_ F4 b4 g4 d_is_word_ d_is_count_ m_isinstance m_tuple m_len
  have d_are_members_ : Def l.prog w K mg base 4 "are_members" ["thing"] are_members_ := ok_are_members_ F5 b5 g5 d_rises_ d_is_member_ m_isinstance m_tuple m_all
  have d_is_wire_ : Def l.prog w K mg base 1 "is_wire" ["thing", "names"] is_wire_ := ok_is_wire_ F6 b6 g6 m_isinstance m_tuple m_len
  have d_are_wires_ : Def l.prog w K mg base 2 "are_wires" ["thing", "names"] are_wires_ := ok_are_wires_ F7 b7 g7 d_rises_ d_is_wire_ m_isinstance m_tuple m_all
  have d_is_net_ : Def l.prog w K mg base 5 "is_net" ["thing"] is_net_ := ok_is_net_ F8 b8 g8 d_are_members_ d_are_wires_ m_isinstance m_tuple m_len
  have d_is_key_ : Def l.prog w K mg base 3 "is_key" ["thing"] is_key_ := ok_is_key_ F9 b9 g9 d_is_count_ d_is_word_ m_isinstance m_tuple m_len
  have d_is_saying_ : Def l.prog w K mg base 4 "is_saying" ["net", "thing"] is_saying_ := ok_is_saying_ F10 b10 g10 d_is_key_ d_is_count_ m_isinstance m_tuple m_len
  have d_is_heard_row_ : Def l.prog w K mg base 4 "is_heard_row" ["ends", "thing"] is_heard_row_ := ok_is_heard_row_ F11 b11 g11 d_is_key_ d_is_count_ m_isinstance m_tuple m_len
  have d_is_heard_ : Def l.prog w K mg base 5 "is_heard" ["ends", "thing"] is_heard_ := ok_is_heard_ F12 b12 g12 d_rises_ d_is_heard_row_ m_isinstance m_tuple m_all
  have d_other_ends_ : Def l.prog w K mg base 1 "other_ends" ["wires", "name"] other_ends_ := ok_other_ends_ F13 b13 g13
  have d_is_state_row_ : Def l.prog w K mg base 6 "is_state_row" ["net", "name", "thing"] is_state_row_ := ok_is_state_row_ F14 b14 g14 d_is_saying_ d_is_heard_ d_other_ends_ m_isinstance m_tuple m_len
  have d_is_state_ : Def l.prog w K mg base 7 "is_state" ["net", "thing"] is_state_ := ok_is_state_ F15 b15 g15 d_is_state_row_ m_all m_isinstance m_tuple m_len m_zip
  have d_feedL_ : Def l.prog w K mg base 1 "_law_feed" ["_law_script"] feedL_ := ok_feedL_ F16 b16 g16 m_list
  have d_drawL_ : Def l.prog w K mg base 1 "_law_draw" ["_law_feed_here", "_law_many"] drawL_ := ok_drawL_ F17 b17 g17 m_len
  have d_netL_ : Def l.prog w K mg base 2 "_law_net" ["_law_feed_here", "_law_limit"] netL_ := ok_netL_ F18 b18 g18 d_drawL_ m_sorted m_tuple m_range m_len m_min m_max
  have d_keyL_ : Def l.prog w K mg base 1 "_law_key" ["_law_member"] keyL_ := ok_keyL_ F19 b19 g19
  have d_any_keyL_ : Def l.prog w K mg base 2 "_law_any_key" ["_law_feed_here", "_law_net_here"] any_keyL_ := ok_any_keyL_ F20 b20 g20 d_drawL_ d_keyL_ m_len
  have d_endsL_ : Def l.prog w K mg base 1 "_law_ends" ["_law_wires", "_law_name"] endsL_ := ok_endsL_ F21 b21 g21 m_sorted
  have d_stateL_ : Def l.prog w K mg base 3 "_law_state" ["_law_feed_here", "_law_net_here"] stateL_ := ok_stateL_ F22 b22 g22 d_drawL_ d_endsL_ d_any_keyL_ m_tuple m_len
  have d_bentL_ : Def l.prog w K mg base 10 "_law_bent" ["_law_feed_here", "_law_thing"] bentL_ := ok_bentL_ F23 b23 g23 d_drawL_ m_isinstance m_tuple m_int m_list m_bool m_len
  have d_is_wordL_ : Def l.prog w K mg base 1 "_law_is_word" ["_law_thing"] is_wordL_ := ok_is_wordL_ F24 b24 g24 m_isinstance m_str m_len
  have d_is_fromL_ : Def l.prog w K mg base 1 "_law_is_from" ["_law_thing"] is_fromL_ := ok_is_fromL_ F25 b25 g25 m_isinstance m_int m_bool
  have d_is_keyL_ : Def l.prog w K mg base 2 "_law_is_key" ["_law_thing"] is_keyL_ := ok_is_keyL_ F26 b26 g26 d_is_fromL_ d_is_wordL_ m_isinstance m_tuple m_len
  have d_risesL_ : Def l.prog w K mg base 1 "_law_rises" ["_law_things"] risesL_ := ok_risesL_ F27 b27 g27 m_range m_len
  have d_is_netL_ : Def l.prog w K mg base 3 "_law_is_net" ["_law_thing"] is_netL_ := ok_is_netL_ F28 b28 g28 d_risesL_ d_is_keyL_ m_isinstance m_tuple m_len
  have d_is_rowL_ : Def l.prog w K mg base 3 "_law_is_row" ["_law_net_here", "_law_member", "_law_thing"] is_rowL_ := ok_is_rowL_ F29 b29 g29 d_risesL_ d_is_keyL_ d_is_fromL_ d_endsL_ m_isinstance m_tuple m_len
  have d_is_stateL_ : Def l.prog w K mg base 4 "_law_is_state" ["_law_net_here", "_law_thing"] is_stateL_ := ok_is_stateL_ F30 b30 g30 d_is_rowL_ m_isinstance m_tuple m_len m_range
  exact ok_law_ F31 d_feedL_ d_netL_ d_stateL_ d_bentL_ d_drawL_ d_is_net_ d_is_netL_ d_is_state_ d_is_stateL_ m_tuple m_range m_list m_repr
end K55
open PySem PySem.W PyProof.Rows in
set_option maxRecDepth 100000 in
set_option maxHeartbeats 0 in
theorem PySem.Challenge.cw_ledclocks_k55_nets_by_kind_holds : PySem.Challenge.rw_ledclocks_k55_nets_by_kind.Holds := by
  w_on; o_law; k_head; (case hw => w_witness2)
  k_fill
  refine G.walk_g (l := PySem.Challenge.rw_ledclocks_k55_nets_by_kind) (n := 63) (k := 11) (x := "_law_script") (sp := fun w => AL.spA _ 1 K55.law_) rfl (by decide) rfl ⟨rfl, by decide, by decide⟩ (fun w h Y => PySem.W.kIn_of Y) ?F (fun w _ a ns hl hO hS => AL.hsp_a K55.law_true hl hO hS)
  case F =>
    intro w mg fa h KX G hmg
    refine' K55.all_mk KX G hmg ?g_LONGEST_WORD ?v_LONGEST_WORD ?g_SMALL_LETTERS ?v_SMALL_LETTERS ?a0 ?l0 ?c0 ?k0 ?a1 ?l1 ?c1 ?k1 ?a2 ?l2 ?c2 ?k2 ?a3 ?l3 ?c3 ?k3 ?a4 ?l4 ?c4 ?k4 ?a5 ?l5 ?c5 ?k5 ?a6 ?l6 ?c6 ?k6 ?a7 ?l7 ?c7 ?k7 ?a8 ?l8 ?c8 ?k8 ?a9 ?l9 ?c9 ?k9 ?a10 ?l10 ?c10 ?k10 ?a11 ?l11 ?c11 ?k11 ?a12 ?l12 ?c12 ?k12 ?a13 ?l13 ?c13 ?k13 ?a14 ?l14 ?c14 ?k14 ?a15 ?l15 ?c15 ?k15 ?a16 ?l16 ?c16 ?k16 ?a17 ?l17 ?c17 ?k17 ?a18 ?l18 ?c18 ?k18 ?a19 ?l19 ?c19 ?k19 ?a20 ?l20 ?c20 ?k20 ?a21 ?l21 ?c21 ?k21 ?a22 ?l22 ?c22 ?k22 ?a23 ?l23 ?c23 ?k23 ?a24 ?l24 ?c24 ?k24 ?a25 ?l25 ?c25 ?k25 ?a26 ?l26 ?c26 ?k26 ?a27 ?l27 ?c27 ?k27 ?a28 ?l28 ?c28 ?k28 ?a29 ?l29 ?c29 ?k29 ?a30 ?l30 ?c30 ?k30 ?a31 ?l31 ?c31 ?k31      ?z_isinstance ?z_int ?z_bool ?z_all ?z_str ?z_len ?z_zip ?z_tuple ?z_list ?z_sorted ?z_range ?z_min ?z_max ?z_repr
    (case g_LONGEST_WORD => k_is)
    (case v_LONGEST_WORD => open AL in exact cv_int)
    (case g_SMALL_LETTERS => k_is)
    (case v_SMALL_LETTERS => open AL in exact cv_str)
    (case a0 => k_is)
    (case l0 => k_is)
    (case c0 => k_is)
    (case k0 => k_is)
    (case a1 => k_is)
    (case l1 => k_is)
    (case c1 => k_is)
    (case k1 => k_is)
    (case a2 => k_is)
    (case l2 => k_is)
    (case c2 => k_is)
    (case k2 => k_is)
    (case a3 => k_is)
    (case l3 => k_is)
    (case c3 => k_is)
    (case k3 => k_is)
    (case a4 => k_is)
    (case l4 => k_is)
    (case c4 => k_is)
    (case k4 => k_is)
    (case a5 => k_is)
    (case l5 => k_is)
    (case c5 => k_is)
    (case k5 => k_is)
    (case a6 => k_is)
    (case l6 => k_is)
    (case c6 => k_is)
    (case k6 => k_is)
    (case a7 => k_is)
    (case l7 => k_is)
    (case c7 => k_is)
    (case k7 => k_is)
    (case a8 => k_is)
    (case l8 => k_is)
    (case c8 => k_is)
    (case k8 => k_is)
    (case a9 => k_is)
    (case l9 => k_is)
    (case c9 => k_is)
    (case k9 => k_is)
    (case a10 => k_is)
    (case l10 => k_is)
    (case c10 => k_is)
    (case k10 => k_is)
    (case a11 => k_is)
    (case l11 => k_is)
    (case c11 => k_is)
    (case k11 => k_is)
    (case a12 => k_is)
    (case l12 => k_is)
    (case c12 => k_is)
    (case k12 => k_is)
    (case a13 => k_is)
    (case l13 => k_is)
    (case c13 => k_is)
    (case k13 => k_is)
    (case a14 => k_is)
    (case l14 => k_is)
    (case c14 => k_is)
    (case k14 => k_is)
    (case a15 => k_is)
    (case l15 => k_is)
    (case c15 => k_is)
    (case k15 => k_is)
    (case a16 => k_is)
    (case l16 => k_is)
    (case c16 => k_is)
    (case k16 => k_is)
    (case a17 => k_is)
    (case l17 => k_is)
    (case c17 => k_is)
    (case k17 => k_is)
    (case a18 => k_is)
    (case l18 => k_is)
    (case c18 => k_is)
    (case k18 => k_is)
    (case a19 => k_is)
    (case l19 => k_is)
    (case c19 => k_is)
    (case k19 => k_is)
    (case a20 => k_is)
    (case l20 => k_is)
    (case c20 => k_is)
    (case k20 => k_is)
    (case a21 => k_is)
    (case l21 => k_is)
    (case c21 => k_is)
    (case k21 => k_is)
    (case a22 => k_is)
    (case l22 => k_is)
    (case c22 => k_is)
    (case k22 => k_is)
    (case a23 => k_is)
    (case l23 => k_is)
    (case c23 => k_is)
    (case k23 => k_is)
    (case a24 => k_is)
    (case l24 => k_is)
    (case c24 => k_is)
    (case k24 => k_is)
    (case a25 => k_is)
    (case l25 => k_is)
    (case c25 => k_is)
    (case k25 => k_is)
    (case a26 => k_is)
    (case l26 => k_is)
    (case c26 => k_is)
    (case k26 => k_is)
    (case a27 => k_is)
    (case l27 => k_is)
    (case c27 => k_is)
    (case k27 => k_is)
    (case a28 => k_is)
    (case l28 => k_is)
    (case c28 => k_is)
    (case k28 => k_is)
    (case a29 => k_is)
    (case l29 => k_is)
    (case c29 => k_is)
    (case k29 => k_is)
    (case a30 => k_is)
    (case l30 => k_is)
    (case c30 => k_is)
    (case k30 => k_is)
    (case a31 => k_is)
    (case l31 => k_is)
    (case c31 => k_is)
    (case k31 => k_is)
    (case z_isinstance => k_is)
    (case z_int => k_is)
    (case z_bool => k_is)
    (case z_all => k_is)
    (case z_str => k_is)
    (case z_len => k_is)
    (case z_zip => k_is)
    (case z_tuple => k_is)
    (case z_list => k_is)
    (case z_sorted => k_is)
    (case z_range => k_is)
    (case z_min => k_is)
    (case z_max => k_is)
    (case z_repr => k_is)
