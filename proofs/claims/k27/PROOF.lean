import PyProof.Rows.All
import Wide.All
import OpenK.AllK
import Wide.FinOn
import HandS.ForMost
import HandS.Wide
import HandS.TryOnly
import HandS.Codes
import PyProof.ReprRoads
import HandS.Lambda
import HandS.Walk
import HandS.Strs
import HandS.Sort
import HandS.SortRule
import HandS.Style
import HandS.IsInst
import HandS.TupAny
import HandS.RaiseMore
import PyProof.StrOps2
import PyProof.StrLawsRepr
import KE.GoesMore
import PyProof.EnumMake
import PyProof.EnumFor
import PyProof.Draws
import HandS.Iter
import KE.GoesZip
import HandS.Zip
import KE.KSortTupAny
import HandS.SortOrd
import HandS.More
import HandS.Defaults
import HandS.MakeKwOnly
import HandS.DictComp
import HandS.Exc
import HandS.SetFor
import HandS.Deep
import HandS.ExcOwn
import HandS.ExcInit
import KE.KExcInit
import HandS.Conv
import HandS.ExcField
import HandS.EndBits
import KE.KExcIs
import KE.KTryMore
import PyProof.Rows.CountFlat
import HandS.ExcIs
import KE.RegKIsAll
import PySem.Challenge.RW_ledclocks_k27_whole_world_or_ring
set_option Elab.async false
set_option linter.all false
set_option maxRecDepth 100000
set_option maxHeartbeats 4000000
set_option exponentiation.threshold 3000
namespace G
open PySem PySem.Spec PyProof.Rows L2

structure FnG (P : Program) (w : World) (K : PySem.W.Frag) (mg : Str → Option Value) (base : Heap) (k : Nat) (f : Addr) (fd : FuncData) (ps : List Str) (sp : Sp) : Prop where
  len : ∀ vs H Q E, sp vs H Q E → vs.length = ps.length
  run : ∀ (A : Around) (outer : List Env) (s : Shared) (H : Hp) (args : Args) (us : List Value) (vs : List V) (Q : VK) (E : XK),
    A.guards = some [] → Room k A → Env0 P w K mg base A outer s H → BindsTo s fd args (ps.zip us) → Vals vs us → sp vs H Q E →
      codeAny (model P w) A (.call (.ref f) args) (CR CX0 outer P w H s Q E) s
section
variable {X : Cx} {k : Nat} {f : Addr} {fd : FuncData} {ps : List Str} {sp : Sp} {E : XK} {x : Str} {p pos : Pos} {e : Expr} {es : List Expr} {t : TA}
theorem run_g {pins : List (Addr × Obj)} {σ : L2.St} {H : Hp} {s : Shared} {Q : VK} {us : List Value} {vs : List V}
    (F : FnG X.prog X.w X.K X.mg X.base k f fd ps sp) (g : X.A.guards = some []) (hr : Room k X.A) (hb : Binds X.K fd ps [])
    (I : Inv X pins σ H s) (r : Vals vs us) (h : sp vs H Q E) :
    wpAny (model X.prog X.w) X.A (call (.ref f) us) (EP X pins σ Q) X.xe s := by
  have n1 : us.length = ps.length := r.length.symm.trans (F.len vs H Q E h)
  have b1 := hb s us I.kIn ((congrArg List.length (List.append_nil us)).trans n1)
  rw [List.append_nil] at b1
  refine wpAny_call (codeAny_mono (F.run X.A X.stack s H ⟨us, []⟩ us vs Q E g hr I.env0 b1 r h) ?_)
  intro res s' c
  match res, c with
  | .error _, c => exact False.elim c
  | .ok (.ret _), c => exact I.after c
  | .ok .next, c => exact False.elim c
  | .ok .brk, c => exact False.elim c
  | .ok .cont, c => exact False.elim c

theorem pe_callG (F : FnG X.prog X.w X.K X.mg X.base k f fd ps sp) (g : X.A.guards = some []) (hr : Room k X.A) (hgl : Gl X x) (hm : X.mg x = some (.ref f))
    (hk : PySem.W.keepIn X.K (.ref f) = true) (hb : Binds X.K fd ps []) (ha : PA X (e :: es) t)
    (hdb : (x == ("__debug__" : Str)) = false := by decide)
    (he : starEach (e :: es) X.env = (false, eval e X.env) :: starEach es X.env := by rfl)
    (hpl : (backTo pos (starEach es X.env)).any (·.1) = false := by rfl) :
    PE X (.Call (.Name x p) (e :: es) [] pos) (fun σ H Q => t σ H fun vs H1 => sp vs H1 Q E0) := by
  constructor
  intro pins s σ H Q I h
  apply wpAny_Call_Name_kw
  apply ld_glob I hgl hm _ hdb
  refine PySem.W.callWith_K (h₀ := X.base) I.ok.mod.kin hk (thn (ha.run pos pins s σ H _ I h) ?_) he hpl
  rintro us s1 ⟨vs, H1, I1, r, q⟩
  exact ⟨I1.kIn, run_g (E := E0) F g hr hb I1 r q⟩
end

theorem fn_g {P : Program} {w : World} {K : PySem.W.Frag} {mg : Str → Option Value} {base : Heap} {x qual : Str} {st : Stmt} {f : Addr} {fd : FuncData} {N ps : List Str} {k : Nat} {sp : Sp}
    (F : Fun K x qual st f fd) (S : FnScope N ps (defScope st)) (len : ∀ vs H Q E, sp vs H Q E → vs.length = ps.length)
    (body : ∀ (cdv : Value) (A : Around) (outer : List Env) (s : Shared) (H : Hp) (vs : List V) (Q : VK) (E : XK), A.guards = some [] →
      Room k (A.deeper (envOfC qual (defScope st) s.heap.objs.size f cdv)) → sp vs H Q E →
      ∃ t, PSs (cxOf CX0 P w K mg base N qual (defScope st) f cdv A outer s H E).nox (defBody st) t ∧ t { nx := fun _ H' => Q .non H', rt := Q } (start N vs) H) :
    FnG P w K mg base (k + 1) f fd ps sp := by
  obtain ⟨oc, od, kV, doc, pm, an, cdv, ct, osl, rfl, lk, hcd⟩ := F.ex
  refine ⟨len, ?_⟩
  intro A outer s H args us vs Q E g hr e0 hb r hsp
  have up : ∀ b o, base.get? b = some o → s.heap.get? b = some o := fun b o e => (e0.bs b o e).1
  have KX : K.In s.heap := e0.mod.kin.keeps up
  refine codeAny_call_function hr.depth (KX _ _ lk) rfl S.co S.gen rfl (PySem.W.codeRec_of KX hcd) (hb _ _ _ _ ?_)
  refine wpAny_newFunctionEnv_cells S.kind ?_ ?_
  · rintro ⟨n, v⟩ hy
    cases S.par n (List.of_mem_zip hy).1 with
    | inl q => exact .inl q
    | inr q => exact .inr ⟨q, PySem.W.cellsFrom_some _ _ _ (.inl q)⟩
  · rintro env rfl s1 x
    refine ⟨(e0.mod.nolimit.keeps up).keeps x.toInCall.keep, codeAny_func ?_⟩
    obtain ⟨t, ht, hq⟩ := body cdv A outer s H vs Q E g (hr.deeper _) hsp
    have I := inv_start (CX := CX0) (E := E) S hr.hd e0 (len _ _ _ _ hsp) r x
    refine wpAny_mono (ht.nox.run [] s1 (start N vs) H _ I hq) ?_ (fun e s' hs => hs)
    intro fl s' hs
    match fl, hs with
    | .ret u, ⟨v, σ', H', J, rv, q⟩ => exact ⟨v, H', J.os, J.bare, J.base, J.hok, rv, q⟩
    | .next, ⟨σ', H', J, q⟩ => exact ⟨.non, H', J.os, J.bare, J.base, J.hok, rfl, q⟩
    | .brk, ⟨_, _, _, q⟩ => exact False.elim q
    | .cont, ⟨_, _, _, q⟩ => exact False.elim q

theorem law_core {P : Program} {w : World} {K : PySem.W.Frag} {mg mb : Str → Option Value} {k : Nat} {fa a : Addr} {fd : FuncData} {x : Str} {sp : Sp} {s₁ : Shared} {vs : List Value}
    (KX : K.In s₁.heap) (hns : s₁.heap.Ns mainGlobals mg) (hb : s₁.heap.Ns builtinsNs mb) (hbb : ∀ x : Str, x ≠ "__name__" → mb x = bootBuiltins x) (hlim : s₁.heap.NoLimit) (hg : s₁.gens = #[])
    (ha : s₁.heap.get? a = some { cls := .type "list", data := .seq vs.toArray }) (hr : Room k callerA)
    (F : ∀ base : Heap, K.In base → base.Ns mainGlobals mg → FnG P w K mg base k fa fd [x] sp) (hbind : ∀ (s : Shared) (u : Value), BindsTo s fd ⟨[u], []⟩ [(x, u)])
    (H : Hp) (hO : Only H) (hok : HOk P w H s₁.heap) (hA : ∀ b, H b ≠ none → b = a) (hK : H a ≠ none → K.lookup a = none)
    (hsp : sp [.ref a] H (fun v _ => v = .bl true) fun _ _ _ => False) :
    codeAny (model P w) callerA (.call (.ref fa) ⟨[.ref a], []⟩) (fun r s' => r = .ok (.ret (.bool true)) ∧ OldK s₁.heap s'.heap ∧ s'.os = s₁.os ∧ AllBare s'.gens) s₁ := by
  have free : ∀ {b : Addr} {o : Obj}, s₁.heap.get? b = some o → (b = a → False) → H b = none := by
    intro b o _ hne
    cases q : H b with
    | none => rfl
    | some u => exact (hne (hA b (by simp [q]))).elim
  have hid : ∀ {b : Addr} {o : Obj}, s₁.heap.get? b = some o → H b = none → (hidT s₁.heap H).get? b = some o := fun e n => hidT_get e n
  have ns_of : ∀ {b : Addr} {m : Str → Option Value}, s₁.heap.Ns b m → (hidT s₁.heap H).Ns b m := by
    rintro b m ⟨o, es, ep, e, d, r⟩
    refine ⟨o, es, ep, hid e (free e fun z => ?_), d, r⟩
    subst z
    rw [ha] at e
    cases e
    cases (d : Data.seq vs.toArray _ = Data.dict es ep)
  have kin : K.In (hidT s₁.heap H) := by
    intro b o e
    have e2 := KX b o e
    cases q : H b with
    | none => exact hid e2 q
    | some u =>
      have z := hA b (by simp [q])
      subst z
      rw [hK (by simp [q])] at e
      cases e
  obtain ⟨mc, l1, l2⟩ := hlim
  have md : Mod K mg (hidT s₁.heap H) := ⟨kin, ns_of hns, ⟨mb, ns_of hb, hbb⟩, ⟨mc, ns_of l1, l2⟩⟩
  have none_in : ∀ {b : Addr} {Z : Prop}, b ∈ ([] : List Addr) → Z := fun z => (nomatch z)
  have e0 : Env0 P w K mg (hidT s₁.heap H) callerA [] s₁ H :=
    ⟨rfl, md, fun b o e => of_hidT e, Nat.le_of_eq (hidT_size _ _), trivial, fun b z => none_in z, hok, .of_eq hg⟩
  refine codeAny_mono ((F _ kin (ns_of hns)).run callerA [] s₁ H ⟨[.ref a], []⟩ [.ref a] [.ref a] _ _ rfl hr e0 (hbind s₁ (.ref a)) (.cons rfl .nil) hsp) ?_
  intro r s' c
  match r, c with
  | .error _, c => exact False.elim c
  | .ok .next, c => exact False.elim c
  | .ok .brk, c => exact False.elim c
  | .ok .cont, c => exact False.elim c
  | .ok (.ret u), ⟨v, H', os, bare, un, hok', rv, q⟩ =>
    have q' : v = .bl true := q
    subst q'
    obtain rfl : u = Value.bool true := rv
    refine ⟨rfl, OldK.of_keep ?_, os, bare⟩
    intro b o e
    cases hq : H b with
    | none => exact un.keep b o e hq (fun z => none_in z) (by simp)
    | some u =>
      cases hO b with
      | inl z => rw [hq] at z; cases z
      | inr z =>
        obtain ⟨ob, xs, z⟩ := z
        have o1 := (hok b _ z).1
        have o2 := (hok' b _ (un.frzs b ob _ z)).1
        rw [e] at o1
        cases o1
        exact o2
theorem law_g {P : Program} {w : World} {K : PySem.W.Frag} {mg mb : Str → Option Value} {k : Nat} {fa a : Addr} {fd : FuncData} {x : Str} {sp : Sp} {s₁ : Shared} {vs : List Value} {ns : List Int}
    (KX : K.In s₁.heap) (hns : s₁.heap.Ns mainGlobals mg) (hb : s₁.heap.Ns builtinsNs mb) (hbb : ∀ x : Str, x ≠ "__name__" → mb x = bootBuiltins x) (hlim : s₁.heap.NoLimit) (hg : s₁.gens = #[])
    (ha : s₁.heap.get? a = some { cls := .type "list", data := .seq vs.toArray }) (hi : IntsAre vs ns) (hl : ns.length ≤ sizeLine) (hr : Room k callerA)
    (F : ∀ base : Heap, K.In base → base.Ns mainGlobals mg → FnG P w K mg base k fa fd [x] sp) (hbind : ∀ (s : Shared) (u : Value), BindsTo s fd ⟨[u], []⟩ [(x, u)])
    (hsp : ∀ H : Hp, Only H → SqL K H a (ns.map V.int) → sp [.ref a] H (fun v _ => v = .bl true) fun _ _ _ => False) :
    codeAny (model P w) callerA (.call (.ref fa) ⟨[.ref a], []⟩) (fun r s' => r = .ok (.ret (.bool true)) ∧ OldK s₁.heap s'.heap ∧ s'.os = s₁.os ∧ AllBare s'.gens) s₁ := by
  have rv := vals_ints hi
  cases hk : K.lookup a with
  | some o =>
    have e := KX a o hk
    rw [ha] at e
    cases e
    have oo : Only (fun _ => none) := fun _ => .inl rfl
    refine law_core KX hns hb hbb hlim hg ha hr F hbind (fun _ => none) oo (fun b u z => by cases (z : (none : Option HO) = some u)) (fun b z => absurd rfl z) (fun z => absurd rfl z) (hsp _ oo ?_)
    refine .inr ⟨_, vs.toArray, _, hk, rfl, rfl, rfl, ?_, by simpa using rv⟩
    rw [List.size_toArray, hi.length]
    exact hl
  | none =>
    let H : Hp := fun b => if b = a then some (.frz { cls := .type "list", data := .seq vs.toArray } (.lst (ns.map V.int))) else none
    have at_ : H a = some (.frz { cls := .type "list", data := .seq vs.toArray } (.lst (ns.map V.int))) := if_pos rfl
    have off : ∀ {b : Addr}, b ≠ a → H b = none := fun n => if_neg n
    have oo : Only H := fun b => by
      by_cases z : b = a
      · subst z
        exact .inr ⟨_, _, at_⟩
      · exact .inl (off z)
    refine law_core KX hns hb hbb hlim hg ha hr F hbind H oo ?_ ?_ (fun _ => hk) (hsp _ oo (.inl (.inr ⟨_, at_⟩)))
    · intro b u z
      by_cases q : b = a
      · subst q
        rw [at_] at z
        cases z
        exact ⟨ha, by rw [List.length_map]; exact hl, vs, _, rv, ha⟩
      · rw [off q] at z
        cases z
    · intro b z
      by_cases q : b = a
      · exact q
      · exact absurd (off q) z

theorem walk_g {l : PySem.W.OpenLaw} {n k : Nat} {q : Program} {loose : List Str} {XP : (Str → Option Value) → Heap → Prop} {YP : World → Heap → Prop} {d : DefRec} {K : Params → PySem.W.Frag} {sp : World → Sp} {x : Str}
    (hn : l.most = some n) (hn2 : n ≤ sizeLine) (hdf : d.params.defaults = []) (hr : Room k callerA)
    (hY : ∀ (w : World) (h : Heap), YP w h → (K w.params).In h)
    (F : ∀ (w : World) (mg : Str → Option Value) (fa : Addr) (h : Heap), (K w.params).In h → h.Ns mainGlobals mg → mg d.name = some (.ref fa) →
      ∃ fd : FuncData, (∀ (s : Shared) (u : Value), BindsTo s fd ⟨[u], []⟩ [(x, u)]) ∧
        ∀ base : Heap, (K w.params).In base → base.Ns mainGlobals mg → FnG l.prog w (K w.params) mg base k fa fd [x] (sp w))
    (hsp : ∀ (w : World) (H : Hp) (a : Addr) (ns : List Int), ns.length ≤ n → Only H → SqL (K w.params) H a (ns.map V.int) → sp w [.ref a] H (fun v _ => v = .bl true) fun _ _ _ => False) :
    PySem.W.WalkO q loose XP YP l.row.toRowW d [] (fun f vs => PySem.call f vs) := by
  refine Att.attach_call hn hdf ?_
  intro w s₀ s₁ mg mb fa o pm cd doc a vs ns G Y ho hd hcd hmg hobj hints hlen hg
  obtain ⟨fd, hb, hF⟩ := F w mg fa _ (hY w _ Y) G.T.g hmg
  exact law_g (hY w _ Y) G.T.g G.T.b G.T.builtins G.T.nolimit hg hobj hints (Nat.le_trans hlen hn2) hr hF hb (fun H oo hS => hsp w H a ns hlen oo hS)
end G
namespace LamT
open PySem PySem.Spec PyProof.Rows L2 LamX

structure TE where
  P : Addr
  lo : Nat
  hi : Nat
  q : Str
def TabS (H : Hp) (e : TE) : Prop := ∃ tb : Array Value, H e.P = some (.tbl tb) ∧ TriplesOk tb.toList ∧ ∀ (at_ : Pos) (v : Value), e.lo ≤ at_.line → at_.line ≤ e.hi → codeAmong at_ tb.toList = some v → ∃ d, v = .ref d ∧ H d = some (CodeO d e.q)
def Tabs (T : List TE) (H : Hp) : Prop := ∀ e ∈ T, TabS H e
theorem TabS.nil {H : Hp} {e : TE} (h : H e.P = some (.tbl #[])) : TabS H e := by
  refine ⟨#[], h, trivial, ?_⟩
  intro at_ v _ _ z
  have z2 : codeAmong at_ ([] : List Value) = some v := z
  simp [codeAmong] at z2
end LamT
namespace AL
open PySem PySem.Spec PyProof.Rows L2 G
inductive Val where
  | non | bl (b : Bool) | int (i : Int) | str (x : Str) | tup (vs : List Val) | ref (n : Nat) | scr (ns : List Int)
  
  | lam (f c : Addr) (q : Str) (us : List V) (vs : List Val)
  
  | exc (a dd : Addr) (c : Str) (vs : List Val)
  
  | ptu (vs : List Val)
  
  | fn (q : Str) (a : Addr)
inductive Ob where
  | lst (vs : List Val)
  | dic (kvs : List (Key × Val))
  | set (w : World) (f : Int → Bool) (n : Nat)
  
  | obj (C : Str) (fs : List (Str × Val))
abbrev Sto := List Ob

class TT where
  T : List LamT.TE
  
  cls : Str → Addr
instance (priority := low) noTT : TT := ⟨[], fun _ => 0⟩

def xfs (c : Str) : List Str := if c = "NoPaper" then ["word", "at"] else if c = "NoEvent" then ["word", "at"] else if c = "NoWorld" then ["ring"] else if c = "Lied" then ["many"] else if c = "NoText" then ["row", "word"] else if c = "NoRow" then ["row"] else if c = "NoHouse" then ["name"] else ["number"]

theorem set_ne_code {w : World} {a : Addr} {f : Int → Bool} {n : Nat} {q : Str} : SetO w a f n ≠ LamX.CodeO a q := by
  intro z
  have e : (fun h => SetR w h a f n) = fun h => ∃ (oc : Obj) (vs : Array Value) (t : Tok), h.get? a = some oc ∧ oc.data = .fields vs ∧ vs[1]? = some (.str q t) := HO.ext.inj z
  have g : (⟨Array.replicate (a + 1) { cls := .none, data := .fields #[.none, .str q 0] }, {}⟩ : Heap).get? a = some { cls := .none, data := .fields #[.none, .str q 0] } := by
    unfold Heap.get?
    simp
  have y := congrFun e ⟨Array.replicate (a + 1) { cls := .none, data := .fields #[.none, .str q 0] }, {}⟩
  have h2 : ∃ (oc : Obj) (vs : Array Value) (t : Tok), (⟨Array.replicate (a + 1) { cls := .none, data := .fields #[.none, .str q 0] }, {}⟩ : Heap).get? a = some oc ∧ oc.data = .fields vs ∧ vs[1]? = some (.str q t) := ⟨_, _, 0, g, rfl, rfl⟩
  obtain ⟨o, es, ep, t, ho, _, hd, _⟩ := y.mpr h2
  rw [g] at ho
  cases ho
  cases hd
abbrev Rho := List (Option Val)

def SqF (K : PySem.W.Frag) (H : Hp) (a : Addr) (ns : List Int) : Prop :=
  (∃ o, H a = some (.frz o (.lst (ns.map V.int)))) ∨ ∃ (o : Obj) (its : Array Value) (n : Nat), K.lookup a = some o ∧ o.cls = .type "list" ∧ o.dict = none ∧ o.data = .seq its n ∧ its.size ≤ sizeLine ∧ Vals (ns.map V.int) its.toList
theorem SqF.sq {K : PySem.W.Frag} {H : Hp} {a : Addr} {ns : List Int} (h : SqF K H a ns) : SqL K H a (ns.map V.int) := by
  rcases h with ⟨o, h⟩ | h
  · exact .inl (.inr ⟨o, h⟩)
  · exact .inr h

def TupAt (K : PySem.W.Frag) (H : Hp) (a : Addr) (xs : List V) : Prop :=
  H a = some (.tup xs) ∨ (∃ (o : Obj) (its : Array Value) (n : Nat), K.lookup a = some o ∧ o.cls = .type "tuple" ∧ o.data = .seq its n ∧ its.size ≤ sizeLine ∧ Vals xs its.toList) ∨ ∃ o : Obj, H a = some (.frz o (.tup xs))
theorem TupAt.sq {K : PySem.W.Frag} {H : Hp} {a : Addr} {xs : List V} (h : TupAt K H a xs) : SqT K H a xs := by
  rcases h with h | h | ⟨o, h⟩
  · exact .inl (.inl h)
  · exact .inr h
  · exact .inl (.inr ⟨o, h⟩)
mutual
inductive VR (K : PySem.W.Frag) (H : Hp) (m : List Addr) : V → Val → Prop
  | non : VR K H m .non .non
  | bl (b : Bool) : VR K H m (.bl b) (.bl b)
  | int (i : Int) : VR K H m (.int i) (.int i)
  | str (x : Str) : VR K H m (.str x) (.str x)
  | tup {a : Addr} {xs : List V} {vs : List Val} : TupAt K H a xs → VRs K H m xs vs → VR K H m (.ref a) (.tup vs)
  | ref {a : Addr} {n : Nat} : m[n]? = some a → VR K H m (.ref a) (.ref n)
  | scr {a : Addr} {ns : List Int} : SqF K H a ns → VR K H m (.ref a) (.scr ns)
  | lam {f c : Addr} {q : Str} {us : List V} {vs : List Val} : H c = some (LamX.CodeO c q) → VRs K H m us vs → VR K H m (.ref f) (.lam f c q us vs)
  | exc {a dd : Addr} {c : Str} {fs : List (Str × V)} {us : List V} {vs : List Val} : H dd = some (.xd fs) → (∀ (i : Nat) (n : Str) (u : V), (xfs c)[i]? = some n → us[i]? = some u → fs.lookup n = some u) → VRs K H m us vs → VR K H m (.ref a) (.exc a dd c vs)
  | ptu {a : Addr} {o : Obj} {xs : List V} {vs : List Val} : H a = some (.frz o (.tup xs)) → o.dict = none → VRs K H m xs vs → VR K H m (.ref a) (.ptu vs)
  | fn (q : Str) (a : Addr) : VR K H m (.ref a) (.fn q a)
inductive VRs (K : PySem.W.Frag) (H : Hp) (m : List Addr) : List V → List Val → Prop
  | nil : VRs K H m [] []
  | cons {u : V} {us : List V} {v : Val} {vs : List Val} : VR K H m u v → VRs K H m us vs → VRs K H m (u :: us) (v :: vs)
end

structure Kp (m : List Addr) (H : Hp) (m' : List Addr) (H' : Hp) : Prop where
  pre : ∃ r, m' = m ++ r
  tup : ∀ a xs, H a = some (.tup xs) → H' a = some (.tup xs)
  frz : ∀ a o u, H a = some (.frz o u) → H' a = some (.frz o u)
  xd : ∀ a fs, H a = some (.xd fs) → H' a = some (.xd fs)
  cod : ∀ a q, H a = some (LamX.CodeO a q) → H' a = some (LamX.CodeO a q)
theorem Kp.refl (m : List Addr) (H : Hp) : Kp m H m H := ⟨⟨[], (List.append_nil m).symm⟩, fun _ _ h => h, fun _ _ _ h => h, fun _ _ h => h, fun _ _ h => h⟩
theorem Kp.grow {m : List Addr} {H H' : Hp} (r : List Addr) (k : Kp m H m H') : Kp m H (m ++ r) H' := ⟨⟨r, rfl⟩, k.tup, k.frz, k.xd, k.cod⟩
theorem Kp.trans {m m1 m2 : List Addr} {H H1 H2 : Hp} (a : Kp m H m1 H1) (b : Kp m1 H1 m2 H2) : Kp m H m2 H2 := by
  obtain ⟨r, rfl⟩ := a.pre
  obtain ⟨q, rfl⟩ := b.pre
  exact ⟨⟨r ++ q, List.append_assoc ..⟩, fun x y h => b.tup x y (a.tup x y h), fun x y z h => b.frz x y z (a.frz x y z h), fun x y h => b.xd x y (a.xd x y h), fun x y h => b.cod x y (a.cod x y h)⟩
theorem Kp.get {m m' : List Addr} {H H' : Hp} (k : Kp m H m' H') {n : Nat} {a : Addr} (h : m[n]? = some a) : m'[n]? = some a := by
  obtain ⟨r, rfl⟩ := k.pre
  rw [List.getElem?_append_left (List.getElem?_eq_some_iff.mp h).1]
  exact h

def Mut (a : Addr) : HO → Prop := fun u => (∃ xs, u = .lst xs) ∨ (∃ xs, u = .dK xs) ∨ (∃ C dx fs, u = .ins C dx fs) ∨ ∃ w f n, u = SetO w a f n
theorem Mut.ne {a : Addr} {u : HO} (h : Mut a u) : (∀ xs, u ≠ .tup xs) ∧ (∀ o v, u ≠ .frz o v) ∧ (∀ fs, u ≠ .xd fs) ∧ (∀ q, u ≠ LamX.CodeO a q) ∧ ∀ ps, u ≠ .tbl ps := by
  rcases h with ⟨xs, rfl⟩ | ⟨xs, rfl⟩ | ⟨C, dx, fs, rfl⟩ | ⟨w, f, n, rfl⟩
  · refine ⟨?_, ?_, ?_, ?_, ?_⟩ <;> intros <;> intro z <;> cases z
  · refine ⟨?_, ?_, ?_, ?_, ?_⟩ <;> intros <;> intro z <;> cases z
  · refine ⟨?_, ?_, ?_, ?_, ?_⟩ <;> intros <;> intro z <;> cases z
  · refine ⟨fun _ z => ?_, fun _ _ z => ?_, fun _ z => ?_, fun _ => set_ne_code, fun _ z => ?_⟩ <;> (unfold SetO at z; cases z)
theorem Kp.at_ {m : List Addr} {H : Hp} {a : Addr} {o : HO} (h : ∀ u, H a = some u → Mut a u) : Kp m H m (upd H a o) := by
  refine ⟨⟨[], (List.append_nil m).symm⟩, fun b xs e => ?_, fun b o' u e => ?_, fun b xs e => ?_, fun b xs e => ?_⟩
  · rw [upd_ne (show b ≠ a from fun z => (h _ (z ▸ e)).ne.1 xs rfl)]
    exact e
  · rw [upd_ne (show b ≠ a from fun z => (h _ (z ▸ e)).ne.2.1 o' u rfl)]
    exact e
  · rw [upd_ne (show b ≠ a from fun z => (h _ (z ▸ e)).ne.2.2.1 xs rfl)]
    exact e
  · by_cases z : b = a
    · subst z
      exact absurd rfl ((h _ e).ne.2.2.2.1 xs)
    · rw [upd_ne z]
      exact e
theorem Kp.new {m : List Addr} {H : Hp} {a : Addr} {o : HO} (h : H a = none) : Kp m H m (upd H a o) := .at_ fun u e => by rw [h] at e; cases e
section
variable {K : PySem.W.Frag} {H H' : Hp} {m m' : List Addr}
theorem TupAt.kp (k : Kp m H m' H') {a : Addr} {xs : List V} (h : TupAt K H a xs) : TupAt K H' a xs := by
  rcases h with h | h | ⟨o, h⟩
  · exact .inl (k.tup _ _ h)
  · exact .inr (.inl h)
  · exact .inr (.inr ⟨o, k.frz _ _ _ h⟩)
theorem SqF.kp (k : Kp m H m' H') {a : Addr} {ns : List Int} (h : SqF K H a ns) : SqF K H' a ns := by
  rcases h with ⟨o, h⟩ | h
  · exact .inl ⟨o, k.frz _ _ _ h⟩
  · exact .inr h
mutual
theorem VR.kpA (k : Kp m H m' H') : ∀ (v : Val) (u : V), VR K H m u v → VR K H' m' u v
  | .non, _, h => by cases h; exact .non
  | .bl b, _, h => by cases h; exact .bl _
  | .int i, _, h => by cases h; exact .int _
  | .str x, _, h => by cases h; exact .str _
  | .ref n, _, h => by
    cases h with
    | ref e => exact .ref (k.get e)
  | .scr ns, _, h => by
    cases h with
    | scr e => exact .scr (e.kp k)
  | .lam f c q us vs, _, h => by
    cases h with
    | lam e r => exact .lam (k.cod _ _ e) (VRs.kpA k vs _ r)
  | .exc a dd c vs, _, h => by
    cases h with
    | exc e l r => exact .exc (k.xd _ _ e) l (VRs.kpA k vs _ r)
  | .ptu vs, _, h => by
    cases h with
    | ptu e d r => exact .ptu (k.frz _ _ _ e) d (VRs.kpA k vs _ r)
  | .fn q a, _, h => by cases h; exact .fn _ _
  | .tup vs, _, h => by
    cases h with
    | tup e r => exact .tup (e.kp k) (VRs.kpA k vs _ r)
theorem VRs.kpA (k : Kp m H m' H') : ∀ (vs : List Val) (us : List V), VRs K H m us vs → VRs K H' m' us vs
  | [], _, h => by cases h; exact .nil
  | v :: vs, _, h => by
    cases h with
    | cons a r => exact .cons (VR.kpA k v _ a) (VRs.kpA k vs _ r)
end
theorem VR.kp {u : V} {v : Val} (h : VR K H m u v) (k : Kp m H m' H') : VR K H' m' u v := VR.kpA k v u h
theorem VRs.kp {us : List V} {vs : List Val} (h : VRs K H m us vs) (k : Kp m H m' H') : VRs K H' m' us vs := VRs.kpA k vs us h
theorem VRs.len : ∀ {us : List V} {vs : List Val}, VRs K H m us vs → us.length = vs.length
  | _, _, .nil => rfl
  | _, _, .cons _ r => by rw [List.length_cons, List.length_cons, r.len]
theorem VRs.get : ∀ {us : List V} {vs : List Val} {i : Nat} {v : Val}, VRs K H m us vs → vs[i]? = some v → ∃ u, us[i]? = some u ∧ VR K H m u v
  | _, _, _, _, .nil, e => by simp at e
  | _, _, 0, _, .cons a q, e => by
    cases e
    exact ⟨_, rfl, a⟩
  | _, _, i + 1, _, .cons a q, e => q.get (i := i) e
theorem VRs.app : ∀ {us ws : List V} {vs xs : List Val}, VRs K H m us vs → VRs K H m ws xs → VRs K H m (us ++ ws) (vs ++ xs)
  | _, _, _, _, .nil, r => r
  | _, _, _, _, .cons a q, r => .cons a (q.app r)
theorem VRs.take : ∀ {us : List V} {vs : List Val} (n : Nat), VRs K H m us vs → VRs K H m (us.take n) (vs.take n)
  | _, _, 0, _ => .nil
  | _, _, _ + 1, .nil => .nil
  | _, _, n + 1, .cons a q => .cons a (q.take n)
theorem VRs.drop : ∀ {us : List V} {vs : List Val} (n : Nat), VRs K H m us vs → VRs K H m (us.drop n) (vs.drop n)
  | _, _, 0, h => h
  | _, _, _ + 1, .nil => .nil
  | _, _, n + 1, .cons a q => q.drop n
theorem VRs.set {u : V} {v : Val} (h : VR K H m u v) : ∀ {us : List V} {vs : List Val} (n : Nat), VRs K H m us vs → VRs K H m (us.set n u) (vs.set n v)
  | _, _, _, .nil => .nil
  | _, _, 0, .cons a q => .cons h q
  | _, _, n + 1, .cons a q => .cons a (q.set h n)
theorem VR.one {u : V} {v : Val} (h : VR K H m u v) : VRs K H m [u] [v] := .cons h .nil
end
variable [TT]

def OR (K : PySem.W.Frag) (H : Hp) (m : List Addr) (a : Addr) : Ob → Prop
  | .lst vs => ∃ xs, H a = some (.lst xs) ∧ VRs K H m xs vs
  | .dic kvs => ∃ xs : List (Key × V), H a = some (.dK xs) ∧ xs.map (·.1) = kvs.map (·.1) ∧ VRs K H m (xs.map (·.2)) (kvs.map (·.2))
  | .set w f n => H a = some (SetO w a f n)
  | .obj C fs => ∃ (dx : Addr) (xs : List (Str × V)), H a = some (.ins (TT.cls C) dx xs) ∧ xs.map (·.1) = fs.map (·.1) ∧ VRs K H m (xs.map (·.2)) (fs.map (·.2))
structure Rel (K : PySem.W.Frag) (m : List Addr) (S : Sto) (H : Hp) : Prop where
  len : m.length = S.length
  nd : m.Nodup
  ob : ∀ (n : Nat) (o : Ob) (a : Addr), S[n]? = some o → m[n]? = some a → OR K H m a o
  tb : LamT.Tabs TT.T H
structure Ext (m : List Addr) (H : Hp) (m' : List Addr) (H' : Hp) : Prop where
  pre : ∃ r, m' = m ++ r
  fr' : ∀ a o, H a = some o → a ∉ m → (∀ ps, o ≠ .tbl ps) → H' a = some o
  nw' : ∀ a o, a ∈ m' → a ∉ m → H a = some o → ∃ ps, o = .tbl ps
section
variable {K : PySem.W.Frag} {H H' H2 : Hp} {m m' m2 : List Addr} {S S' : Sto}
omit [TT] in
theorem Ext.refl (m : List Addr) (H : Hp) : Ext m H m H := ⟨⟨[], (List.append_nil m).symm⟩, fun _ _ h _ _ => h, fun _ _ h n => absurd h n⟩
omit [TT] in
theorem Ext.fr (e : Ext m H m' H') (a : Addr) (o : HO) (h : H a = some o) (n : a ∉ m) (t : ∀ ps, o ≠ .tbl ps := by intro ps z; cases z) : H' a = some o := e.fr' a o h n t
omit [TT] in
theorem Ext.no (e : Ext m H m' H') {a : Addr} {o : HO} (h : H a = some o) (n : a ∉ m) (t : ∀ ps, o ≠ .tbl ps := by intro ps z; cases z) : a ∉ m' := fun z => by
  obtain ⟨ps, e⟩ := e.nw' a o z n h
  exact t ps e
omit [TT] in
theorem Ext.mem (e : Ext m H m' H') {a : Addr} (h : a ∈ m) : a ∈ m' := by
  obtain ⟨r, rfl⟩ := e.pre
  exact List.mem_append_left _ h
omit [TT] in
theorem Ext.trans (a : Ext m H m' H') (b : Ext m' H' m2 H2) : Ext m H m2 H2 := by
  refine ⟨?_, fun x o h n t => b.fr' x o (a.fr' x o h n t) (a.no h n t) t, fun x o h n e => ?_⟩
  · obtain ⟨r, rfl⟩ := a.pre
    obtain ⟨q, rfl⟩ := b.pre
    exact ⟨r ++ q, List.append_assoc ..⟩
  · by_cases t : ∀ ps, o ≠ .tbl ps
    · exact b.nw' x o h (a.no e n t) (a.fr' x o e n t)
    · simpa using t
theorem Rel.find (R : Rel K m S H) {n : Nat} {a : Addr} (h : m[n]? = some a) : ∃ o, S[n]? = some o ∧ OR K H m a o := by
  have l := (List.getElem?_eq_some_iff.mp h).1
  have l2 : n < S.length := by rw [← R.len]; exact l
  exact ⟨S[n], List.getElem?_eq_getElem l2, R.ob n _ a (List.getElem?_eq_getElem l2) h⟩
theorem OR.some {a : Addr} {o : Ob} (h : OR K H m a o) : ∃ u, H a = some u ∧ Mut a u := by
  cases o with
  | lst vs => obtain ⟨xs, h, _⟩ := h; exact ⟨_, h, .inl ⟨xs, rfl⟩⟩
  | dic kvs => obtain ⟨xs, h, _⟩ := h; exact ⟨_, h, .inr (.inl ⟨xs, rfl⟩)⟩
  | set w f n => exact ⟨_, h, .inr (.inr (.inr ⟨w, f, n, rfl⟩))⟩
  | obj C fs => obtain ⟨dx, xs, h, _⟩ := h; exact ⟨_, h, .inr (.inr (.inl ⟨_, dx, xs, rfl⟩))⟩
theorem Rel.held (R : Rel K m S H) {a : Addr} (h : a ∈ m) : ∃ u, H a = some u ∧ Mut a u := by
  obtain ⟨n, hn⟩ := List.getElem?_of_mem h
  obtain ⟨o, _, q⟩ := R.find hn
  exact q.some
theorem Rel.off_ (R : Rel K m S H) {a : Addr} {u : HO} (h : H a = some u) (hu : ¬ Mut a u) : a ∉ m := fun z => by
  obtain ⟨u', e, hm⟩ := R.held z
  rw [h] at e
  cases e
  exact hu hm
theorem Rel.noTup (R : Rel K m S H) {a : Addr} {xs : List V} (h : H a = some (.tup xs)) : a ∉ m := R.off_ h fun z => z.ne.1 xs rfl
theorem Rel.noFrz (R : Rel K m S H) {a : Addr} {o : Obj} {u : HO} (h : H a = some (.frz o u)) : a ∉ m := R.off_ h fun z => z.ne.2.1 o u rfl
theorem Rel.noXd (R : Rel K m S H) {a : Addr} {fs : List (Str × V)} (h : H a = some (.xd fs)) : a ∉ m := R.off_ h fun z => z.ne.2.2.1 fs rfl
theorem Rel.noCod (R : Rel K m S H) {a : Addr} {q : Str} (h : H a = some (LamX.CodeO a q)) : a ∉ m := R.off_ h fun z => z.ne.2.2.2.1 q rfl
theorem Rel.noTbl (R : Rel K m S H) {a : Addr} {ps : Array Value} (h : H a = some (.tbl ps)) : a ∉ m := R.off_ h fun z => z.ne.2.2.2.2 ps rfl
theorem Rel.noNone (R : Rel K m S H) {a : Addr} (h : H a = none) : a ∉ m := fun z => by
  obtain ⟨u', e, _⟩ := R.held z
  rw [h] at e
  cases e

theorem Rel.kput (R : Rel K m S H) {a : Addr} {o : HO} (h : a ∈ m) : Kp m H m (upd H a o) := .at_ fun u e => by
  obtain ⟨u', e', hm⟩ := R.held h
  rw [e] at e'
  cases e'
  exact hm
theorem Ext.kp (R : Rel K m S H) (e : Ext m H m' H') : Kp m H m' H' := ⟨e.pre, fun a xs h => e.fr a _ h (R.noTup h), fun a o u h => e.fr a _ h (R.noFrz h), fun a xs h => e.fr a _ h (R.noXd h), fun a q h => e.fr' a _ h (R.noCod h) LamX.codeO_ne⟩
theorem OR.kp {a : Addr} {o : Ob} (h : OR K H m a o) (k : Kp m H m' H') (e : H' a = H a) : OR K H' m' a o := by
  cases o with
  | lst vs => obtain ⟨xs, h, r⟩ := h; exact ⟨xs, e.trans h, r.kp k⟩
  | dic kvs => obtain ⟨xs, h, q, r⟩ := h; exact ⟨xs, e.trans h, q, r.kp k⟩
  | set w f n => exact e.trans h
  | obj C fs => obtain ⟨dx, xs, h, q, r⟩ := h; exact ⟨dx, xs, e.trans h, q, r.kp k⟩

theorem tabs_kp {T : List LamT.TE} (h : LamT.Tabs T H) (k : Kp m H m' H') (t : ∀ P ps, H P = some (.tbl ps) → H' P = some (.tbl ps)) : LamT.Tabs T H' := fun p hp => by
  obtain ⟨ps, h1, h2, h3⟩ := h p hp
  refine ⟨ps, t _ _ h1, h2, fun pos cv l1 l2 hc => ?_⟩
  obtain ⟨c, e1, e2⟩ := h3 pos cv l1 l2 hc
  exact ⟨c, e1, k.cod _ _ e2⟩
theorem Rel.off (R : Rel K m S H) (k : Kp m H m H') (e : ∀ a ∈ m, H' a = H a) (t : ∀ P ps, H P = some (.tbl ps) → H' P = some (.tbl ps)) : Rel K m S H' :=
  ⟨R.len, R.nd, fun n o a h1 h2 => (R.ob n o a h1 h2).kp k (e a (List.mem_of_getElem? h2)), tabs_kp R.tb k t⟩
omit [TT] in
theorem tbl_at {a P : Addr} {o u : HO} {ps : Array Value} (h : H a = some u) (hu : ∀ ps, u ≠ .tbl ps) (e : H P = some (.tbl ps)) : upd H a o P = some (.tbl ps) := by
  rw [upd_ne fun z => ?_]
  · exact e
  · rw [z, h] at e
    cases e
    exact hu _ rfl
omit [TT] in
theorem Ext.off (e : ∀ a o, H a = some o → a ∉ m → H' a = some o) : Ext m H m H' := ⟨⟨[], (List.append_nil m).symm⟩, fun a o h n _ => e a o h n, fun _ _ h n => absurd h n⟩

theorem Rel.tmp (R : Rel K m S H) {p : Addr} {o : HO} (h : H p = none) : Rel K m S (upd H p o) ∧ Ext m H m (upd H p o) := by
  refine ⟨R.off (.new h) (fun a ha => upd_ne fun z => R.noNone h (z ▸ ha)) fun P ps e => by rw [upd_ne (ne_of_none e h)]; exact e, .off fun a o' e n => ?_⟩
  rw [upd_ne (ne_of_none e h)]
  exact e

theorem Rel.alloc (R : Rel K m S H) {p : Addr} {o : HO} {b : Ob} (h : H p = none) (hb : OR K (upd H p o) (m ++ [p]) p b) : Rel K (m ++ [p]) (S ++ [b]) (upd H p o) ∧ Ext m H (m ++ [p]) (upd H p o) := by
  have k : Kp m H (m ++ [p]) (upd H p o) := .grow [p] (.new h)
  have np := R.noNone h
  refine ⟨⟨by simp [R.len], ?_, fun n o' a h1 h2 => ?_, tabs_kp R.tb k fun P ps e => by rw [upd_ne (ne_of_none e h)]; exact e⟩, ⟨⟨[p], rfl⟩, fun a o' e n _ => ?_, fun a o' ha n e => ?_⟩⟩
  · rw [List.nodup_append]
    refine ⟨R.nd, by simp, fun a ha b hb z => ?_⟩
    simp only [List.mem_singleton] at hb
    exact np (hb ▸ z ▸ ha)
  · by_cases hn : n < S.length
    · rw [List.getElem?_append_left hn] at h1
      rw [List.getElem?_append_left (by rw [R.len]; exact hn)] at h2
      refine (R.ob n o' a h1 h2).kp k (upd_ne fun z => np (z ▸ List.mem_of_getElem? h2))
    · have e : n = S.length := by
        have := (List.getElem?_eq_some_iff.mp h1).1
        simp only [List.length_append, List.length_singleton] at this
        omega
      subst e
      rw [List.getElem?_concat_length] at h1
      rw [← R.len, List.getElem?_concat_length] at h2
      cases h1
      cases h2
      exact hb
  · rw [upd_ne (ne_of_none e h)]
    exact e
  · rcases List.mem_append.mp ha with q | q
    · exact absurd q n
    · simp only [List.mem_singleton] at q
      rw [q, h] at e
      cases e

theorem Rel.put (R : Rel K m S H) {n : Nat} {a : Addr} {o : HO} {b : Ob} (h : m[n]? = some a) (hb : OR K (upd H a o) m a b) : Rel K m (S.set n b) (upd H a o) ∧ Ext m H m (upd H a o) := by
  have ha := List.mem_of_getElem? h
  have k : Kp m H m (upd H a o) := R.kput ha
  refine ⟨⟨by simp [R.len], R.nd, fun n' o' a' h1 h2 => ?_, tabs_kp R.tb k fun P ps e => by rw [upd_ne (show P ≠ a from fun z => R.noTbl e (z ▸ ha))]; exact e⟩, .off fun x o' e nx => ?_⟩
  · by_cases z : n' = n
    · subst z
      rw [h] at h2
      cases h2
      have l := (List.getElem?_eq_some_iff.mp h1).1
      rw [List.length_set] at l
      rw [List.getElem?_set_self l] at h1
      cases h1
      exact hb
    · rw [List.getElem?_set_ne (Ne.symm z)] at h1
      refine (R.ob n' o' a' h1 h2).kp k (upd_ne fun q => z ?_)
      have l1 := (List.getElem?_eq_some_iff.mp h).1
      have l2 := (List.getElem?_eq_some_iff.mp h2).1
      rw [← q] at h
      exact (List.getElem?_inj l2 R.nd).mp (h2.trans h.symm)
  · rw [upd_ne (show x ≠ a from fun z => nx (z ▸ ha))]
    exact e
end
structure RhoR (K : PySem.W.Frag) (H : Hp) (m : List Addr) (ρ : Rho) (σ : L2.St) : Prop where
  len : ρ.length = σ.length
  at_ : ∀ (i : Nat) (v : Val), ρ[i]? = some (some v) → ∃ u, σ[i]? = some (some u) ∧ VR K H m u v
section
variable {K : PySem.W.Frag} {H H' : Hp} {m m' : List Addr} {ρ : Rho} {σ : L2.St}
theorem RhoR.kp (r : RhoR K H m ρ σ) (k : Kp m H m' H') : RhoR K H' m' ρ σ := ⟨r.len, fun i v h => let ⟨u, h1, h2⟩ := r.at_ i v h; ⟨u, h1, h2.kp k⟩⟩
theorem RhoR.set (r : RhoR K H m ρ σ) {u : V} {v : Val} (h : VR K H m u v) (i : Nat) : RhoR K H m (ρ.set i (some v)) (σ.set i (some u)) := by
  refine ⟨by simp [r.len], fun j w e => ?_⟩
  by_cases z : i = j
  · subst z
    have l := (List.getElem?_eq_some_iff.mp e).1
    rw [List.length_set] at l
    rw [List.getElem?_set_self l] at e
    cases e
    exact ⟨u, List.getElem?_set_self (by rw [← r.len]; exact l), h⟩
  · rw [List.getElem?_set_ne z] at e
    rw [List.getElem?_set_ne z]
    exact r.at_ j w e
theorem RhoR.unset (r : RhoR K H m ρ σ) (i : Nat) (o : Option V) : RhoR K H m (ρ.set i none) (σ.set i o) := by
  refine ⟨by simp [r.len], fun j w e => ?_⟩
  by_cases z : i = j
  · subst z
    have l := (List.getElem?_eq_some_iff.mp e).1
    rw [List.length_set] at l
    rw [List.getElem?_set_self l] at e
    cases e
  · rw [List.getElem?_set_ne z] at e
    rw [List.getElem?_set_ne z]
    exact r.at_ j w e
end
end AL
namespace AL
open PySem PySem.Spec PyProof.Rows L2 G
variable [TT]
abbrev EF := Rho → Sto → Option (Val × Sto)
abbrev BF := Rho → Sto → Option (Bool × Sto)
abbrev AF := Rho → Sto → Option (List Val × Sto)
def tF (K : PySem.W.Frag) (f : EF) : TE := fun σ H Q => ∃ m ρ S v S', Rel K m S H ∧ RhoR K H m ρ σ ∧ f ρ S = some (v, S') ∧ ∀ m' u H', Ext m H m' H' → Rel K m' S' H' → VR K H' m' u v → Q u H'
def tFb (K : PySem.W.Frag) (f : BF) : L2.TT := fun σ H Q => ∃ m ρ S b S', Rel K m S H ∧ RhoR K H m ρ σ ∧ f ρ S = some (b, S') ∧ ∀ m' H', Ext m H m' H' → Rel K m' S' H' → Q b H'
def tFa (K : PySem.W.Frag) (f : AF) : TA := fun σ H Q => ∃ m ρ S vs S', Rel K m S H ∧ RhoR K H m ρ σ ∧ f ρ S = some (vs, S') ∧ ∀ m' us H', Ext m H m' H' → Rel K m' S' H' → VRs K H' m' us vs → Q us H'
abbrev AE (X : Cx) (e : Expr) (f : EF) : Prop := PE X e (tF X.K f)
abbrev AT (X : Cx) (e : Expr) (f : BF) : Prop := PT X e (tFb X.K f)
abbrev AW (X : Cx) (e : Expr) (f : BF) : Prop := PW X e (tFb X.K f)
abbrev AA (X : Cx) (es : List Expr) (f : AF) : Prop := PA X es (tFa X.K f)
section
variable {X : Cx} {e a b c : Expr} {es : List Expr} {pos : Pos} {f fa fb fc : EF} {K : PySem.W.Frag}
theorem pe_w {t t' : TE} (h : PE X e t) (hi : ∀ σ H Q, t' σ H Q → t σ H Q) : PE X e t' := ⟨fun pins s σ H Q I hq => h.run pins s σ H Q I (hi σ H Q hq)⟩
theorem pt_w {t t' : L2.TT} (h : PT X e t) (hi : ∀ σ H Q, t' σ H Q → t σ H Q) : PT X e t' := ⟨fun pins s σ H Q I hq => h.run pins s σ H Q I (hi σ H Q hq)⟩
theorem pw_w {t t' : L2.TT} (h : PW X e t) (hi : ∀ σ H Q, t' σ H Q → t σ H Q) : PW X e t' := ⟨fun w pins s σ H Q I hq => h.run w pins s σ H Q I (hi σ H Q hq)⟩
theorem pa_w {t t' : TA} (h : PA X es t) (hi : ∀ σ H Q, t' σ H Q → t σ H Q) : PA X es t' := ⟨fun p pins s σ H Q I hq => h.run p pins s σ H Q I (hi σ H Q hq)⟩
def eV (i : Nat) : EF := fun ρ S => match ρ[i]? with
  | some (some v) => some (v, S)
  | _ => none
def eC (v : Val) : EF := fun _ S => some (v, S)
theorem av (i : Nat) {x : Str} (hN : X.N[i]? = some x := by rfl) (hv : Vis X.env.scope x := by first | exact Or.inl rfl | exact Or.inr (Or.inl rfl) | exact Or.inr (Or.inr rfl)) (hd : (x == ("__debug__" : Str)) = false := by decide)
    (hcd : (x == ("__classdict__" : Str)) = false := by decide) : AE X (.Name x pos) (eV i) := by
  refine pe_w (pe_var hN hv hd hcd) fun σ H Q h => ?_
  obtain ⟨m, ρ, S, v, S', R, r, e, q⟩ := h
  unfold eV at e
  split at e
  · next w hw =>
    cases e
    obtain ⟨u, h1, h2⟩ := r.at_ i _ hw
    exact ⟨u, h1, q m u H (.refl _ _) R h2⟩
  · cases e
theorem ac {u : V} {v : Val} (h : PE X e (tC u)) (hv : ∀ H m, VR X.K H m u v) : AE X e (eC v) := by
  refine pe_w h fun σ H Q h => ?_
  obtain ⟨m, ρ, S, w, S', R, r, e, q⟩ := h
  cases e
  exact q m u H (.refl _ _) R (hv H m)
theorem ai {i : Int} {j : Nat} : AE X (.Constant (.int i) j pos) (eC (.int i)) := ac pe_int fun _ _ => .int i
theorem abl {i : Bool} {j : Nat} : AE X (.Constant (.bool i) j pos) (eC (.bl i)) := ac pe_bl fun _ _ => .bl i
theorem an {j : Nat} : AE X (.Constant .none j pos) (eC .non) := ac pe_non fun _ _ => .non
theorem astr {x : Str} {j : Nat} : AE X (.Constant (.str x) j pos) (eC (.str x)) := ac pe_str fun _ _ => .str x
def eB (g : Val → Val → Sto → Option (Val × Sto)) (fa fb : EF) : EF := fun ρ S => (fa ρ S).bind fun p => (fb ρ p.2).bind fun q => g p.1 q.1 q.2
def OpA (K : PySem.W.Frag) (r : R2) (g : Val → Val → Sto → Option (Val × Sto)) : Prop := ∀ m S H x y v S' u w Q, Rel K m S H → VR K H m u x → VR K H m w y → g x y S = some (v, S') →
  (∀ m' z H', Ext m H m' H' → Rel K m' S' H' → VR K H' m' z v → Q z H') → r u w H Q
theorem eB_ok {r : R2} {g : Val → Val → Sto → Option (Val × Sto)} (hg : OpA K r g) {σ : L2.St} {H : Hp} {Q : VK} (h : tF K (eB g fa fb) σ H Q) : tOp r (tF K fa) (tF K fb) σ H Q := by
  obtain ⟨m, ρ, S, v, S', R, r, e, q⟩ := h
  obtain ⟨⟨x, S1⟩, e1, e⟩ := Option.bind_eq_some_iff.mp e
  obtain ⟨⟨y, S2⟩, e2, e⟩ := Option.bind_eq_some_iff.mp e
  refine ⟨m, ρ, S, x, S1, R, r, e1, fun m1 u H1 E1 R1 r1 => ⟨m1, ρ, S1, y, S2, R1, r.kp (E1.kp R), e2, fun m2 w H2 E2 R2 r2 => ?_⟩⟩
  exact hg m2 S2 H2 x y v S' u w Q R2 (r1.kp (E2.kp R1)) r2 e fun m3 z H3 E3 R3 r3 => q m3 z H3 ((E1.trans E2).trans E3) R3 r3
theorem aop {op : Operator} {r : R2} {g : Val → Val → Sto → Option (Val × Sto)} (ho : OpR X (binaryOp op) r) (hg : OpA X.K r g) (ha : AE X a fa) (hb : AE X b fb) : AE X (.BinOp a op b pos) (eB g fa fb) := pe_w (pe_op ho ha hb) fun _ _ _ h => eB_ok hg h
theorem acm {op : CmpOp} {r : R2} {g : Val → Val → Sto → Option (Val × Sto)} (ho : OpR X (compareOp op) r) (hg : OpA X.K r g) (ha : AE X a fa) (hb : AE X b fb) (hm : behindInMarks op b = false) : AE X (.Compare a [op] [b] pos) (eB g fa fb) := pe_w (pe_cmpR ho ha hb hm) fun _ _ _ h => eB_ok hg h
def eT (f : EF) : BF := fun ρ S => (f ρ S).bind fun p => match p.1 with
  | .bl b => some (b, p.2)
  | _ => none
theorem eT_ok {σ : L2.St} {H : Hp} {Q : Bool → Hp → Prop} (h : tFb K (eT f) σ H Q) : tF K f σ H fun x H' => ∃ k, x = .bl k ∧ Q k H' := by
  obtain ⟨m, ρ, S, v, S', R, r, e, q⟩ := h
  obtain ⟨⟨x, S1⟩, e1, e⟩ := Option.bind_eq_some_iff.mp e
  refine ⟨m, ρ, S, x, S1, R, r, e1, fun m1 u H1 E1 R1 r1 => ?_⟩
  cases x <;> try cases e
  cases r1
  exact ⟨_, rfl, q m1 H1 E1 R1⟩
theorem atc {op : CmpOp} {r : R2} {g : Val → Val → Sto → Option (Val × Sto)} (ho : OpR X (compareOp op) r) (hg : OpA X.K r g) (ha : AE X a fa) (hb : AE X b fb) (hm : behindInMarks op b = false) : AT X (.Compare a [op] [b] pos) (eT (eB g fa fb)) := pt_w (pt_cmpR ho ha hb hm) fun _ _ _ h => eB_ok hg (eT_ok h)
theorem atv (ha : AE X e f) (he : ∀ whole, isTrue e X.env whole = (do let v ← whole; standAt e.pos; holding [v] (truthy v)) := by intro _; rfl) : AT X e (eT f) := pt_w (pt_val ha he) fun _ _ _ h => eT_ok h
def bAnd (f g : BF) : BF := fun ρ S => (f ρ S).bind fun p => if p.1 then g ρ p.2 else some (false, p.2)
def bOr (f g : BF) : BF := fun ρ S => (f ρ S).bind fun p => if p.1 then some (true, p.2) else g ρ p.2
def bNot (f : BF) : BF := fun ρ S => (f ρ S).bind fun p => some (!p.1, p.2)
variable {g1 g2 : BF} {rest : List Expr}
theorem aw1 (h : AT X a g1) : AW X (.BoolOp .And [a] pos) g1 := pw_and1 h
theorem awo1 (h : AT X a g1) : AW X (.BoolOp .Or [a] pos) g1 := pw_or1 h
theorem aw (h : AT X a g1) (h2 : AW X (.BoolOp .And (b :: rest) pos) g2) : AW X (.BoolOp .And (a :: b :: rest) pos) (bAnd g1 g2) := by
  refine pw_w (pw_and h h2) fun σ H Q h => ?_
  obtain ⟨m, ρ, S, v, S', R, r, e, q⟩ := h
  obtain ⟨⟨x, S1⟩, e1, e⟩ := Option.bind_eq_some_iff.mp e
  refine ⟨m, ρ, S, x, S1, R, r, e1, fun m1 H1 E1 R1 => ?_⟩
  cases x with
  | true => exact ⟨m1, ρ, S1, v, S', R1, r.kp (E1.kp R), e, fun m2 H2 E2 R2 => q m2 H2 (E1.trans E2) R2⟩
  | false =>
    cases e
    exact q m1 H1 E1 R1
theorem awo (h : AT X a g1) (h2 : AW X (.BoolOp .Or (b :: rest) pos) g2) : AW X (.BoolOp .Or (a :: b :: rest) pos) (bOr g1 g2) := by
  refine pw_w (pw_or h h2) fun σ H Q h => ?_
  obtain ⟨m, ρ, S, v, S', R, r, e, q⟩ := h
  obtain ⟨⟨x, S1⟩, e1, e⟩ := Option.bind_eq_some_iff.mp e
  refine ⟨m, ρ, S, x, S1, R, r, e1, fun m1 H1 E1 R1 => ?_⟩
  cases x with
  | true =>
    cases e
    exact q m1 H1 E1 R1
  | false => exact ⟨m1, ρ, S1, v, S', R1, r.kp (E1.kp R), e, fun m2 H2 E2 R2 => q m2 H2 (E1.trans E2) R2⟩
theorem atw (h : AW X e g1) : AT X e g1 := PW.pt h
theorem atn (h : AT X a g1) : AT X (.UnaryOp .Not a pos) (bNot g1) := by
  refine pt_w (pt_not h) fun σ H Q h => ?_
  obtain ⟨m, ρ, S, v, S', R, r, e, q⟩ := h
  obtain ⟨⟨x, S1⟩, e1, e⟩ := Option.bind_eq_some_iff.mp e
  cases e
  exact ⟨m, ρ, S, x, _, R, r, e1, q⟩

def eAnd (f g : EF) : EF := fun ρ S => (f ρ S).bind fun p => match p.1 with
  | .bl true => g ρ p.2
  | .bl false => some (.bl false, p.2)
  | _ => none
def eOr (f g : EF) : EF := fun ρ S => (f ρ S).bind fun p => match p.1 with
  | .bl true => some (.bl true, p.2)
  | .bl false => g ρ p.2
  | _ => none
def eNot (f : EF) : EF := fun ρ S => (f ρ S).bind fun p => match p.1 with
  | .bl b => some (.bl (!b), p.2)
  | _ => none
theorem ae1 {op : BoolOp} (h : AE X a f) : AE X (.BoolOp op [a] pos) f := pe_one h
theorem aand (h : AE X a fa) (h2 : AE X (.BoolOp .And (b :: rest) pos) fb) : AE X (.BoolOp .And (a :: b :: rest) pos) (eAnd fa fb) := by
  refine pe_w (pe_and h h2) fun σ H Q h => ?_
  obtain ⟨m, ρ, S, v, S', R, r, e, q⟩ := h
  obtain ⟨⟨x, S1⟩, e1, e⟩ := Option.bind_eq_some_iff.mp e
  refine ⟨m, ρ, S, x, S1, R, r, e1, fun m1 u H1 E1 R1 r1 => ?_⟩
  cases x <;> try cases e
  rename_i k
  cases r1
  refine ⟨k, rfl, ?_⟩
  cases k with
  | true => exact ⟨m1, ρ, S1, v, S', R1, r.kp (E1.kp R), e, fun m2 u H2 E2 R2 r2 => q m2 u H2 (E1.trans E2) R2 r2⟩
  | false =>
    cases e
    exact q m1 _ H1 E1 R1 (.bl _)
theorem anot (h : AE X a fa) : AE X (.UnaryOp .Not a pos) (eNot fa) := by
  refine pe_w (pe_not h) fun σ H Q h => ?_
  obtain ⟨m, ρ, S, v, S', R, r, e, q⟩ := h
  obtain ⟨⟨x, S1⟩, e1, e⟩ := Option.bind_eq_some_iff.mp e
  refine ⟨m, ρ, S, x, S1, R, r, e1, fun m1 u H1 E1 R1 r1 => ?_⟩
  cases x <;> cases e
  rename_i k
  cases r1
  exact ⟨k, rfl, q m1 _ H1 E1 R1 (.bl _)⟩
def eIf (t : BF) (fa fb : EF) : EF := fun ρ S => (t ρ S).bind fun p => if p.1 then fa ρ p.2 else fb ρ p.2
theorem aif (hc : AT X c g1) (ha : AE X a fa) (hb : AE X b fb) : AE X (.IfExp c a b pos) (eIf g1 fa fb) := by
  refine pe_w (pe_ifExp hc ha hb) fun σ H Q h => ?_
  obtain ⟨m, ρ, S, v, S', R, r, e, q⟩ := h
  obtain ⟨⟨x, S1⟩, e1, e⟩ := Option.bind_eq_some_iff.mp e
  refine ⟨m, ρ, S, x, S1, R, r, e1, fun m1 H1 E1 R1 => ?_⟩
  cases x with
  | true => exact ⟨m1, ρ, S1, v, S', R1, r.kp (E1.kp R), e, fun m2 u H2 E2 R2 r2 => q m2 u H2 (E1.trans E2) R2 r2⟩
  | false => exact ⟨m1, ρ, S1, v, S', R1, r.kp (E1.kp R), e, fun m2 u H2 E2 R2 r2 => q m2 u H2 (E1.trans E2) R2 r2⟩

def eCh (g g' : Val → Val → Sto → Option (Val × Sto)) (fa fb fc : EF) : EF := fun ρ S => (fa ρ S).bind fun p => (fb ρ p.2).bind fun q => (g p.1 q.1 q.2).bind fun z => match z.1 with
  | .bl true => (fc ρ z.2).bind fun w => g' q.1 w.1 w.2
  | .bl false => some (.bl false, z.2)
  | _ => none
theorem eCh_ok {r r' : R2} {g g' : Val → Val → Sto → Option (Val × Sto)} (hg : OpA K r g) (hg' : OpA K r' g') {σ : L2.St} {H : Hp} {Q : VK} (h : tF K (eCh g g' fa fb fc) σ H Q) : tChain r r' (tF K fa) (tF K fb) (tF K fc) σ H Q := by
  obtain ⟨m, ρ, S, v, S', R, r, e, q⟩ := h
  obtain ⟨⟨x, S1⟩, e1, e⟩ := Option.bind_eq_some_iff.mp e
  obtain ⟨⟨y, S2⟩, e2, e⟩ := Option.bind_eq_some_iff.mp e
  obtain ⟨⟨z, S3⟩, e3, e⟩ := Option.bind_eq_some_iff.mp e
  refine ⟨m, ρ, S, x, S1, R, r, e1, fun m1 u H1 E1 R1 r1 => ⟨m1, ρ, S1, y, S2, R1, r.kp (E1.kp R), e2, fun m2 w H2 E2 R2 r2 => ?_⟩⟩
  refine hg m2 S2 H2 x y z S3 u w _ R2 (r1.kp (E2.kp R1)) r2 e3 fun m3 z' H3 E3 R3 r3 => ?_
  cases z <;> try cases e
  rename_i k
  cases r3
  refine ⟨k, rfl, ?_⟩
  cases k with
  | false =>
    cases e
    exact q m3 _ H3 ((E1.trans E2).trans E3) R3 (.bl _)
  | true =>
    obtain ⟨⟨w', S4⟩, e4, e⟩ := Option.bind_eq_some_iff.mp e
    refine ⟨m3, ρ, S3, w', S4, R3, r.kp (((E1.trans E2).trans E3).kp R), e4, fun m4 w4 H4 E4 R4 r4 => ?_⟩
    exact hg' m4 S4 H4 y w' v S' w w4 Q R4 (r2.kp ((E3.trans E4).kp R2)) r4 e fun m5 z5 H5 E5 R5 r5 => q m5 z5 H5 ((((E1.trans E2).trans E3).trans E4).trans E5) R5 r5
theorem atch {op op' : CmpOp} {r r' : R2} {g g' : Val → Val → Sto → Option (Val × Sto)} (ho : OpR X (compareOp op) r) (hg : OpA X.K r g) (ho' : OpR X (compareOp op') r') (hg' : OpA X.K r' g') (ha : AE X a fa) (hb : AE X b fb) (hc : AE X c fc)
    (hm : lastMarks [op, op'] [b, c] = false := by with_unfolding_all rfl) : AT X (.Compare a [op, op'] [b, c] pos) (eT (eCh g g' fa fb fc)) := pt_w (pt_chain ho ho' ha hb hc hm) fun _ _ _ h => eCh_ok hg hg' (eT_ok h)
def aNil : AF := fun _ S => some ([], S)
def aCons (f : EF) (g : AF) : AF := fun ρ S => (f ρ S).bind fun p => (g ρ p.2).bind fun q => some (p.1 :: q.1, q.2)
variable {ga : AF}
theorem aan : AA X [] aNil := by
  refine pa_w pa_nil fun σ H Q h => ?_
  obtain ⟨m, ρ, S, v, S', R, r, e, q⟩ := h
  cases e
  exact q m [] H (.refl _ _) R .nil
theorem aac (ha : AE X e f) (hr : AA X es ga) (hs : starEach (e :: es) X.env = (false, eval e X.env) :: starEach es X.env := by rfl) : AA X (e :: es) (aCons f ga) := by
  refine pa_w (pa_cons ha hr hs) fun σ H Q h => ?_
  obtain ⟨m, ρ, S, v, S', R, r, e, q⟩ := h
  obtain ⟨⟨x, S1⟩, e1, e⟩ := Option.bind_eq_some_iff.mp e
  obtain ⟨⟨y, S2⟩, e2, e⟩ := Option.bind_eq_some_iff.mp e
  cases e
  exact ⟨m, ρ, S, x, S1, R, r, e1, fun m1 u H1 E1 R1 r1 => ⟨m1, ρ, S1, y, S2, R1, r.kp (E1.kp R), e2, fun m2 w H2 E2 R2 r2 => q m2 _ H2 (E1.trans E2) R2 (.cons (r1.kp (E2.kp R1)) r2)⟩⟩
def eTup (g : AF) : EF := fun ρ S => (g ρ S).bind fun p => if p.1.length ≤ 1000000 then some (.tup p.1, p.2) else none
def eLst (g : AF) : EF := fun ρ S => (g ρ S).bind fun p => if p.1.length ≤ 1000000 then some (.ref p.2.length, p.2 ++ [.lst p.1]) else none
theorem mill {n : Nat} (h : n ≤ 1000000) : n ≤ sizeLine := Nat.le_trans h (by decide)
theorem atup {k : Nat} (h : AA X es ga) : AE X (.Tuple es k pos) (eTup ga) := by
  refine pe_w (pe_tup h) fun σ H Q h => ?_
  obtain ⟨m, ρ, S, v, S', R, r, e, q⟩ := h
  obtain ⟨⟨x, S1⟩, e1, e⟩ := Option.bind_eq_some_iff.mp e
  refine ⟨m, ρ, S, x, S1, R, r, e1, fun m1 us H1 E1 R1 r1 => ?_⟩
  dsimp only at e
  split at e
  · next hl =>
    cases e
    refine ⟨by rw [r1.len]; exact mill hl, fun p hp => ?_⟩
    obtain ⟨R2, E2⟩ := R1.tmp (o := .tup us) hp
    exact q m1 _ _ (E1.trans E2) R2 (.tup (.inl upd_same) (r1.kp (E2.kp R1)))
  · cases e
theorem alst (h : AA X es ga) : AE X (.List es pos) (eLst ga) := by
  refine pe_w (pe_lst h) fun σ H Q h => ?_
  obtain ⟨m, ρ, S, v, S', R, r, e, q⟩ := h
  obtain ⟨⟨x, S1⟩, e1, e⟩ := Option.bind_eq_some_iff.mp e
  refine ⟨m, ρ, S, x, S1, R, r, e1, fun m1 us H1 E1 R1 r1 => ?_⟩
  dsimp only at e
  split at e
  · next hl =>
    cases e
    refine ⟨by rw [r1.len]; exact mill hl, fun p hp => ?_⟩
    have k1 : Kp m1 H1 (m1 ++ [p]) (upd H1 p (.lst us)) := .grow [p] (.new hp)
    obtain ⟨R2, E2⟩ := R1.alloc (o := .lst us) (b := .lst x) hp ⟨us, upd_same, r1.kp k1⟩
    refine q _ _ _ (E1.trans E2) R2 (.ref ?_)
    rw [← R1.len, List.getElem?_concat_length]
  · cases e
def eCall (g : List Val → Sto → Option (Val × Sto)) (ga : AF) : EF := fun ρ S => (ga ρ S).bind fun p => g p.1 p.2
def CaA (K : PySem.W.Frag) (r : List V → Hp → VK → Prop) (g : List Val → Sto → Option (Val × Sto)) : Prop := ∀ m S H xs v S' us Q, Rel K m S H → VRs K H m us xs → g xs S = some (v, S') →
  (∀ m' z H', Ext m H m' H' → Rel K m' S' H' → VR K H' m' z v → Q z H') → r us H Q
theorem eCall_ok {r : List V → Hp → VK → Prop} {g : List Val → Sto → Option (Val × Sto)} (hg : CaA K r g) {σ : L2.St} {H : Hp} {Q : VK} (h : tF K (eCall g ga) σ H Q) : tFa K ga σ H fun us H1 => r us H1 Q := by
  obtain ⟨m, ρ, S, v, S', R, r, e, q⟩ := h
  obtain ⟨⟨x, S1⟩, e1, e⟩ := Option.bind_eq_some_iff.mp e
  exact ⟨m, ρ, S, x, S1, R, r, e1, fun m1 us H1 E1 R1 r1 => hg m1 S1 H1 x v S' us Q R1 r1 e fun m2 z H2 E2 R2 r2 => q m2 z H2 (E1.trans E2) R2 r2⟩
theorem CallR.or {f : Value} {r r' : List V → Hp → VK → Prop} (h : CallR X f r) (h' : CallR X f r') : CallR X f (fun xs H Q => r xs H Q ∨ r' xs H Q) := by
  intro pins s σ H xs us Q I rs q
  rcases q with q | q
  · exact h pins s σ H xs us Q I rs q
  · exact h' pins s σ H xs us Q I rs q
theorem acb {id : String} {x : Str} {p : Pos} {r : List V → Hp → VK → Prop} {g : List Val → Sto → Option (Val × Sto)} (hc : CallR X (.builtin id) r) (hgg : CaA X.K r g) (hg : Gl X x) (hm : X.mg x = none) (hv : bootBuiltins x = some (.builtin id)) (ha : AA X (e :: es) ga) (hn : x ≠ "__name__" := by decide) (hdb : (x == ("__debug__" : Str)) = false := by decide)
    (he : starEach (e :: es) X.env = (false, eval e X.env) :: starEach es X.env := by rfl) (hpl : (backTo pos (starEach es X.env)).any (·.1) = false := by rfl) : AE X (.Call (.Name x p) (e :: es) [] pos) (eCall g ga) :=
  pe_w (pe_callB hc hg hm hv ha hn hdb he hpl) fun _ _ _ h => eCall_ok hgg h
theorem act {T : String} {x : Str} {p : Pos} {r : List V → Hp → VK → Prop} {g : List Val → Sto → Option (Val × Sto)} (hc : CallR X (.type T) r) (hgg : CaA X.K r g) (hg : Gl X x) (hm : X.mg x = none) (hv : bootBuiltins x = some (.type T)) (ha : AA X (e :: es) ga) (hn : x ≠ "__name__" := by decide) (hdb : (x == ("__debug__" : Str)) = false := by decide)
    (he : starEach (e :: es) X.env = (false, eval e X.env) :: starEach es X.env := by rfl) (hpl : (backTo pos (starEach es X.env)).any (·.1) = false := by rfl) : AE X (.Call (.Name x p) (e :: es) [] pos) (eCall g ga) :=
  pe_w (pe_callTy hc hg hm hv ha hn hdb he hpl) fun _ _ _ h => eCall_ok hgg h
abbrev FA := List Val → Sto → Option (Val × Sto)
def spA (K : PySem.W.Frag) (n : Nat) (F : FA) : Sp := fun us H Q _ => us.length = n ∧ ∃ m S vs v S', Rel K m S H ∧ VRs K H m us vs ∧ F vs S = some (v, S') ∧ ∀ m' z H', Ext m H m' H' → Rel K m' S' H' → VR K H' m' z v → Q z H'

structure Def (P : Program) (w : World) (K : PySem.W.Frag) (mg : Str → Option Value) (base : Heap) (k : Nat) (x : Str) (ps : List Str) (F : FA) : Prop where
  ex : ∃ f fd, FnG P w K mg base k f fd ps (spA K ps.length F) ∧ Binds K fd ps [] ∧ mg x = some (.ref f) ∧ PySem.W.keepIn K (.ref f) = true
def eDef (F : FA) (n : Nat) (ga : AF) : EF := fun ρ S => (ga ρ S).bind fun p => if p.1.length = n then F p.1 p.2 else none
theorem acd {k : Nat} {x : Str} {ps : List Str} {F : FA} {p : Pos} (D : Def X.prog X.w X.K X.mg X.base k x ps F) (g : X.A.guards = some []) (hr : Room k X.A) (hgl : Gl X x) (ha : AA X (e :: es) ga) (hdb : (x == ("__debug__" : Str)) = false := by decide)
    (he : starEach (e :: es) X.env = (false, eval e X.env) :: starEach es X.env := by rfl) (hpl : (backTo pos (starEach es X.env)).any (·.1) = false := by rfl) {n : Nat} (hn : ps.length = n := by rfl) : AE X (.Call (.Name x p) (e :: es) [] pos) (eDef F n ga) := by
  subst hn
  obtain ⟨f, fd, hF, hb, hm, hk⟩ := D.ex
  refine pe_w (pe_callG hF g hr hgl hm hk hb ha hdb he hpl) fun σ H Q h => ?_
  obtain ⟨m, ρ, S, v, S', R, r, e, q⟩ := h
  obtain ⟨⟨x, S1⟩, e1, e⟩ := Option.bind_eq_some_iff.mp e
  dsimp only at e
  split at e
  · next hl => exact ⟨m, ρ, S, x, S1, R, r, e1, fun m1 us H1 E1 R1 r1 => ⟨by rw [r1.len]; exact hl, m1, S1, x, v, S', R1, r1, e, fun m2 z H2 E2 R2 r2 => q m2 z H2 (E1.trans E2) R2 r2⟩⟩
  · cases e
def eMt (ok : Val → Sto → Bool) (g : Val → List Val → Sto → Option (Val × Sto)) (fo : EF) (ga : AF) : EF := fun ρ S => (fo ρ S).bind fun p => if ok p.1 p.2 then (ga ρ p.2).bind fun q => g p.1 q.1 q.2 else none
def MtA (K : PySem.W.Frag) (r : V → List V → Hp → VK → Prop) (g : Val → List Val → Sto → Option (Val × Sto)) : Prop := ∀ m S H x xs v S' u us Q, Rel K m S H → VR K H m u x → VRs K H m us xs → g x xs S = some (v, S') →
  (∀ m' z H', Ext m H m' H' → Rel K m' S' H' → VR K H' m' z v → Q z H') → r u us H Q
def TyA (K : PySem.W.Frag) (T : String) (ok : Val → Sto → Bool) : Prop := ∀ m S H u v, Rel K m S H → VR K H m u v → ok v S = true → tyV K T u H
theorem am {o : Expr} {fo : EF} {name : Str} {apos cpos : Pos} {T id : String} {r : V → List V → Hp → VK → Prop} {g : Val → List Val → Sto → Option (Val × Sto)} {ok : Val → Sto → Bool} (pa : PlainAttrs T) (slot : Slot T name id) (hty : typeOf (.builtin id) = pure (.type "method_descriptor")) (hm : MtR X id r) (hg : MtA X.K r g) (ht : TyA X.K T ok) (ho : AE X o fo) (ha : AA X (e :: es) ga)
    (hbase : attributeBase o name X.env (eval o X.env) = eval o X.env := by rfl)
    (hfew : ((backTo cpos (starEach (e :: es) X.env)).all (fun x => !x.1) && (backToKw cpos (keywordEach [] X.env)).all (fun x => x.1.isSome)
      && decide ((e :: es).length + ([] : List Keyword).length + (if ([] : List Keyword).isEmpty then 0 else 1) < 30)) = true := by rfl)
    (hline : (apos.endLine == cpos.line) = true := by rfl) (hs : starEach (e :: es) X.env = (false, eval e X.env) :: starEach es X.env := by rfl) (hplain : (backTo cpos (starEach es X.env)).any (·.1) = false := by rfl) :
    AE X (.Call (.Attribute o name apos) (e :: es) [] cpos) (eMt ok g fo ga) := by
  refine pe_w (pe_bm pa slot hty hm ho ha hbase hfew hline hs hplain) fun σ H Q h => ?_
  obtain ⟨m, ρ, S, v, S', R, r, e, q⟩ := h
  obtain ⟨⟨x, S1⟩, e1, e⟩ := Option.bind_eq_some_iff.mp e
  dsimp only at e
  split at e
  · next hl =>
    obtain ⟨⟨y, S2⟩, e2, e⟩ := Option.bind_eq_some_iff.mp e
    refine ⟨m, ρ, S, x, S1, R, r, e1, fun m1 u H1 E1 R1 r1 => ⟨ht m1 S1 H1 u x R1 r1 hl, m1, ρ, S1, y, S2, R1, r.kp (E1.kp R), e2, fun m2 us H2 E2 R2 r2 => ?_⟩⟩
    exact hg m2 S2 H2 x y v S' u us Q R2 (r1.kp (E2.kp R1)) r2 e fun m3 z H3 E3 R3 r3 => q m3 z H3 ((E1.trans E2).trans E3) R3 r3
  · cases e
def eMt0 (ok : Val → Sto → Bool) (g : Val → List Val → Sto → Option (Val × Sto)) (fo : EF) : EF := fun ρ S => (fo ρ S).bind fun p => if ok p.1 p.2 then g p.1 [] p.2 else none

def eU (g : Val → Sto → Option (Val × Sto)) (fa : EF) : EF := fun ρ S => (fa ρ S).bind fun p => g p.1 p.2
def UnA (K : PySem.W.Frag) (r : V → Hp → VK → Prop) (g : Val → Sto → Option (Val × Sto)) : Prop := ∀ m S H x v S' u Q, Rel K m S H → VR K H m u x → g x S = some (v, S') → (∀ m' z H', Ext m H m' H' → Rel K m' S' H' → VR K H' m' z v → Q z H') → r u H Q
theorem aun {op : UnaryOp} {r : V → Hp → VK → Prop} {g : Val → Sto → Option (Val × Sto)} (ho : UnR X (unaryOp op) r) (hg : UnA X.K r g) (ha : AE X a fa) : AE X (.UnaryOp op a pos) (eU g fa) := by
  refine pe_w (pe_un ho ha) fun σ H Q h => ?_
  obtain ⟨m, ρ, S, v, S', R, r, e, q⟩ := h
  obtain ⟨⟨x, S1⟩, e1, e⟩ := Option.bind_eq_some_iff.mp e
  exact ⟨m, ρ, S, x, S1, R, r, e1, fun m1 u H1 E1 R1 r1 => hg m1 S1 H1 x v S' u Q R1 r1 e fun m2 z H2 E2 R2 r2 => q m2 z H2 (E1.trans E2) R2 r2⟩

abbrev OF := Rho → Sto → Option (Option Int × Sto)
def oN : OF := fun _ S => some (none, S)
def oS (f : EF) : OF := fun ρ S => (f ρ S).bind fun p => match p.1 with
  | .int i => some (some i, p.2)
  | _ => none
def tFo (K : PySem.W.Frag) (f : OF) : TO := fun σ H Q => ∃ m ρ S o S', Rel K m S H ∧ RhoR K H m ρ σ ∧ f ρ S = some (o, S') ∧ ∀ m' H', Ext m H m' H' → Rel K m' S' H' → Q o H'
theorem po_w {o : Option Expr} {t t' : TO} (h : PO X o t) (hi : ∀ σ H Q, t' σ H Q → t σ H Q) : PO X o t' := ⟨fun pins s σ H Q I hq => h.run pins s σ H Q I (hi σ H Q hq)⟩
theorem aon : PO X none (tFo X.K oN) := po_w po_none fun σ H Q h => by
  obtain ⟨m, ρ, S, v, S', R, r, e, q⟩ := h
  cases e
  exact q m H (.refl _ _) R
theorem aos (ha : AE X e f) : PO X (some e) (tFo X.K (oS f)) := po_w (po_some ha) fun σ H Q h => by
  obtain ⟨m, ρ, S, v, S', R, r, e, q⟩ := h
  obtain ⟨⟨x, S1⟩, e1, e⟩ := Option.bind_eq_some_iff.mp e
  refine ⟨m, ρ, S, x, S1, R, r, e1, fun m1 u H1 E1 R1 r1 => ?_⟩
  cases x <;> cases e
  cases r1
  exact ⟨_, rfl, q m1 H1 E1 R1⟩
def eSl (g : Val → Option Int → Option Int → Sto → Option (Val × Sto)) (fa : EF) (lo hi : OF) : EF := fun ρ S => (fa ρ S).bind fun p => (lo ρ p.2).bind fun q => (hi ρ q.2).bind fun z => g p.1 q.1 z.1 z.2
def SlA (K : PySem.W.Frag) (r : V → Option Int → Option Int → Hp → VK → Prop) (g : Val → Option Int → Option Int → Sto → Option (Val × Sto)) : Prop := ∀ m S H x lo hi v S' u Q, Rel K m S H → VR K H m u x → g x lo hi S = some (v, S') →
  (∀ m' z H', Ext m H m' H' → Rel K m' S' H' → VR K H' m' z v → Q z H') → r u lo hi H Q
theorem asl {r : V → Option Int → Option Int → Hp → VK → Prop} {g : Val → Option Int → Option Int → Sto → Option (Val × Sto)} {lo hi : Option Expr} {fl fh : OF} {p2 : Pos} (hs : SlR X r) (hg : SlA X.K r g) (ha : AE X a fa) (hl : PO X lo (tFo X.K fl)) (hh : PO X hi (tFo X.K fh)) : AE X (.Subscript a (.Slice lo hi none p2) pos) (eSl g fa fl fh) := by
  refine pe_w (pe_slice hs ha hl hh) fun σ H Q h => ?_
  obtain ⟨m, ρ, S, v, S', R, r, e, q⟩ := h
  obtain ⟨⟨x, S1⟩, e1, e⟩ := Option.bind_eq_some_iff.mp e
  obtain ⟨⟨y, S2⟩, e2, e⟩ := Option.bind_eq_some_iff.mp e
  obtain ⟨⟨z, S3⟩, e3, e⟩ := Option.bind_eq_some_iff.mp e
  refine ⟨m, ρ, S, x, S1, R, r, e1, fun m1 u H1 E1 R1 r1 => ⟨m1, ρ, S1, y, S2, R1, r.kp (E1.kp R), e2, fun m2 H2 E2 R2 => ⟨m2, ρ, S2, z, S3, R2, r.kp ((E1.trans E2).kp R), e3, fun m3 H3 E3 R3 => ?_⟩⟩⟩
  exact hg m3 S3 H3 x y z v S' u Q R3 (r1.kp ((E2.trans E3).kp R1)) e fun m4 z H4 E4 R4 r4 => q m4 z H4 (((E1.trans E2).trans E3).trans E4) R4 r4
end
end AL
namespace AL
open PySem PySem.Spec PyProof.Rows L2 G
variable [TT]
inductive Res where
  | stuck | nx (ρ : Rho) (S : Sto) | rt (v : Val) (S : Sto) | bk (ρ : Rho) (S : Sto) | ct (ρ : Rho) (S : Sto)
abbrev SF := Rho → Sto → Res
def Post (K : PySem.W.Frag) (m : List Addr) (H : Hp) (D : Ends) : Res → Prop
  | .stuck => False
  | .nx ρ S => ∀ m' σ' H', Ext m H m' H' → Rel K m' S H' → RhoR K H' m' ρ σ' → D.nx σ' H'
  | .rt v S => ∀ m' u H', Ext m H m' H' → Rel K m' S H' → VR K H' m' u v → D.rt u H'
  | .bk ρ S => ∀ m' σ' H', Ext m H m' H' → Rel K m' S H' → RhoR K H' m' ρ σ' → D.bk σ' H'
  | .ct ρ S => ∀ m' σ' H', Ext m H m' H' → Rel K m' S H' → RhoR K H' m' ρ σ' → D.ct σ' H'
theorem Post.ext {K : PySem.W.Frag} {m m1 : List Addr} {H H1 : Hp} {D : Ends} {r : Res} (h : Post K m H D r) (E : Ext m H m1 H1) : Post K m1 H1 D r := by
  cases r with
  | stuck => exact h
  | nx ρ S => exact fun m' σ' H' E' => h m' σ' H' (E.trans E')
  | rt ρ S => exact fun m' σ' H' E' => h m' σ' H' (E.trans E')
  | bk ρ S => exact fun m' σ' H' E' => h m' σ' H' (E.trans E')
  | ct ρ S => exact fun m' σ' H' E' => h m' σ' H' (E.trans E')
def tS (K : PySem.W.Frag) (g : SF) : TS := fun D σ H => ∃ m ρ S, Rel K m S H ∧ RhoR K H m ρ σ ∧ Post K m H D (g ρ S)
abbrev AS (X : Cx) (st : Stmt) (g : SF) : Prop := PS X st (tS X.K g)
abbrev ASs (X : Cx) (sts : List Stmt) (g : SF) : Prop := PSs X sts (tS X.K g)
section
variable {X : Cx} {st : Stmt} {sts rest : List Stmt} {e a b c o i : Expr} {es : List Expr} {pos : Pos} {f fa fb fc : EF} {g g1 g2 : SF} {tb : BF} {K : PySem.W.Frag} {ga : AF}
theorem ps_w {t t' : TS} (h : PS X st t) (hi : ∀ D σ H, t' D σ H → t D σ H) : PS X st t' := ⟨fun pins s σ H D I hq => h.run pins s σ H D I (hi D σ H hq)⟩
theorem pss_w {t t' : TS} (h : PSs X sts t) (hi : ∀ D σ H, t' D σ H → t D σ H) : PSs X sts t' := ⟨fun pins s σ H D I hq => h.run pins s σ H D I (hi D σ H hq)⟩
def sNil : SF := fun ρ S => .nx ρ S
def sSeq (g1 g2 : SF) : SF := fun ρ S => match g1 ρ S with
  | .nx ρ S => g2 ρ S
  | r => r
theorem asn : ASs X [] sNil := pss_w pss_nil fun D σ H h => by
  obtain ⟨m, ρ, S, R, r, p⟩ := h
  exact p m σ H (.refl _ _) R r
theorem asq (h1 : AS X st g1) (h2 : ASs X rest g2) : ASs X (st :: rest) (sSeq g1 g2) := pss_w (pss_cons h1 h2) fun D σ H h => by
  obtain ⟨m, ρ, S, R, r, p⟩ := h
  refine ⟨m, ρ, S, R, r, ?_⟩
  unfold sSeq at p
  cases e : g1 ρ S with
  | nx ρ1 S1 =>
    rw [e] at p
    intro m1 σ1 H1 E1 R1 r1
    exact ⟨m1, ρ1, S1, R1, r1, p.ext E1⟩
  | stuck => rw [e] at p; exact p
  | rt v S1 => rw [e] at p; exact p
  | bk v S1 => rw [e] at p; exact p
  | ct v S1 => rw [e] at p; exact p
theorem as1 (h : AS X st g) : ASs X [st] g := pss_one h
def sExpr (f : EF) : SF := fun ρ S => match f ρ S with
  | some (_, S) => .nx ρ S
  | none => .stuck
theorem asx (he : AE X e f) (hs : swapsWith e none pos.line X.env = pure false := by rfl) : AS X (.Expr e pos) (sExpr f) := ps_w (ps_expr he hs) fun D σ H h => by
  obtain ⟨m, ρ, S, R, r, p⟩ := h
  unfold sExpr at p
  split at p
  · next v S1 e1 => exact ⟨m, ρ, S, v, S1, R, r, e1, fun m1 u H1 E1 R1 r1 => p m1 σ H1 E1 R1 (r.kp (E1.kp R))⟩
  · exact p.elim
def sRet (f : EF) : SF := fun ρ S => match f ρ S with
  | some (v, S) => .rt v S
  | none => .stuck
theorem asr (he : AE X e f) : AS X (.Return (some e) pos) (sRet f) := ps_w (ps_ret he) fun D σ H h => by
  obtain ⟨m, ρ, S, R, r, p⟩ := h
  unfold sRet at p
  split at p
  · next v S1 e1 => exact ⟨m, ρ, S, v, S1, R, r, e1, p⟩
  · exact p.elim
def sIf (t : BF) (g1 g2 : SF) : SF := fun ρ S => match t ρ S with
  | some (true, S) => g1 ρ S
  | some (false, S) => g2 ρ S
  | none => .stuck
theorem asi (hc : AT X c tb) (h1 : ASs X sts g1) (h2 : ASs X rest g2) : AS X (.If c sts rest pos) (sIf tb g1 g2) := ps_w (ps_if hc h1 h2) fun D σ H h => by
  obtain ⟨m, ρ, S, R, r, p⟩ := h
  unfold sIf at p
  split at p
  · next S1 e1 => exact ⟨m, ρ, S, true, S1, R, r, e1, fun m1 H1 E1 R1 => ⟨m1, ρ, S1, R1, r.kp (E1.kp R), p.ext E1⟩⟩
  · next S1 e1 => exact ⟨m, ρ, S, false, S1, R, r, e1, fun m1 H1 E1 R1 => ⟨m1, ρ, S1, R1, r.kp (E1.kp R), p.ext E1⟩⟩
  · exact p.elim
inductive Pat where
  | nm (i : Nat)
  | tp (ps : List Pat)
mutual
def Pat.bind : Pat → Val → Rho → Option Rho
  | .nm i, v, ρ => some (ρ.set i (some v))
  | .tp ps, .tup vs, ρ => Pat.binds ps vs ρ
  | .tp _, _, _ => none
def Pat.binds : List Pat → List Val → Rho → Option Rho
  | [], [], ρ => some ρ
  | p :: ps, v :: vs, ρ => (Pat.bind p v ρ).bind fun ρ1 => Pat.binds ps vs ρ1
  | _, _, _ => none
end
mutual
def Pat.slots : Pat → List Nat
  | .nm i => [i]
  | .tp ps => Pat.slotss ps
def Pat.slotss : List Pat → List Nat
  | [] => []
  | p :: ps => Pat.slots p ++ Pat.slotss ps
end
theorem wipe_get (σ : L2.St) : ∀ (vs : List Nat) (j : Nat), (wipe σ vs)[j]? = if j ∈ vs then (σ[j]?).map (fun _ => none) else σ[j]?
  | [], j => by simp [wipe]
  | v :: vs, j => by
    unfold wipe
    by_cases z : v = j
    · subst z
      rw [List.getElem?_set]
      simp only [if_true, wipe_length, List.mem_cons, true_or, if_true]
      by_cases l : v < σ.length
      · simp [l]
      · simp [l, List.getElem?_eq_none (Nat.le_of_not_lt l)]
    · rw [List.getElem?_set_ne z, wipe_get σ vs j]
      simp [List.mem_cons, Ne.symm z]
theorem wipe_set (σ : L2.St) {i : Nat} {vs : List Nat} (x : Option V) (h : i ∈ vs) : wipe (σ.set i x) vs = wipe σ vs := by
  apply List.ext_getElem?
  intro j
  rw [wipe_get, wipe_get]
  by_cases z : i = j
  · subst z
    simp only [h, if_true]
    by_cases l : i < σ.length
    · simp [l]
    · rw [List.getElem?_eq_none (by rw [List.length_set]; omega), List.getElem?_eq_none (by omega)]
  · rw [List.getElem?_set_ne z]
def tG (K : PySem.W.Frag) (p : Pat) : TG := fun u σ H Q => ∃ m S ρ v ρ', Rel K m S H ∧ RhoR K H m ρ σ ∧ VR K H m u v ∧ p.bind v ρ = some ρ' ∧ ∀ σ', RhoR K H m ρ' σ' → (∀ ws, (∀ i ∈ p.slots, i ∈ ws) → wipe σ' ws = wipe σ ws) → Q σ' H
def tGs (K : PySem.W.Frag) (ps : List Pat) : TGs := fun us σ H Q => ∃ m S ρ vs ρ', Rel K m S H ∧ RhoR K H m ρ σ ∧ VRs K H m us vs ∧ Pat.binds ps vs ρ = some ρ' ∧ ∀ σ', RhoR K H m ρ' σ' → (∀ ws, (∀ i ∈ Pat.slotss ps, i ∈ ws) → wipe σ' ws = wipe σ ws) → Q σ' H
theorem pg_w {tg : Expr} {t t' : TG} (h : PG X tg t) (hi : ∀ v σ H Q, t' v σ H Q → t v σ H Q) : PG X tg t' := ⟨fun pins s σ H v u Q I rv hq => h.run pins s σ H v u Q I rv (hi v σ H Q hq)⟩
theorem pgs_w {tgs : List Expr} {t t' : TGs} (h : PGs X tgs t) (hi : ∀ v σ H Q, t' v σ H Q → t v σ H Q) : PGs X tgs t' := ⟨fun pins s σ H v u Q I rv hq => h.run pins s σ H v u Q I rv (hi v σ H Q hq)⟩
theorem agn {i : Nat} {x : Str} (hN : X.N.Nodup) (hi : X.N[i]? = some x) (hx : Loc X.env.scope x) (hf : X.fn x = true ∨ X.env.scope.names.lookup x = some .local := by first | exact .inl rfl | exact .inr rfl | assumption) : PG X (.Name x pos) (tG X.K (.nm i)) := pg_w (pg_name hN hi hx hf) fun u σ H Q h => by
  obtain ⟨m, S, ρ, v, ρ', R, r, rv, e, q⟩ := h
  simp only [Pat.bind] at e
  cases e
  exact q _ (r.set rv i) fun ws hw => wipe_set σ _ (hw i (by simp [Pat.slots]))
theorem agl0 : PGs X [] (tGs X.K []) := pgs_w pgs_nil fun us σ H Q h => by
  obtain ⟨m, S, ρ, vs, ρ', R, r, rv, e, q⟩ := h
  cases vs with
  | nil =>
    cases rv
    simp only [Pat.binds] at e
    cases e
    exact ⟨rfl, q σ r fun _ _ => rfl⟩
  | cons v vs => simp only [Pat.binds] at e; cases e
theorem agl {p : Pat} {ps : List Pat} (h1 : PG X e (tG X.K p)) (h2 : PGs X es (tGs X.K ps))
    (hs : (assignEach (e :: es) X.env).map (·.2) = assign e X.env :: (assignEach es X.env).map (·.2) := by rfl) : PGs X (e :: es) (tGs X.K (p :: ps)) := pgs_w (pgs_cons h1 h2 hs) fun us σ H Q h => by
  obtain ⟨m, S, ρ, vs, ρ', R, r, rv, e, q⟩ := h
  cases vs with
  | nil => simp only [Pat.binds] at e; cases e
  | cons v vs =>
    cases rv with
    | cons rv rvs =>
      simp only [Pat.binds] at e
      obtain ⟨ρ1, e1, e2⟩ := Option.bind_eq_some_iff.mp e
      refine ⟨_, _, rfl, m, S, ρ, v, ρ1, R, r, rv, e1, fun σ1 r1 w1 => ⟨m, S, ρ1, vs, ρ', R, r1, rvs, e2, fun σ2 r2 w2 => q σ2 r2 fun ws hw => ?_⟩⟩
      rw [w2 ws fun i hi => hw i (by simp [Pat.slotss, hi]), w1 ws fun i hi => hw i (by simp [Pat.slotss, hi])]
theorem bindLen : ∀ {ps : List Pat} {vs : List Val} {ρ ρ' : Rho}, Pat.binds ps vs ρ = some ρ' → vs.length = ps.length
  | [], [], _, _, _ => rfl
  | [], _ :: _, _, _, h => by simp only [Pat.binds] at h; cases h
  | _ :: _, [], _, _, h => by simp only [Pat.binds] at h; cases h
  | p :: ps, v :: vs, ρ, ρ', h => by
    simp only [Pat.binds] at h
    obtain ⟨ρ1, e1, e2⟩ := Option.bind_eq_some_iff.mp h
    rw [List.length_cons, List.length_cons, bindLen e2]
theorem agt {ps : List Pat} {k n : Nat} (hc : X.calm = true) (h : PGs X es (tGs X.K ps)) (hn : (assignEach es X.env).length = n := by rfl) (hst : (assignEach es X.env).findIdx? (·.1) = none := by rfl) (hl : ps.length = n := by rfl) : PG X (.Tuple es k pos) (tG X.K (.tp ps)) := pg_w (pg_tup hc h hn hst) fun u σ H Q h => by
  obtain ⟨m, S, ρ, v, ρ', R, r, rv, e, q⟩ := h
  cases v <;> simp only [Pat.bind] at e <;> try cases e
  cases rv with
  | tup ha rs =>
    exact ⟨_, _, rfl, ha.sq, by rw [rs.len, bindLen e, hl], m, S, ρ, _, ρ', R, r, rs, e, fun σ' r' w' => q σ' r' fun ws hw => w' ws fun i hi => hw i (by simpa [Pat.slots] using hi)⟩
def sAsg (p : Pat) (f : EF) : SF := fun ρ S => match f ρ S with
  | some (v, S) => match p.bind v ρ with
    | some ρ => .nx ρ S
    | none => .stuck
  | none => .stuck
theorem sAsg_ok {p : Pat} {D : Ends} {σ : L2.St} {H : Hp} (h : tS K (sAsg p f) D σ H) : tAsg (tF K f) (tG K p) D σ H := by
  obtain ⟨m, ρ, S, R, r, q⟩ := h
  unfold sAsg at q
  split at q
  · next v S1 e1 =>
    split at q
    · next ρ1 e2 =>
      refine ⟨m, ρ, S, v, S1, R, r, e1, fun m1 u H1 E1 R1 r1 => ⟨m1, S1, ρ, v, ρ1, R1, r.kp (E1.kp R), r1, e2, fun σ' r' _ => q m1 σ' H1 E1 R1 r'⟩⟩
    · exact q.elim
  · exact q.elim
theorem asa {p : Pat} {tg : Expr} (he : AE X e f) (hg : PG X tg (tG X.K p)) (hs : swapsWithSole [tg] e pos.line X.env = pure false := by rfl) (hw : swappedStores [tg] e X.env = pure none := by rfl)
    (h1 : (assignEach [tg] X.env).map (·.2) = [assign tg X.env] := by rfl) : AS X (.Assign [tg] e pos) (sAsg p f) := ps_w (ps_asg he hg hs hw h1) fun D σ H h => sAsg_ok h
theorem ass {i : Nat} {x : Str} {pos' : Pos} (hN : X.N.Nodup) (hi : X.N[i]? = some x) (hx : Loc X.env.scope x) (he : AE X e f) (hs : swapsWith e (some (.Name x pos')) pos.line X.env = pure false := by rfl) (hf : X.fn x = true ∨ X.env.scope.names.lookup x = some .local := by first | exact .inl rfl | exact .inr rfl | assumption) :
    AS X (.Assign [.Name x pos'] e pos) (sAsg (.nm i) f) := ps_w (ps_set hN hi hx he hs hf) fun D σ H h => by
  obtain ⟨m, ρ, S, R, r, q⟩ := h
  unfold sAsg at q
  split at q
  · next v S1 e1 =>
    simp only [Pat.bind] at q
    exact ⟨m, ρ, S, v, S1, R, r, e1, fun m1 u H1 E1 R1 r1 => q m1 _ H1 E1 R1 ((r.kp (E1.kp R)).set r1 i)⟩
  · exact q.elim

def sPar (is : List Nat) (ga : AF) : SF := fun ρ S => match ga ρ S with
  | some (vs, S) => match Pat.binds (is.map Pat.nm) vs ρ with
    | some ρ => .nx ρ S
    | none => .stuck
  | none => .stuck

def sSub (g : Val → Val → Val → Sto → Option Sto) (fo fi f : EF) : SF := fun ρ S => match f ρ S with
  | some (v, S) => match fo ρ S with
    | some (o, S) => match fi ρ S with
      | some (i, S) => match g o i v S with
        | some S => .nx ρ S
        | none => .stuck
      | none => .stuck
    | none => .stuck
  | none => .stuck
def SetA (K : PySem.W.Frag) (r : TSet) (g : Val → Val → Val → Sto → Option Sto) : Prop := ∀ m S H o i v S' uo ui u Q, Rel K m S H → VR K H m uo o → VR K H m ui i → VR K H m u v → g o i v S = some S' → (∀ H', Ext m H m H' → Rel K m S' H' → Q H') → r uo ui u H Q
def whR (t : BF) (g : SF) : Nat → SF
  | 0 => fun _ _ => .stuck
  | n + 1 => fun ρ S => match t ρ S with
    | none => .stuck
    | some (false, S) => .nx ρ S
    | some (true, S) => match g ρ S with
      | .nx ρ S => whR t g n ρ S
      | .ct ρ S => whR t g n ρ S
      | .bk ρ S => .nx ρ S
      | .rt v S => .rt v S
      | .stuck => .stuck
open Classical in
noncomputable def sWhile (t : BF) (g : SF) : SF := fun ρ S => if h : ∃ n, whR t g n ρ S ≠ .stuck then whR t g h.choose ρ S else .stuck
theorem whR_succ {t : BF} {g : SF} : ∀ {n : Nat} {ρ : Rho} {S : Sto}, whR t g n ρ S ≠ .stuck → whR t g (n + 1) ρ S = whR t g n ρ S
  | 0, _, _, h => absurd rfl h
  | n + 1, ρ, S, h => by
    unfold whR at h ⊢
    split
    · rfl
    · rfl
    · next S1 e1 =>
      simp only [e1] at h
      split
      · next ρ2 S2 e2 =>
        simp only [e2] at h
        exact whR_succ h
      · next ρ2 S2 e2 =>
        simp only [e2] at h
        exact whR_succ h
      · rfl
      · rfl
      · rfl
theorem whR_add {t : BF} {g : SF} {n : Nat} {ρ : Rho} {S : Sto} (h : whR t g n ρ S ≠ .stuck) : ∀ k, whR t g (n + k) ρ S = whR t g n ρ S
  | 0 => rfl
  | k + 1 => by
    have e := whR_add h k
    rw [← Nat.add_assoc, whR_succ (by rw [e]; exact h), e]
theorem sWhile_eq {t : BF} {g : SF} {n : Nat} {ρ : Rho} {S : Sto} {r : Res} (h : whR t g n ρ S = r) (hr : r ≠ .stuck) : sWhile t g ρ S = r := by
  have ex : ∃ n, whR t g n ρ S ≠ .stuck := ⟨n, by rw [h]; exact hr⟩
  unfold sWhile
  rw [dif_pos ex]
  have h1 := whR_add ex.choose_spec n
  have h2 := whR_add (show whR t g n ρ S ≠ .stuck by rw [h]; exact hr) ex.choose
  rw [← h1, ← h, ← h2, Nat.add_comm]
theorem asw (hp : PassesOwn (model X.prog X.w) X.A X.env X.xe) (hc : AT X c tb) (hb : ASs X sts g) : AS X (.While c sts [] pos) (sWhile tb g) := ps_w (ps_while hp hc hb) fun D σ H h => by
  obtain ⟨m, ρ, S, R, r, q⟩ := h
  unfold sWhile at q
  split at q
  · next hex =>
    generalize hex.choose = n at q
    refine ⟨fun k σ H => ∃ m ρ S, Rel X.K m S H ∧ RhoR X.K H m ρ σ ∧ Post X.K m H D (whR tb g k ρ S), ⟨n, m, ρ, S, R, r, q⟩, ?_⟩
    rintro k σ H ⟨m, ρ, S, R, r, q⟩
    cases k with
    | zero => exact q.elim
    | succ k =>
      unfold whR at q
      split at q
      · exact q.elim
      · next S1 e1 =>
        refine ⟨m, ρ, S, false, S1, R, r, e1, fun m1 H1 E1 R1 => ?_⟩
        exact q m1 σ H1 E1 R1 (r.kp (E1.kp R))
      · next S1 e1 =>
        refine ⟨m, ρ, S, true, S1, R, r, e1, fun m1 H1 E1 R1 => ?_⟩
        refine iteT ?_
        refine ⟨fun σ H => ∃ m ρ S, Rel X.K m S H ∧ RhoR X.K H m ρ σ ∧ Post X.K m H D (whR tb g k ρ S), fun σ' H' h => ⟨k, Nat.lt_succ_self k, h⟩, m1, ρ, S1, R1, r.kp (E1.kp R), ?_⟩
        split at q
        · next ρ2 S2 e2 =>
          rw [e2]
          exact fun m2 σ2 H2 E2 R2 r2 => ⟨m2, ρ2, S2, R2, r2, q.ext (E1.trans E2)⟩
        · next ρ2 S2 e2 =>
          rw [e2]
          exact fun m2 σ2 H2 E2 R2 r2 => ⟨m2, ρ2, S2, R2, r2, q.ext (E1.trans E2)⟩
        · next ρ2 S2 e2 =>
          rw [e2]
          exact fun m2 σ2 H2 E2 R2 r2 => q m2 σ2 H2 (E1.trans E2) R2 r2
        · next v2 S2 e2 =>
          rw [e2]
          exact fun m2 σ2 H2 E2 R2 r2 => q m2 σ2 H2 (E1.trans E2) R2 r2
        · exact q.elim
  · exact q.elim
abbrev IF := Rho → Sto → Option (List Val × (Sto → Prop) × Sto)
structure ItA (K : PySem.W.Frag) (J : It) (m0 : List Addr) (H0 : Hp) (vs : List Val) (ok : Sto → Prop) : Prop where
  step : ∀ (i : Nat) (m : List Addr) (S : Sto) (H : Hp), Ext m0 H0 m H → Rel K m S H → ok S → ∀ v, vs[i]? = some v → J.go i H ∧ ∀ x H', J.yld i H x H' → Rel K m S H' ∧ Ext m H m H' ∧ VR K H' m x v
  stop : ∀ (m : List Addr) (S : Sto) (H : Hp), Ext m0 H0 m H → Rel K m S H → ok S → J.stop vs.length H
def tI (K : PySem.W.Frag) (fi : IF) : TI := fun σ H R => ∃ m ρ S vs ok S', Rel K m S H ∧ RhoR K H m ρ σ ∧ fi ρ S = some (vs, ok, S') ∧ ∀ m' H' J, Ext m H m' H' → Rel K m' S' H' → ItA K J m' H' vs ok → R J H'
abbrev AI (X : Cx) (tg it : Expr) (fi : IF) : Prop := PI X tg it (tI X.K fi)
theorem pi_w {tg it : Expr} {w w' : TI} (h : PI X tg it w) (hi : ∀ σ H R, w' σ H R → w σ H R) : PI X tg it w' := ⟨fun pins s σ H R I hq => h.run pins s σ H R I (hi σ H R hq)⟩
theorem PI.or {tg it : Expr} {w w' : TI} (h : PI X tg it w) (h' : PI X tg it w') : PI X tg it (fun σ H R => w σ H R ∨ w' σ H R) := ⟨fun pins s σ H R I hq => hq.elim (h.run pins s σ H R I) (h'.run pins s σ H R I)⟩
open Classical in
noncomputable def forR (p : Pat) (g : SF) (ok : Sto → Prop) : List Val → SF
  | [] => fun ρ S => if ok S then .nx ρ S else .stuck
  | v :: vs => fun ρ S => if ok S then match p.bind v ρ with
    | none => .stuck
    | some ρ => match g ρ S with
      | .nx ρ S => forR p g ok vs ρ S
      | .ct ρ S => forR p g ok vs ρ S
      | .bk ρ S => .nx ρ S
      | .rt v S => .rt v S
      | .stuck => .stuck
    else .stuck
noncomputable def sFor (p : Pat) (fi : IF) (g : SF) : SF := fun ρ S => match fi ρ S with
  | some (vs, ok, S) => forR p g ok vs ρ S
  | none => .stuck
theorem asf {p : Pat} {tg it : Expr} {fi : IF} (hp : PassesOwn (model X.prog X.w) X.A X.env X.xe) (hc : X.calm = true) (hi : AI X tg it fi) (hg : PG X tg (tG X.K p)) (hb : ASs X sts g)
    (hs : ∀ x, foldedSetIterable it X.env x = pure x := by intro _; rfl) : AS X (.For tg it sts [] pos) (sFor p fi g) := ps_w (ps_for hp hc hi hg hb hs) fun D σ H h => by
  obtain ⟨m, ρ, S, R, r, q⟩ := h
  unfold sFor at q
  split at q
  · next vs ok S1 e1 =>
    refine ⟨m, ρ, S, vs, ok, S1, R, r, e1, fun m0 H0 J E0 R0 it0 => ?_⟩
    refine ⟨fun i k σ H => k + i = vs.length ∧ ∃ m ρ S, Ext m0 H0 m H ∧ Rel X.K m S H ∧ RhoR X.K H m ρ σ ∧ Post X.K m H D (forR p g ok (vs.drop i) ρ S), ⟨vs.length, by omega, m0, ρ, S1, .refl _ _, R0, r.kp (E0.kp R), q.ext E0⟩, ?_⟩
    rintro i k σ H ⟨hk, m, ρ, S, E, R, r, q⟩
    by_cases hlt : i < vs.length
    · rw [List.drop_eq_getElem_cons hlt] at q
      unfold forR at q
      split at q
      · next hok =>
        split at q
        · exact q.elim
        · next ρ1 e2 =>
          obtain ⟨go, yl⟩ := it0.step i m S H E R hok vs[i] (List.getElem?_eq_getElem hlt)
          refine .inr ⟨go, fun σ H => ∃ m ρ S, Ext m0 H0 m H ∧ Rel X.K m S H ∧ RhoR X.K H m ρ σ ∧ Post X.K m H D (forR p g ok (vs.drop (i + 1)) ρ S), fun σ' H' h => ⟨k - 1, by omega, by omega, h⟩, fun x H' hy => ?_⟩
          obtain ⟨R', E', rx⟩ := yl x H' hy
          refine ⟨m, S, ρ, _, ρ1, R', r.kp (E'.kp R), rx, e2, fun σ1 r1 _ => ⟨m, ρ1, S, R', r1, ?_⟩⟩
          have EE := E.trans E'
          split at q
          · next ρ2 S2 e3 =>
            rw [e3]
            exact fun m2 σ2 H2 E2 R2 r2 => ⟨m2, ρ2, S2, EE.trans E2, R2, r2, q.ext (E'.trans E2)⟩
          · next ρ2 S2 e3 =>
            rw [e3]
            exact fun m2 σ2 H2 E2 R2 r2 => ⟨m2, ρ2, S2, EE.trans E2, R2, r2, q.ext (E'.trans E2)⟩
          · next ρ2 S2 e3 =>
            rw [e3]
            exact fun m2 σ2 H2 E2 R2 r2 => q m2 σ2 H2 (E'.trans E2) R2 r2
          · next v2 S2 e3 =>
            rw [e3]
            exact fun m2 σ2 H2 E2 R2 r2 => q m2 σ2 H2 (E'.trans E2) R2 r2
          · exact q.elim
      · exact q.elim
    · have e : i = vs.length := by omega
      subst e
      rw [List.drop_length] at q
      unfold forR at q
      split at q
      · next hok => exact .inl ⟨it0.stop m S H E R hok, q m σ H (.refl _ _) R r⟩
      · exact q.elim
  · exact q.elim
def wipeR (ρ : Rho) : List Nat → Rho
  | [] => ρ
  | v :: vs => (wipeR ρ vs).set v none
theorem RhoR.wipe {H : Hp} {m : List Addr} {ρ : Rho} {σ : L2.St} (r : RhoR K H m ρ σ) : ∀ vs : List Nat, RhoR K H m (wipeR ρ vs) (L2.wipe σ vs)
  | [] => r
  | v :: vs => (r.wipe vs).unset v none
def bYes : BF := fun _ S => some (true, S)
theorem ats0 : PTs X [] (tFb X.K bYes) := ⟨fun pins s σ H Q I h => pts_nil.run pins s σ H Q I (by
  obtain ⟨m, ρ, S, v, S', R, r, e, q⟩ := h
  cases e
  exact q m H (.refl _ _) R)⟩
open Classical in
noncomputable def lcR (p : Pat) (t : BF) (f : EF) (ok : Sto → Prop) (ρ : Rho) : List Val → List Val → Sto → Option (List Val × Sto)
  | [], acc, S => if ok S then some (acc, S) else none
  | v :: vs, acc, S => if ok S then (p.bind v ρ).bind fun ρ1 => (t ρ1 S).bind fun b => if b.1 then (f ρ1 b.2).bind fun y => if acc.length < 1000000 then lcR p t f ok ρ vs (acc ++ [y.1]) y.2 else none else lcR p t f ok ρ vs acc b.2 else none
noncomputable def eLc (p : Pat) (fi : IF) (t : BF) (f : EF) (own : List Nat) : EF := fun ρ S => (fi ρ S).bind fun z => (lcR p t f z.2.1 (wipeR ρ own) z.1 [] z.2.2).bind fun y => some (.ref y.2.length, y.2 ++ [.lst y.1])
theorem eLc_ok {p : Pat} {fi : IF} {t : BF} {own : List Nat} (hp : ∀ i ∈ p.slots, i ∈ own) {σ : L2.St} {H : Hp} {Q : VK} (h : tF K (eLc p fi t f own) σ H Q) : tLc (tI K fi) (tG K p) (tFb K t) (tF K f) own σ H Q := by
  obtain ⟨m, ρ, S, v, S', R, r, e, q⟩ := h
  obtain ⟨⟨vs, ok, S1⟩, e1, e⟩ := Option.bind_eq_some_iff.mp e
  obtain ⟨⟨ys, S2⟩, e2, e⟩ := Option.bind_eq_some_iff.mp e
  cases e
  refine ⟨m, ρ, S, vs, ok, S1, R, r, e1, fun m0 H0 J E0 R0 it0 D hD => ?_⟩
  dsimp only at e2 q
  refine ⟨fun i k H => k + i = vs.length ∧ ∃ m S acc xs, Ext m0 H0 m H ∧ Rel K m S H ∧ D ∉ m ∧ H D = some (.lst xs) ∧ VRs K H m xs acc ∧ lcR p t f ok (wipeR ρ own) (vs.drop i) acc S = some (ys, S2), ?_, ?_⟩
  · obtain ⟨R1, E1⟩ := R0.tmp (o := .lst []) hD
    exact ⟨vs.length, by omega, m0, S1, [], [], E1, R1, R0.noNone hD, upd_same, .nil, e2⟩
  · rintro i k H ⟨hk, m, S, acc, xs, E, R, nD, hDx, rx, el⟩
    by_cases hlt : i < vs.length
    · rw [List.drop_eq_getElem_cons hlt] at el
      unfold lcR at el
      split at el
      · next hok =>
        obtain ⟨ρ1, b1, el⟩ := Option.bind_eq_some_iff.mp el
        obtain ⟨⟨bb, S3⟩, b2, el⟩ := Option.bind_eq_some_iff.mp el
        dsimp only at el
        obtain ⟨go, yl⟩ := it0.step i m S H E R hok vs[i] (List.getElem?_eq_getElem hlt)
        refine .inr ⟨go, fun H => ∃ m S acc xs, Ext m0 H0 m H ∧ Rel K m S H ∧ D ∉ m ∧ H D = some (.lst xs) ∧ VRs K H m xs acc ∧ lcR p t f ok (wipeR ρ own) (vs.drop (i + 1)) acc S = some (ys, S2), fun H' h => ⟨k - 1, by omega, by omega, h⟩, fun x H' hy => ?_⟩
        obtain ⟨R', E', rx'⟩ := yl x H' hy
        have rr : RhoR K H' m (wipeR ρ own) (L2.wipe σ own) := (r.wipe own).kp ((((E0.kp (by assumption)).trans (E.kp R0))).trans (E'.kp R))
        refine ⟨m, S, wipeR ρ own, vs[i], ρ1, R', rr, rx', b1, fun σ1 r1 w1 => ⟨?_, m, ρ1, S, bb, S3, R', r1, b2, fun m3 H3 E3 R3 => ?_⟩⟩
        · have := w1 own hp
          rw [this]
          have idem : ∀ (σ : L2.St) (vs ws : List Nat), (∀ i ∈ vs, i ∈ ws) → L2.wipe (L2.wipe σ vs) ws = L2.wipe σ ws := by
            intro σ vs ws
            induction vs with
            | nil => intro _; rfl
            | cons v vs ih =>
              intro h
              have e : L2.wipe σ (v :: vs) = (L2.wipe σ vs).set v none := rfl
              rw [e, wipe_set _ _ (h v (by simp)), ih fun i hi => h i (by simp [hi])]
          exact idem σ own own fun i hi => hi
        · have nD3 : D ∉ m3 := E3.no (E'.fr D _ hDx nD) nD
          have hD3 : H3 D = some (.lst xs) := E3.fr D _ (E'.fr D _ hDx nD) nD
          have k3 := (E'.kp R).trans (E3.kp R')
          cases bb with
          | true =>
            rw [if_pos rfl] at el
            refine iteT ?_
            obtain ⟨⟨y, S4⟩, b3, el⟩ := Option.bind_eq_some_iff.mp el
            dsimp only at el
            split at el
            · next hlen =>
              refine ⟨m3, ρ1, S3, y, S4, R3, r1.kp (E3.kp R'), b3, fun m4 u H4 E4 R4 r4 => ?_⟩
              have nD4 : D ∉ m4 := E4.no hD3 nD3
              have hD4 : H4 D = some (.lst xs) := E4.fr D _ hD3 nD3
              have rx4 := rx.kp (k3.trans (E4.kp R3))
              refine ⟨xs, hD4, by rw [rx.len]; exact Nat.lt_of_lt_of_le hlen (by decide), ?_⟩
              have kD : Kp m4 H4 m4 (upd H4 D (.lst (xs ++ [u]))) := .at_ fun u' e => by rw [hD4] at e; cases e; exact .inl ⟨_, rfl⟩
              have EE := ((E.trans E').trans E3).trans E4
              refine ⟨m4, S4, acc ++ [y], xs ++ [u], ⟨EE.pre, fun a o h n t => ?_, EE.nw'⟩, R4.off kD (fun a ha => upd_ne fun z => nD4 (z ▸ ha)) (fun P ps h => tbl_at hD4 (fun _ z => by cases z) h), nD4, upd_same, (rx4.kp kD).app (r4.kp kD).one, el⟩
              rw [upd_ne (ne_of_none h hD)]
              exact EE.fr' a o h n t
            · cases el
          | false =>
            rw [if_neg Bool.false_ne_true] at el
            refine iteF ?_
            exact ⟨m3, S3, acc, xs, (E.trans E').trans E3, R3, nD3, hD3, rx.kp k3, el⟩
      · cases el
    · have e : i = vs.length := by omega
      subst e
      rw [List.drop_length] at el
      unfold lcR at el
      split at el
      · next hok =>
        cases el
        refine .inl ⟨it0.stop m _ H E R hok, ?_⟩
        have E1 : Ext m0 H0 (m ++ [D]) H := by
          obtain ⟨r', hr'⟩ := E.pre
          refine ⟨⟨r' ++ [D], by rw [hr', List.append_assoc]⟩, E.fr', fun a o ha n ho => ?_⟩
          rcases List.mem_append.mp ha with z | z
          · exact E.nw' a o z n ho
          · simp only [List.mem_singleton] at z
            rw [z, hD] at ho
            cases ho
        have kk : Kp m H (m ++ [D]) H := .grow [D] (.refl _ _)
        have R1 : Rel K (m ++ [D]) (S2 ++ [.lst ys]) H := by
          refine ⟨by simp [R.len], ?_, fun n o' a h1 h2 => ?_, R.tb⟩
          · rw [List.nodup_append]
            refine ⟨R.nd, by simp, fun a ha b hb z => ?_⟩
            simp only [List.mem_singleton] at hb
            exact nD (hb ▸ z ▸ ha)
          · by_cases hn : n < S2.length
            · rw [List.getElem?_append_left hn] at h1
              rw [List.getElem?_append_left (by rw [R.len]; exact hn)] at h2
              exact (R.ob n o' a h1 h2).kp kk rfl
            · have e : n = S2.length := by
                have := (List.getElem?_eq_some_iff.mp h1).1
                simp only [List.length_append, List.length_singleton] at this
                omega
              subst e
              rw [List.getElem?_concat_length] at h1
              rw [← R.len, List.getElem?_concat_length] at h2
              cases h1
              cases h2
              exact ⟨xs, hDx, rx.kp kk⟩
        refine q (m ++ [D]) (.ref D) H (E0.trans E1) R1 (.ref ?_)
        rw [← R.len, List.getElem?_concat_length]
      · cases el
theorem alc {elt tg it : Expr} {ifs : List Expr} {scope : Scope} {own : List (Str × Nat)} {p : Pat} {fi : IF} {t : BF} (hc : X.calm = true) (hN : X.N.Nodup) (hi : AI X tg it fi) (ok : BlkOk X.N X.env.scope scope own) (hp : ∀ i ∈ p.slots, i ∈ own.map (·.2))
    (hg : ∀ (s : Shared) (H : Hp) (C : Addr) (cl : List (Str × Addr)) (fp : List Addr), PG (X.blk s H scope (compEnvC scope cl C X.env) fp) tg (tG X.K p)) (ht : ∀ (s : Shared) (H : Hp) (C : Addr) (cl : List (Str × Addr)) (fp : List Addr), PTs (X.blk s H scope (compEnvC scope cl C X.env) fp) ifs (tFb X.K t))
    (he : ∀ (s : Shared) (H : Hp) (C : Addr) (cl : List (Str × Addr)) (fp : List Addr), AE (X.blk s H scope (compEnvC scope cl C X.env) fp) elt f) (hs : ∀ x, foldedSetIterable it X.env x = pure x := by intro _; rfl) :
    AE X (.ListComp elt [⟨tg, it, ifs, 0⟩] scope pos) (eLc p fi t f (own.map (·.2))) := pe_w (pe_lc hc hN hi ok hg ht he hs) fun _ _ _ h => eLc_ok hp h

theorem aslc {i : Nat} {y : Str} {py spos : Pos} {elt tg it : Expr} {ifs : List Expr} {scope : Scope} {own : List (Str × Nat)} {p : Pat} {fi : IF} {t : BF} (hc : X.calm = true) (hN : X.N.Nodup) (hy : X.N[i]? = some y) (hyl : X.env.scope.names.lookup y = some .local)
    (hsw : swapsWith (.ListComp elt [⟨tg, it, ifs, 0⟩] scope pos) (some (.Name y py)) spos.line X.env = pure true) (hi : AI X tg it fi) (ok : BlkOk X.N X.env.scope scope own) (hp : ∀ i ∈ p.slots, i ∈ own.map (·.2))
    (hg : ∀ (s : Shared) (H : Hp) (C : Addr) (cl : List (Str × Addr)) (fp : List Addr), PG (X.blk s H scope (compEnvC scope cl C X.env) fp) tg (tG X.K p)) (ht : ∀ (s : Shared) (H : Hp) (C : Addr) (cl : List (Str × Addr)) (fp : List Addr), PTs (X.blk s H scope (compEnvC scope cl C X.env) fp) ifs (tFb X.K t))
    (he : ∀ (s : Shared) (H : Hp) (C : Addr) (cl : List (Str × Addr)) (fp : List Addr), AE (X.blk s H scope (compEnvC scope cl C X.env) fp) elt f) (hs : ∀ x, foldedSetIterable it X.env x = pure x := by intro _; rfl) :
    AS X (.Assign [.Name y py] (.ListComp elt [⟨tg, it, ifs, 0⟩] scope pos) spos) (sAsg (.nm i) (eLc p fi t f (own.map (·.2)))) := ps_w (ps_setLc (i := i) hc hN hy hyl hsw hi ok hg ht he hs) fun D σ H h => by
  obtain ⟨m, ρ, S, R, r, q⟩ := h
  unfold sAsg at q
  split at q
  · next v S1 e1 =>
    simp only [Pat.bind] at q
    exact eLc_ok hp ⟨m, ρ, S, v, S1, R, r, e1, fun m1 u H1 E1 R1 r1 => q m1 _ H1 E1 R1 ((r.kp (E1.kp R)).set r1 i)⟩
  · exact q.elim
end
def runF (n : Nat) (g : SF) : FA := fun vs S => match g (vs.map some ++ List.replicate (n - vs.length) none) S with
  | .rt v S => some (v, S)
  | .nx _ S => some (.non, S)
  | _ => none
end AL
namespace AL
open PySem PySem.Spec PyProof.Rows L2 G
variable [TT]
theorem rho_start {K : PySem.W.Frag} {H : Hp} {m : List Addr} (N : List Str) {us : List V} {vs : List Val} (r : VRs K H m us vs) : RhoR K H m (vs.map some ++ List.replicate (N.length - vs.length) none) (L2.start N us) := by
  have l := r.len
  refine ⟨by simp [L2.start, l], fun i v h => ?_⟩
  by_cases hi : i < vs.length
  · rw [List.getElem?_append_left (by simpa using hi), List.getElem?_map] at h
    obtain ⟨w, h1, h2⟩ := Option.map_eq_some_iff.mp h
    cases h2
    obtain ⟨u, h3, h4⟩ := r.get h1
    refine ⟨u, ?_, h4⟩
    unfold L2.start
    rw [List.getElem?_append_left (by simpa [l] using hi), List.getElem?_map, h3]
    rfl
  · rw [List.getElem?_append_right (by simpa using Nat.le_of_not_lt hi), List.getElem?_replicate] at h
    split at h <;> cases h

theorem fn_a {P : Program} {w : World} {K : PySem.W.Frag} {mg : Str → Option Value} {base : Heap} {x qual : Str} {st : Stmt} {f : Addr} {fd : FuncData} {N ps : List Str} {k : Nat} {g : SF}
    (F : Fun K x qual st f fd) (S : FnScope N ps (defScope st)) (hb : Binds K fd ps []) (hm : mg x = some (.ref f))
    (body : ∀ (cdv : Value) (A : Around) (outer : List Env) (s : Shared) (H : Hp) (E : XK), A.guards = some [] →
      Room k (A.deeper (envOfC qual (defScope st) s.heap.objs.size f cdv)) → ASs (cxOf CX0 P w K mg base N qual (defScope st) f cdv A outer s H E).nox (defBody st) g) {n : Nat} (hn : N.length = n := by rfl) :
    Def P w K mg base (k + 1) x ps (runF n g) := by
  subst hn
  refine ⟨f, fd, fn_g F S (fun vs H Q E h => h.1) (fun cdv A outer s H us Q E hg hr h => ⟨_, body cdv A outer s H E hg hr, ?_⟩), hb, hm, F.kp⟩
  obtain ⟨hl, m, S0, vs, v, S', R, r, e, q⟩ := h
  refine ⟨m, _, S0, R, rho_start N r, ?_⟩
  unfold runF at e
  split at e
  · next v' S1 e1 =>
    cases e
    rw [e1]
    exact q
  · next v' S1 e1 =>
    cases e
    rw [e1]
    exact fun m' σ' H' E' R' r' => q m' .non H' E' R' .non
  · cases e
section
variable {X : Cx} {K : PySem.W.Frag}
def gI (g : Int → Int → Val) : Val → Val → Sto → Option (Val × Sto) := fun x y S => match x, y with
  | .int a, .int b => some (g a b, S)
  | _, _ => none
theorem oI {gv : Int → Int → V} {g : Int → Int → Val} (h : ∀ H m a b, VR K H m (gv a b) (g a b)) : OpA K (rI0 gv) (gI g) := by
  intro m S H x y v S' u w Q R ru rw_ e q
  cases x <;> cases y <;> simp only [gI] at e <;> try cases e
  cases ru
  cases rw_
  exact ⟨_, _, rfl, rfl, q m _ H (.refl _ _) R (h H m _ _)⟩
open Classical in
noncomputable def gIc (C : Int → Int → Prop) (g : Int → Int → Val) : Val → Val → Sto → Option (Val × Sto) := fun x y S => match x, y with
  | .int a, .int b => if C a b then some (g a b, S) else none
  | _, _ => none
theorem oIc {C : Int → Int → Prop} {gv : Int → Int → V} {g : Int → Int → Val} (h : ∀ H m a b, VR K H m (gv a b) (g a b)) : OpA K (rI C gv) (gIc C g) := by
  intro m S H x y v S' u w Q R ru rw_ e q
  cases x <;> cases y <;> simp only [gIc] at e <;> try cases e
  cases ru
  cases rw_
  split at e
  · next hc =>
    cases e
    exact ⟨_, _, rfl, rfl, hc, q m _ H (.refl _ _) R (h H m _ _)⟩
  · cases e
abbrev gSub := gI fun a b => .int (a - b)
noncomputable abbrev gMul := gIc CMulW fun a b => .int (a * b)
noncomputable abbrev gDiv := gIc CDivW fun a b => .int (a / b)
noncomputable abbrev gMod := gIc (fun _ b => b ≠ 0) fun a b => .int (a.fmod b)
noncomputable abbrev gPow := gIc CPow fun a b => .int (a ^ b.toNat)
abbrev gLt := gI fun a b => .bl (decide (a < b))
abbrev gLe := gI fun a b => .bl (decide (a ≤ b))
abbrev gGt := gI fun a b => .bl (decide (b < a))
abbrev gGe := gI fun a b => .bl (decide (b ≤ a))
theorem oSub : OpA K (rI0 fun i j => .int (i - j)) gSub := oI fun _ _ _ _ => .int _
theorem oMul : OpA K (rI CMulW fun i j => .int (i * j)) gMul := oIc fun _ _ _ _ => .int _
theorem oDiv : OpA K (rI CDivW fun i j => .int (i / j)) gDiv := oIc fun _ _ _ _ => .int _
theorem oMod : OpA K (rI (fun _ j => j ≠ 0) fun i j => .int (i.fmod j)) gMod := oIc fun _ _ _ _ => .int _
theorem oPow : OpA K (rI CPow fun i j => .int (i ^ j.toNat)) gPow := oIc fun _ _ _ _ => .int _
theorem oLt : OpA K (rI0 fun i j => .bl (decide (i < j))) gLt := oI fun _ _ _ _ => .bl _
theorem oLe : OpA K (rI0 fun i j => .bl (decide (i ≤ j))) gLe := oI fun _ _ _ _ => .bl _
theorem oGt : OpA K (rI0 fun i j => .bl (decide (j < i))) gGt := oI fun _ _ _ _ => .bl _
theorem oGe : OpA K (rI0 fun i j => .bl (decide (j ≤ i))) gGe := oI fun _ _ _ _ => .bl _
def gNeg : Val → Sto → Option (Val × Sto) := fun x S => match x with
  | .int a => some (.int (-a), S)
  | _ => none
theorem oNeg : UnA K (rU fun i => .int (-i)) gNeg := by
  intro m S H x v S' u Q R ru e q
  cases x <;> simp only [gNeg] at e <;> try cases e
  cases ru
  exact ⟨_, rfl, q m _ H (.refl _ _) R (.int _)⟩
def gAdd : Val → Val → Sto → Option (Val × Sto) := fun x y S => match x, y with
  | .int a, .int b => some (.int (a + b), S)
  | .str a, .str b => if a.length + b.length ≤ sizeLine then some (.str (a ++ b), S) else none
  | .tup (a :: as), .tup b => if as.length + 1 + b.length ≤ sizeLine then some (.tup (a :: as ++ b), S) else none
  | .ref i, .ref j => match S[i]?, S[j]? with
    | some (.lst a), some (.lst b) => if a.length + b.length ≤ sizeLine then some (.ref S.length, S ++ [.lst (a ++ b)]) else none
    | _, _ => none
  | _, _ => none
def rAddA (K : PySem.W.Frag) : R2 := fun x y H Q => (rI0 (fun i j => .int (i + j))) x y H Q ∨ ((∃ i j, x = .str i ∧ y = .str j ∧ i.length + j.length ≤ sizeLine ∧ Q (.str (i ++ j)) H) ∨ (rCatT K x y H Q ∨ rCat x y H Q))
theorem op_addA : OpR X (binaryOp .Add) (rAddA X.K) := op_add.or (op_add_str.or (op_catT.or op_cat))
theorem oAdd : OpA K (rAddA K) gAdd := by
  intro m S H x y v S' u w Q R ru rw_ e q
  unfold gAdd at e
  split at e
  · cases e
    cases ru
    cases rw_
    exact .inl ⟨_, _, rfl, rfl, q m _ H (.refl _ _) R (.int _)⟩
  · split at e
    · next h =>
      cases e
      cases ru
      cases rw_
      exact .inr (.inl ⟨_, _, rfl, rfl, h, q m _ H (.refl _ _) R (.str _)⟩)
    · cases e
  · next a as b =>
    split at e
    · next h =>
      cases e
      cases ru with
      | tup ha ra =>
        rename_i ad xs
        cases rw_ with
        | tup hb rb =>
          rename_i bd ys
          have l1 := ra.len
          have l2 := rb.len
          rw [List.length_cons] at l1
          refine .inr (.inr (.inl ⟨ad, bd, xs, ys, rfl, rfl, ha.sq, hb.sq, ?_, by omega, fun z => ?_, fun z p hp => ?_⟩))
          · intro z
            rw [z] at l1
            simp at l1
          · subst z
            have : b = [] := by
              cases b with
              | nil => rfl
              | cons _ _ => simp at l2
            subst this
            rw [List.append_nil] at q
            exact q m _ H (.refl _ _) R (.tup ha ra)
          · obtain ⟨R2, E2⟩ := R.tmp (o := .tup (xs ++ ys)) hp
            exact q m _ _ E2 R2 (.tup (.inl upd_same) ((ra.app rb).kp (E2.kp R)))
    · cases e
  · next i j =>
    split at e
    · next a b ea eb =>
      split at e
      · next h =>
        cases e
        cases ru with
        | ref ha =>
          cases rw_ with
          | ref hb =>
            obtain ⟨xs, hx, rx⟩ := R.ob _ _ _ ea ha
            obtain ⟨ys, hy, ry⟩ := R.ob _ _ _ eb hb
            refine .inr (.inr (.inr ⟨_, _, xs, ys, rfl, rfl, hx, hy, by rw [rx.len, ry.len]; exact h, fun p hp => ?_⟩))
            have k1 : Kp m H (m ++ [p]) (upd H p (.lst (xs ++ ys))) := .grow [p] (.new hp)
            obtain ⟨R2, E2⟩ := R.alloc (o := .lst (xs ++ ys)) (b := .lst (a ++ b)) hp ⟨_, upd_same, (rx.app ry).kp k1⟩
            refine q _ _ _ E2 R2 (.ref ?_)
            rw [← R.len, List.getElem?_concat_length]
      · cases e
    · cases e
  · cases e
theorem newList {m : List Addr} {S : Sto} {H : Hp} {xs : List V} {vs : List Val} (R : Rel K m S H) (r : VRs K H m xs vs) {Q : VK} (q : ∀ m' z H', Ext m H m' H' → Rel K m' (S ++ [.lst vs]) H' → VR K H' m' z (.ref S.length) → Q z H') : ∀ p, H p = none → Q (.ref p) (upd H p (.lst xs)) := fun p hp => by
  have k1 : Kp m H (m ++ [p]) (upd H p (.lst xs)) := .grow [p] (.new hp)
  obtain ⟨R2, E2⟩ := R.alloc (o := .lst xs) (b := .lst vs) hp ⟨_, upd_same, r.kp k1⟩
  refine q _ _ _ E2 R2 (.ref ?_)
  rw [← R.len, List.getElem?_concat_length]
theorem newTup {m : List Addr} {S : Sto} {H : Hp} {xs : List V} {vs : List Val} (R : Rel K m S H) (r : VRs K H m xs vs) {Q : VK} (q : ∀ m' z H', Ext m H m' H' → Rel K m' S H' → VR K H' m' z (.tup vs) → Q z H') : ∀ p, H p = none → Q (.ref p) (upd H p (.tup xs)) := fun p hp => by
  obtain ⟨R2, E2⟩ := R.tmp (o := .tup xs) hp
  exact q m _ _ E2 R2 (.tup (.inl upd_same) (r.kp (E2.kp R)))
theorem VRs.atI {H : Hp} {m : List Addr} {us : List V} {vs : List Val} (r : VRs K H m us vs) {i : Int} {v : Val} (h : L2.atI vs i = some v) : ∃ u, L2.atI us i = some u ∧ VR K H m u v := by
  unfold L2.atI at h ⊢
  rw [r.len]
  cases e : ixN vs.length i with
  | none => rw [e] at h; cases h
  | some j =>
    rw [e] at h
    exact r.get h
def gIx : Val → Val → Sto → Option (Val × Sto) := fun x y S => match x, y with
  | .tup vs, .int i => (atI vs i).map fun v => (v, S)
  | .ref n, .int i => match S[n]? with
    | some (.lst vs) => (atI vs i).map fun v => (v, S)
    | _ => none
  | .str z, .int i => if z.length ≤ sizeLine then (atI z.cps.toList i).map fun c => (.str ⟨#[c]⟩, S) else none
  | _, _ => none
theorem oIx : OpA K (rIx K) gIx := by
  intro m S H x y v S' u w Q R ru rw_ e q
  unfold gIx at e
  split at e
  · obtain ⟨v', e1, e2⟩ := Option.map_eq_some_iff.mp e
    cases e2
    cases rw_
    cases ru with
    | tup ha ra =>
      obtain ⟨z, h1, h2⟩ := ra.atI e1
      exact .inr (.inl ⟨_, _, _, z, rfl, rfl, ha.sq, h1, q m z H (.refl _ _) R h2⟩)
  · split at e
    · next vs en =>
      obtain ⟨v', e1, e2⟩ := Option.map_eq_some_iff.mp e
      cases e2
      cases rw_
      cases ru with
      | ref ha =>
        obtain ⟨xs, hx, rx⟩ := R.ob _ _ _ en ha
        obtain ⟨z, h1, h2⟩ := rx.atI e1
        exact .inl ⟨_, _, _, z, rfl, rfl, SqL.of hx, h1, q m z H (.refl _ _) R h2⟩
    · cases e
  · split at e
    · next hl =>
      obtain ⟨v', e1, e2⟩ := Option.map_eq_some_iff.mp e
      cases e2
      cases rw_
      cases ru
      exact .inr (.inr ⟨_, _, _, rfl, rfl, hl, e1, q m _ H (.refl _ _) R (.str _)⟩)
    · cases e
  · cases e
def cutL {α : Type} (xs : List α) (lo hi : Option Int) : List α := (xs.drop (HT.sIx xs.length 0 lo)).take (HT.sIx xs.length xs.length hi - HT.sIx xs.length 0 lo)
theorem VRs.cut {H : Hp} {m : List Addr} {us : List V} {vs : List Val} (r : VRs K H m us vs) (lo hi : Option Int) : VRs K H m (cutV us lo hi) (cutL vs lo hi) := by
  unfold cutV cutL
  rw [r.len]
  exact (r.drop _).take _
open Classical in
noncomputable def gSl : Val → Option Int → Option Int → Sto → Option (Val × Sto) := fun x lo hi S => match x with
  | .tup vs => if ¬ (HT.sIx vs.length 0 lo = 0 ∧ HT.sIx vs.length vs.length hi = vs.length) then some (.tup (cutL vs lo hi), S) else none
  | .ref n => match S[n]? with
    | some (.lst vs) => some (.ref S.length, S ++ [.lst (cutL vs lo hi)])
    | _ => none
  | .scr ns => some (.ref S.length, S ++ [.lst (cutL (ns.map Val.int) lo hi)])
  | _ => none
theorem vrs_ints {H : Hp} {m : List Addr} : ∀ ns : List Int, VRs K H m (ns.map V.int) (ns.map Val.int)
  | [] => .nil
  | n :: ns => .cons (.int n) (vrs_ints ns)
theorem vrs_strs {H : Hp} {m : List Addr} : ∀ ns : List Str, VRs K H m (ns.map V.str) (ns.map Val.str)
  | [] => .nil
  | n :: ns => .cons (.str n) (vrs_strs ns)
def rSlA (K : PySem.W.Frag) : V → Option Int → Option Int → Hp → VK → Prop := fun x lo hi H Q => rSlT K x lo hi H Q ∨ rSlL K x lo hi H Q
theorem sl_A : SlR X (rSlA X.K) := sl_tup.or sl_list
theorem oSl : SlA K (rSlA K) gSl := by
  intro m S H x lo hi v S' u Q R ru e q
  unfold gSl at e
  split at e
  · split at e
    · next hn =>
      cases e
      cases ru with
      | tup ha ra =>
        refine .inl ⟨_, _, rfl, ha.sq, by rw [ra.len]; exact hn, newTup R (ra.cut lo hi) q⟩
    · cases e
  · split at e
    · next vs en =>
      cases e
      cases ru with
      | ref ha =>
        obtain ⟨xs, hx, rx⟩ := R.ob _ _ _ en ha
        exact .inr ⟨_, _, rfl, SqL.of hx, newList R (rx.cut lo hi) q⟩
    · cases e
  · cases e
    cases ru with
    | scr ha => exact .inr ⟨_, _, rfl, ha.sq, newList R ((vrs_ints _).cut lo hi) q⟩
  · cases e
def gLen : List Val → Sto → Option (Val × Sto) := fun xs S => match xs with
  | [.tup vs] => some (.int vs.length, S)
  | [.ref n] => match S[n]? with
    | some (.lst vs) => some (.int vs.length, S)
    | some (.dic kvs) => some (.int kvs.length, S)
    | _ => none
  | [.str z] => if z.length ≤ sizeLine then some (.int z.length, S) else none
  | _ => none
def rLenA (K : PySem.W.Frag) : List V → Hp → VK → Prop := fun xs H Q => (∃ p ys, xs = [.ref p] ∧ (SqL K H p ys ∨ SqT K H p ys) ∧ Q (.int ys.length) H) ∨ ((∃ z, xs = [.str z] ∧ z.length ≤ sizeLine ∧ Q (.int z.length) H) ∨ (∃ d kvs, xs = [.ref d] ∧ H d = some (.dK kvs) ∧ Q (.int (kvs.length : Nat)) H))
theorem VRs.one_of {H : Hp} {m : List Addr} {us : List V} {v : Val} (r : VRs K H m us [v]) : ∃ u, us = [u] ∧ VR K H m u v := by
  cases r with
  | cons a b =>
    cases b
    exact ⟨_, rfl, a⟩
theorem cLen : CaA K (rLenA K) gLen := by
  intro m S H xs v S' us Q R ru e q
  unfold gLen at e
  split at e
  · cases e
    obtain ⟨u, rfl, r1⟩ := ru.one_of
    cases r1 with
    | tup ha ra => exact .inl ⟨_, _, rfl, .inr ha.sq, by rw [ra.len]; exact q m _ H (.refl _ _) R (.int _)⟩
  · split at e
    · next vs en =>
      cases e
      obtain ⟨u, rfl, r1⟩ := ru.one_of
      cases r1 with
      | ref ha =>
        obtain ⟨xs, hx, rx⟩ := R.ob _ _ _ en ha
        exact .inl ⟨_, _, rfl, .inl (SqL.of hx), by rw [rx.len]; exact q m _ H (.refl _ _) R (.int _)⟩
    · next kvs en =>
      cases e
      obtain ⟨u, rfl, r1⟩ := ru.one_of
      cases r1 with
      | ref ha =>
        obtain ⟨xs, hx, he, rx⟩ := R.ob _ _ _ en ha
        have l : xs.length = kvs.length := by simpa using congrArg List.length he
        exact .inr (.inr ⟨_, _, rfl, hx, by rw [l]; exact q m _ H (.refl _ _) R (.int _)⟩)
    · cases e
  · split at e
    · next hl =>
      cases e
      obtain ⟨u, rfl, r1⟩ := ru.one_of
      cases r1
      exact .inr (.inl ⟨_, rfl, hl, q m _ H (.refl _ _) R (.int _)⟩)
    · cases e
  · cases e
theorem call_lenA : CallR X (.builtin "len") (rLenA X.K) := CallR.or call_len_seq (CallR.or call_len_str call_lenD)
def gAbs : List Val → Sto → Option (Val × Sto) := fun xs S => match xs with
  | [.int i] => some (.int (if i < 0 then -i else i), S)
  | _ => none
theorem cAbs : CaA K (fun xs H Q => ∃ i, xs = [.int i] ∧ Q (.int (if i < 0 then -i else i)) H) gAbs := by
  intro m S H xs v S' us Q R ru e q
  unfold gAbs at e
  split at e
  · cases e
    obtain ⟨u, rfl, r1⟩ := ru.one_of
    cases r1
    exact ⟨_, rfl, q m _ H (.refl _ _) R (.int _)⟩
  · cases e
def gTuple : List Val → Sto → Option (Val × Sto) := fun xs S => match xs with
  | [.tup vs] => some (.tup vs, S)
  | [.ref n] => match S[n]? with
    | some (.lst vs) => some (.tup vs, S)
    | _ => none
  | _ => none
theorem cTuple : CaA K (fun xs H Q => ∃ p ys, xs = [.ref p] ∧ ((SqL K H p ys ∧ ∀ l, H l = none → Q (.ref l) (upd H l (.tup ys))) ∨ (SqT K H p ys ∧ Q (.ref p) H))) gTuple := by
  intro m S H xs v S' us Q R ru e q
  unfold gTuple at e
  split at e
  · cases e
    obtain ⟨u, rfl, r1⟩ := ru.one_of
    cases r1 with
    | tup ha ra => exact ⟨_, _, rfl, .inr ⟨ha.sq, q m _ H (.refl _ _) R (.tup ha ra)⟩⟩
  · split at e
    · next vs en =>
      cases e
      obtain ⟨u, rfl, r1⟩ := ru.one_of
      cases r1 with
      | ref ha =>
        obtain ⟨xs, hx, rx⟩ := R.ob _ _ _ en ha
        exact ⟨_, _, rfl, .inl ⟨SqL.of hx, newTup R rx q⟩⟩
    · cases e
  · cases e
def gList : List Val → Sto → Option (Val × Sto) := fun xs S => match xs with
  | [.tup vs] => some (.ref S.length, S ++ [.lst vs])
  | [.ref n] => match S[n]? with
    | some (.lst vs) => some (.ref S.length, S ++ [.lst vs])
    | _ => none
  | _ => none
theorem cList : CaA K (fun xs H Q => ∃ p ys, xs = [.ref p] ∧ (SqL K H p ys ∨ SqT K H p ys) ∧ ∀ l, H l = none → Q (.ref l) (upd H l (.lst ys))) gList := by
  intro m S H xs v S' us Q R ru e q
  unfold gList at e
  split at e
  · cases e
    obtain ⟨u, rfl, r1⟩ := ru.one_of
    cases r1 with
    | tup ha ra => exact ⟨_, _, rfl, .inr ha.sq, newList R ra q⟩
  · split at e
    · next vs en =>
      cases e
      obtain ⟨u, rfl, r1⟩ := ru.one_of
      cases r1 with
      | ref ha =>
        obtain ⟨xs, hx, rx⟩ := R.ob _ _ _ en ha
        exact ⟨_, _, rfl, .inl (SqL.of hx), newList R rx q⟩
    · cases e
  · cases e
def isL : Val → Sto → Bool := fun v S => match v with
  | .ref n => match S[n]? with
    | some (.lst _) => true
    | _ => false
  | _ => false
theorem tyL : TyA K "list" isL := by
  intro m S H u v R r h
  unfold isL at h
  split at h
  · split at h
    · next n _ vs en =>
      cases r with
      | ref ha =>
        obtain ⟨xs, hx, rx⟩ := R.ob _ _ _ en ha
        exact .inl ⟨rfl, xs, SqL.of hx⟩
    · cases h
  · cases h
def gApp : Val → List Val → Sto → Option (Val × Sto) := fun x xs S => match x, xs with
  | .ref n, [v] => match S[n]? with
    | some (.lst vs) => if vs.length < sizeLine then some (.non, S.set n (.lst (vs ++ [v]))) else none
    | _ => none
  | _, _ => none
theorem mApp : MtA K rAppend gApp := by
  intro m S H x xs v S' u us Q R ru rus e q
  unfold gApp at e
  split at e
  · split at e
    · next n v0 _ vs en =>
      split at e
      · next hl =>
        cases e
        cases ru with
        | ref ha =>
          obtain ⟨y, rfl, r1⟩ := rus.one_of
          obtain ⟨xs, hx, rx⟩ := R.ob _ _ _ en ha
          refine ⟨_, xs, y, rfl, rfl, hx, by rw [rx.len]; exact hl, ?_⟩
          have hm := List.mem_of_getElem? ha
          have k : Kp m H m (upd H _ (.lst (xs ++ [y]))) := R.kput hm
          obtain ⟨R2, E2⟩ := R.put (o := .lst (xs ++ [y])) (b := .lst (vs ++ [v0])) ha ⟨_, upd_same, (rx.kp k).app (r1.kp k).one⟩
          exact q m _ _ E2 R2 .non
      · cases e
    · cases e
  · cases e
def gPop : Val → List Val → Sto → Option (Val × Sto) := fun x xs S => match x, xs with
  | .ref n, [.int i] => match S[n]? with
    | some (.lst vs) => if -(2 ^ 63) ≤ i ∧ i < 2 ^ 63 then match seqIndex? i vs.length with
      | some k => match vs[k]? with
        | some y => some (y, S.set n (.lst (vs.eraseIdx k)))
        | none => none
      | none => none
      else none
    | _ => none
  | _, _ => none
theorem VRs.erase {H : Hp} {m : List Addr} : ∀ {us : List V} {vs : List Val} (n : Nat), VRs K H m us vs → VRs K H m (us.eraseIdx n) (vs.eraseIdx n)
  | _, _, _, .nil => .nil
  | _, _, 0, .cons a q => q
  | _, _, n + 1, .cons a q => .cons a (q.erase n)
theorem mPop : MtA K rPopAt gPop := by
  intro m S H x xs v S' u us Q R ru rus e q
  unfold gPop at e
  split at e
  · split at e
    · next n i _ vs en =>
      split at e
      · next hb =>
        split at e
        · next k ek =>
          split at e
          · next y ey =>
            cases e
            cases ru with
            | ref ha =>
              obtain ⟨z, rfl, r1⟩ := rus.one_of
              cases r1
              obtain ⟨xs, hx, rx⟩ := R.ob _ _ _ en ha
              obtain ⟨w, hw, rw_⟩ := rx.get ey
              refine ⟨_, xs, i, k, w, rfl, rfl, hx, hb.1, hb.2, by rw [rx.len]; exact ek, hw, ?_⟩
              have hm := List.mem_of_getElem? ha
              have kk : Kp m H m (upd H _ (.lst (xs.eraseIdx k))) := R.kput hm
              obtain ⟨R2, E2⟩ := R.put (o := .lst (xs.eraseIdx k)) (b := .lst (vs.eraseIdx k)) ha ⟨_, upd_same, (rx.kp kk).erase k⟩
              exact q m _ _ E2 R2 (rw_.kp kk)
          · cases e
        · cases e
      · cases e
    · cases e
  · cases e
def gSet : Val → Val → Val → Sto → Option Sto := fun o i v S => match o, i with
  | .ref n, .int k => match S[n]? with
    | some (.lst vs) => match ixN vs.length k with
      | some j => some (S.set n (.lst (vs.set j v)))
      | none => none
    | _ => none
  | _, _ => none
theorem stL : SetA K rSetL gSet := by
  intro m S H o i v S' uo ui u Q R ro ri rv e q
  unfold gSet at e
  split at e
  · split at e
    · next n k _ vs en =>
      split at e
      · next j ej =>
        cases e
        cases ri
        cases ro with
        | ref ha =>
          obtain ⟨xs, hx, rx⟩ := R.ob _ _ _ en ha
          have hm := List.mem_of_getElem? ha
          have kk : Kp m H m (upd H _ (.lst (xs.set j u))) := R.kput hm
          obtain ⟨R2, E2⟩ := R.put (o := .lst (xs.set j u)) (b := .lst (vs.set j v)) ha ⟨_, upd_same, (rx.kp kk).set (rv.kp kk) j⟩
          exact ⟨_, xs, k, j, rfl, rfl, hx, by rw [rx.len]; exact ej, q _ E2 R2⟩
      · cases e
    · cases e
  · cases e
def isNon : Val → Bool
  | .non => true
  | _ => false
def gIs : Val → Val → Sto → Option (Val × Sto) := fun x y S => match y with
  | .non => some (.bl (isNon x), S)
  | _ => none
def gIsN : Val → Val → Sto → Option (Val × Sto) := fun x y S => match y with
  | .non => some (.bl (!isNon x), S)
  | _ => none
theorem VR.isNon {H : Hp} {m : List Addr} {u : V} {v : Val} (r : VR K H m u v) : decide (u = .non) = AL.isNon v := by
  cases r <;> rfl
theorem oIs : OpA K (fun x y H Q => y = .non ∧ Q (.bl (decide (x = .non))) H) gIs := by
  intro m S H x y v S' u w Q R ru rw_ e q
  cases y <;> simp only [gIs] at e <;> try cases e
  cases rw_
  exact ⟨rfl, by rw [ru.isNon]; exact q m _ H (.refl _ _) R (.bl _)⟩
theorem oIsN : OpA K (fun x y H Q => y = .non ∧ Q (.bl (!decide (x = .non))) H) gIsN := by
  intro m S H x y v S' u w Q R ru rw_ e q
  cases y <;> simp only [gIsN] at e <;> try cases e
  cases rw_
  exact ⟨rfl, by rw [ru.isNon]; exact q m _ H (.refl _ _) R (.bl _)⟩
end
end AL
namespace Th
open PySem PySem.Spec PyProof.Rows L2 G
def But (f : Addr) (H H' : Hp) : Prop := ∀ b o, b ≠ f → H b = some o → H' b = some o
theorem But.of {f : Addr} {H H' : Hp} (a : Same H H') : But f H H' := fun x o _ e => a x o e
mutual
inductive Tr (f : Addr) (H : Hp) : V → PyData → Prop
  | non : Tr f H .non .none
  | bl (b : Bool) : Tr f H (.bl b) (.bool b)
  | int (i : Int) : Tr f H (.int i) (.int i)
  | str (x : Str) : Tr f H (.str x) (.str x)
  | lst {a : Addr} {xs : List V} {ds : List PyData} : a ≠ f → H a = some (.lst xs) → TrAll f H xs ds → Tr f H (.ref a) (.list ds)
  | tup {a : Addr} {xs : List V} {ds : List PyData} : a ≠ f → H a = some (.tup xs) → TrAll f H xs ds → Tr f H (.ref a) (.tuple ds)
inductive TrAll (f : Addr) (H : Hp) : List V → List PyData → Prop
  | nil : TrAll f H [] []
  | cons {v : V} {vs : List V} {d : PyData} {ds : List PyData} : Tr f H v d → TrAll f H vs ds → TrAll f H (v :: vs) (d :: ds)
end
section
variable {f : Addr} {H H' : Hp}
mutual
theorem Tr.keep (k : But f H H') : ∀ (d : PyData) (v : V), Tr f H v d → Tr f H' v d
  | .none, _, h => by cases h; exact .non
  | .bool b, _, h => by cases h; exact .bl _
  | .int i, _, h => by cases h; exact .int _
  | .str x, _, h => by cases h; exact .str _
  | .list ds, _, h => by
    cases h with
    | lst n e r => exact .lst n (k _ _ n e) (TrAll.keep k ds _ r)
  | .tuple ds, _, h => by
    cases h with
    | tup n e r => exact .tup n (k _ _ n e) (TrAll.keep k ds _ r)
  | .dict _, _, h => by cases h
theorem TrAll.keep (k : But f H H') : ∀ (ds : List PyData) (vs : List V), TrAll f H vs ds → TrAll f H' vs ds
  | [], _, h => by cases h; exact .nil
  | d :: ds, _, h => by
    cases h with
    | cons a r => exact .cons (Tr.keep k d _ a) (TrAll.keep k ds _ r)
end
theorem Tr.k {v : V} {d : PyData} (h : Tr f H v d) (k : But f H H') : Tr f H' v d := Tr.keep k d v h
theorem TrAll.k {vs : List V} {ds : List PyData} (h : TrAll f H vs ds) (k : But f H H') : TrAll f H' vs ds := TrAll.keep k ds vs h
mutual
theorem Tr.dpA (K : PySem.W.Frag) : ∀ (d : PyData) (v : V), Tr f H v d → Dp K H v d
  | .none, _, h => by cases h; exact .non
  | .bool b, _, h => by cases h; exact .bl _
  | .int i, _, h => by cases h; exact .int _
  | .str x, _, h => by cases h; exact .str _
  | .list ds, _, h => by
    cases h with
    | lst n e r => exact .lst (SqL.of e) (TrAll.dpA K ds _ r)
  | .tuple ds, _, h => by
    cases h with
    | tup n e r => exact .tup (SqT.of e) (TrAll.dpA K ds _ r)
  | .dict _, _, h => by cases h
theorem TrAll.dpA (K : PySem.W.Frag) : ∀ (ds : List PyData) (vs : List V), TrAll f H vs ds → DpAll K H vs ds
  | [], _, h => by cases h; exact .nil
  | d :: ds, _, h => by
    cases h with
    | cons a r => exact .cons (Tr.dpA K d _ a) (TrAll.dpA K ds _ r)
end
theorem Tr.dp {K : PySem.W.Frag} {v : V} {d : PyData} (h : Tr f H v d) : Dp K H v d := Tr.dpA K d v h
theorem TrAll.dp {K : PySem.W.Frag} {vs : List V} {ds : List PyData} (h : TrAll f H vs ds) : DpAll K H vs ds := TrAll.dpA K ds vs h
theorem TrAll.len : ∀ {vs : List V} {ds : List PyData}, TrAll f H vs ds → vs.length = ds.length
  | _, _, .nil => rfl
  | _, _, .cons _ r => by rw [List.length_cons, List.length_cons, r.len]
theorem TrAll.take : ∀ {vs : List V} {ds : List PyData} (n : Nat), TrAll f H vs ds → TrAll f H (vs.take n) (ds.take n)
  | _, _, 0, _ => .nil
  | _, _, _ + 1, .nil => .nil
  | _, _, n + 1, .cons a r => .cons a (TrAll.take n r)
theorem Tr.one {v : V} {d : PyData} (h : Tr f H v d) : TrAll f H [v] [d] := .cons h .nil

def ty : PyData → String
  | .none => "NoneType"
  | .bool _ => "bool"
  | .int _ => "int"
  | .str _ => "str"
  | .list _ => "list"
  | .tuple _ => "tuple"
  | .dict _ => "dict"
end
mutual
def okD : PyData → Bool
  | .none => true
  | .bool _ => true
  | .int i => decide (i.natAbs < 2 ^ 900)
  | .str x => PyData.strOk x
  | .list xs => okAll xs
  | .tuple xs => okAll xs
  | .dict _ => false
def okAll : List PyData → Bool
  | [] => true
  | x :: xs => okD x && okAll xs
end
mutual
theorem ok_show : ∀ d : PyData, okD d = true → d.showable = true ∧ d.hasDict = false ∧ d.canLay0 = true ∧ d.leavesShort 320 = true
  | .none, _ => ⟨rfl, rfl, rfl, rfl⟩
  | .bool _, _ => ⟨rfl, rfl, rfl, rfl⟩
  | .int i, h => by
    have h : i.natAbs < 2 ^ 900 := of_decide_eq_true h
    have l : i.natAbs.log2 < 900 := PySem.Flt.log2_lt_of (by decide) h
    refine ⟨decide_eq_true (by omega), rfl, rfl, ?_⟩
    have t := int_text_length_le10 (a := i) (k := 300) (by decide) (Nat.lt_trans h (by decide))
    show decide ((PyData.shown (.int i)).length ≤ 320) = true
    have e : (PyData.shown (.int i)).length = (toString i).length := by
      show (Str.ofString (toString i)).length = _
      exact PySem.ofString_length _
    rw [e]
    exact decide_eq_true (by omega)
  | .str x, h => by
    refine ⟨rfl, rfl, h, ?_⟩
    show (x.cps.toList.all fun c => decide (c < 16 ^ 8)) = true
    have h2 : x.cps.all (· < 0x110000) = true := h
    rw [List.all_eq_true]
    intro c hc
    have h3 := (Array.all_eq_true_iff_forall_mem.mp h2) c (by simpa using hc)
    have h4 : c < 0x110000 := of_decide_eq_true h3
    exact decide_eq_true (by omega)
  | .list xs, h => ok_showAll xs h
  | .tuple xs, h => ok_showAll xs h
  | .dict _, h => by cases (h : false = true)
theorem ok_showAll : ∀ ds : List PyData, okAll ds = true → PyData.showableAll ds = true ∧ PyData.hasDictAll ds = false ∧ PyData.canLayAll0 ds = true ∧ PyData.leavesShortAll 320 ds = true
  | [], _ => ⟨rfl, rfl, rfl, rfl⟩
  | d :: ds, h => by
    have h : (okD d && okAll ds) = true := h
    rw [Bool.and_eq_true] at h
    obtain ⟨a1, a2, a3, a4⟩ := ok_show d h.1
    obtain ⟨b1, b2, b3, b4⟩ := ok_showAll ds h.2
    refine ⟨?_, ?_, ?_, ?_⟩
    · show (PyData.showable d && PyData.showableAll ds) = true
      rw [a1, b1]; rfl
    · show (PyData.hasDict d || PyData.hasDictAll ds) = false
      rw [a2, b2]; rfl
    · show (PyData.canLay0 d && PyData.canLayAll0 ds) = true
      rw [a3, b3]; rfl
    · show (PyData.leavesShort 320 d && PyData.leavesShortAll 320 ds) = true
      rw [a4, b4]; rfl
end

structure Fine (w n : Nat) (d : PyData) : Prop where
  ok : okD d = true
  wt : d.weight ≤ w
  dp : d.depth ≤ n
theorem Fine.shown {w n : Nat} {d : PyData} (h : Fine w n d) (hw : w ≤ 40000) : d.shown.length ≤ sizeLine := by
  have z := PyData.shown_le 320 (by decide) d (ok_show d h.ok).2.2.2
  have e : sizeLine = 16777216 := rfl
  have := h.wt
  omega
theorem Fine.shaped {w n : Nat} {d : PyData} (h : Fine w n d) (hn : n ≤ 64) : SeqAt.shaped d = true := by
  show (d.canLay0 && decide (d.depth ≤ 64)) = true
  rw [Bool.and_eq_true]
  exact ⟨(ok_show d h.ok).2.2.1, decide_eq_true (Nat.le_trans h.dp hn)⟩
section
variable {X : Cx}

def rRep (f : Addr) : List V → Hp → VK → Prop := fun xs H Q => ∃ (v : V) (d : PyData) (w n : Nat), xs = [v] ∧ Tr f H v d ∧ Fine w n d ∧ w ≤ 40000 ∧ n ≤ 40 ∧ Q (.str d.shown) H
end
end Th
namespace ET
open PySem PySem.Spec PyProof.Rows L2
abbrev itO (l : Addr) : Obj := { cls := .type "tuple_iterator", data := .fields #[.ref l, .int 0 0] }
abbrev enO (it : Addr) : Obj := { cls := .type "enumerate", data := .fields #[.none, .bool false, .ref it, rawInt 0, .none, .none] }
theorem new_enumT (l : Addr) (items : Array Value) :
    Meets (Builtin.«enumerate.__new__» ⟨[.type "enumerate", .ref l], []⟩) (fun _ R s => s.heap.IsTuple l items ∧
      R (.ok (.ret (.ref (s.heap.push (itO l)).objs.size))) { s with heap := (s.heap.push (itO l)).push (enO s.heap.objs.size) }) :=
  .of_wp fun prog w A R s h => by
    obtain ⟨hp, g, d, tk, os⟩ := s
    obtain ⟨hT, h⟩ := h
    have hsub := sub_enumerate
    obtain ⟨o, hl, hc, n, hd⟩ := id hT
    wp_walk using wpAny_loadPart' hl
    refine wpAny_stack_any fun st => wpAny_pure ?_
    split
    · rename_i c _ _ _ _ _
      cases (c == Value.type "enumerate") <;> (wp_walk using wpAny_loadPart' hl, wpAny_pyIter_tuple hT; exact ⟨_, rfl, h⟩)
    · wp_walk using wpAny_loadPart' hl, wpAny_pyIter_tuple hT
      exact ⟨_, rfl, h⟩
section
variable {prog : Program} {w : World} {A : Around} {E : Value → Shared → Prop} {s : Shared}
theorem call_enumT {l : Addr} {items : Array Value} {Q : Value → Shared → Prop} (hT : s.heap.IsTuple l items)
    (h : ∀ h', IsEnum h' (s.heap.objs.size + 1) s.heap.objs.size 0 .none → h'.IsTupleIter s.heap.objs.size l 0 →
      (∀ b o, s.heap.get? b = some o → h'.get? b = some o) → Q (.ref (s.heap.objs.size + 1)) { s with heap := h' }) :
    wpAny (model prog w) A (call (.type "enumerate") [.ref l]) Q E s := by
  refine callType_new F.called_enumerate (by decide) (F.typeCall_enumerate_1 _) (F.newCall_enumerate_1 _) (fun obj => F.args_object_init_2 obj _) F.entry_enumerate_new (new_enumT l items) ⟨hT, ?_⟩
  have z : (s.heap.push (itO l)).objs.size = s.heap.objs.size + 1 := Heap.size_push ..
  have at1 : ((s.heap.push (itO l)).push (enO s.heap.objs.size)).get? (s.heap.objs.size + 1) = some (enO s.heap.objs.size) := by
    rw [← z]
    exact Heap.get?_push_size _ rfl
  show _ ∧ _
  rw [z]
  exact ⟨⟨_, at1, rfl⟩, h _ at1 ⟨_, Heap.get?_push_of_some _ (Heap.get?_push_size _ rfl), rfl, rfl⟩ fun b o x => Heap.get?_push_of_some _ (Heap.get?_push_of_some _ x)⟩
end

def IteT (K : PySem.W.Frag) (a : Addr) : It where
  go := fun i H => ∃ (xs : List V) (x : V), SqT K H a xs ∧ xs[i]? = some x
  yld := fun i H v H' => ∃ T x, v = .ref T ∧ H T = none ∧ H' = upd H T (.tup [.int (i : Nat), x]) ∧ ∀ xs, SqT K H a xs → xs[i]? = some x
  stop := fun i H => ∃ xs : List V, SqT K H a xs ∧ xs.length = i
theorem turn_enumT {P : Program} {w : World} {K : PySem.W.Frag} {elts : List Expr} {kk : Nat} {tpos : Pos} (a e it : Addr) :
    Turn P w K (.Tuple elts kk tpos) (IteT K a) [e, it] e (fun i h => (∃ old, IsEnum h e it ((i : Nat) : Int) old) ∧ h.IsTupleIter it a i ∧ e ≠ it ∧ a ≠ it ∧ a ≠ e) where
  mem := by simp
  obj := by
    rintro i h ⟨⟨old, he⟩, ⟨o, ho, hc, hd⟩, _⟩ b hb
    simp only [List.mem_cons, List.not_mem_nil, or_false] at hb
    rcases hb with rfl | rfl
    · exact ⟨_, he, fun v q => nomatch q⟩
    · exact ⟨o, ho, fun v q => by rw [hd] at q; cases q⟩
  keep := by
    rintro i h h' ⟨⟨old, he⟩, hi, hne⟩ k
    exact ⟨⟨old, k e (by simp) _ he⟩, hi.at fun o q => k it (by simp) o q, hne⟩
  item := by
    intro X hP hw hK hc i pins s σ H E I hf st hg
    subst hP hw hK
    obtain ⟨⟨old, he⟩, hit, hne, n1, n2⟩ := st
    obtain ⟨xs, x, hq, hx⟩ := hg
    obtain ⟨its, rv, p, hz⟩ := I.tuple hq
    obtain ⟨u, hu, ru⟩ := rv.get hx
    have le : e < s.heap.objs.size := Heap.lt_size he
    have li : it < s.heap.objs.size := by
      obtain ⟨_, q, _⟩ := hit
      exact Heap.lt_size q
    have hlen : i < its.toArray.size := by
      have := (List.getElem?_eq_some_iff.mp hu).1
      simpa using this
    refine wpAny_pyNext_enum_itemD (Draws.tuple (A := X.A.in1) (I.ok.hd hc) it a n1 its.toArray) he ⟨hit, p⟩ hlen hne (by simp; exact ⟨hne, n2.symm⟩) fun y h' tk hy ho hst hT hsz hk => ?_
    have ey : y = u := by
      have hy' : its.toArray[i]? = some y := hy
      have hu' : its.toArray[i]? = some u := by simpa using hu
      rw [hu'] at hy'
      exact (Option.some.inj hy').symm
    subst ey
    refine ⟨_, rfl, wpAny_letOwnedTupleGo_enum (s := { s with heap := h', toks := tk + 1 }) ho fun h'' he' sb => ?_⟩
    have nw : h''.get? s.heap.objs.size = some { cls := .type "tuple", data := .seq #[.int i tk, y] } := (sb.2 _ (Nat.ne_of_gt le)).trans hT
    have I1 : Inv X pins σ (upd H s.heap.objs.size (.tup [.int (i : Nat), x])) { s with heap := h'', toks := tk + 1 } := by
      refine I.turnedNew (ch := [e, it]) (fun b ob hb q => ?_) hf (Nat.le_refl _) ⟨by show 2 ≤ sizeLine; decide, [.int i tk, y], .cons ⟨_, rfl⟩ (.cons ru .nil), ⟨_, nw, rfl, _, rfl⟩⟩
      have b1 : b ≠ e := fun z => hb (by simp [z])
      have b2 : b ≠ it := fun z => hb (by simp [z])
      exact (sb.2 b b1).trans (hk b ob b1 b2 q)
    refine ⟨.ref s.heap.objs.size, _, I1, rfl, ⟨_, x, rfl, I.hok.fresh (Nat.le_refl _), rfl, fun ys hy => by rw [I.tuple_inj hy hq]; exact hx⟩, ⟨⟨y, ?_⟩, hst.1.at fun o q => (sb.2 it hne.symm).trans q, hne, n1, n2⟩, fun b hb => ?_⟩
    · have e1 : ((i + 1 : Nat) : Int) = (i : Int) + 1 := by omega
      rw [e1]
      exact he'
    · have lb : b < s.heap.objs.size := by
        simp only [List.mem_cons, List.not_mem_nil, or_false] at hb
        rcases hb with rfl | rfl
        · exact le
        · exact li
      rw [upd_ne (Nat.ne_of_lt lb)]
      exact (hf b hb).1
  done := by
    intro X hP hw hK hc i pins s σ H E I hf st hg
    subst hP hw hK
    obtain ⟨⟨old, he⟩, hit, hne, n1, n2⟩ := st
    obtain ⟨xs, hq, hx⟩ := hg
    obtain ⟨its, rv, p, hz⟩ := I.tuple hq
    obtain ⟨f0, f1, f2, f3, f4, f5⟩ := hf it (by simp)
    have e : i = its.toArray.size := by
      rw [← hx, rv.length]
      simp
    refine wpAny_pyNext_enum_endD (Draws.tuple (A := X.A.in1) (I.ok.hd hc) it a n1 its.toArray) he ⟨by rw [← e]; exact hit, p⟩ fun h' eb => ⟨rfl, ?_⟩
    exact I.turned (t' := s.toks) (fun b o hb q => eb b o hb q) f0 f1 f3 f4 f5
  self := by
    rintro A i s Q E ⟨⟨_, he⟩, _⟩ h
    exact wpAny_pyIter_enum he h

def iEnumT (K : PySem.W.Frag) (ta : TA) : TI := fun σ H R => ta σ H fun vs H1 => ∃ a xs, vs = [.ref a] ∧ SqT K H1 a xs ∧ R (IteT K a) H1
theorem pi_enumT {X : Cx} {e : Expr} {ta : TA} {p pos tpos : Pos} {elts : List Expr} {kk : Nat} (hg : Gl X "enumerate") (hm : X.mg "enumerate" = none) (ha : PA X [e] ta)
    (hs : starEach [e] X.env = [(false, eval e X.env)] := by rfl) : PI X (.Tuple elts kk tpos) (.Call (.Name "enumerate" p) [e] [] pos) (iEnumT X.K ta) := by
  constructor
  intro pins s σ H R I h
  refine Call_ (ld_blt I hg hm boot_enumerate (PyProof.Rows.callWith_type1 (thn (ha.run pos pins s σ H _ I h) ?_) hs rfl))
  rintro us s1 ⟨vs, H1, I1, r1, a, xs, rfl, hq, q⟩
  obtain ⟨u, rfl, ru⟩ := vals1 r1
  cases ru
  obtain ⟨its, rv, pt, hz⟩ := I1.tuple hq
  have la : a < s1.heap.objs.size := by
    obtain ⟨o, ho, _⟩ := pt
    exact Heap.lt_size ho
  refine call_enumT pt fun h' he hit hk => wpAny_pyIter_enum he ?_
  refine ⟨s1.heap.objs.size + 1, [s1.heap.objs.size + 1, s1.heap.objs.size], _, _, H1, rfl, I1.kept (t' := s1.toks) hk, turn_enumT a (s1.heap.objs.size + 1) s1.heap.objs.size, ⟨⟨.none, he⟩, hit, Nat.succ_ne_self _, Nat.ne_of_lt la, Nat.ne_of_lt (Nat.lt_succ_of_lt la)⟩, fun b hb => ?_, q⟩
  have le : s1.heap.objs.size ≤ b := by
    simp only [List.mem_cons, List.not_mem_nil, or_false] at hb
    rcases hb with rfl | rfl
    · exact Nat.le_succ _
    · exact Nat.le_refl _
  exact I1.fpOk le (I1.hok.fresh le)
end ET
namespace AL
open PySem PySem.Spec PyProof.Rows L2 G Th
variable [TT]
def mapO {α β : Type} (f : α → Option β) : List α → Option (List β)
  | [] => some []
  | a :: as => (f a).bind fun b => (mapO f as).bind fun bs => some (b :: bs)
def toD (S : Sto) : Nat → Val → Option PyData
  | 0, _ => none
  | n + 1, v => match v with
    | .non => some .none
    | .bl b => some (.bool b)
    | .int i => some (.int i)
    | .str x => some (.str x)
    | .tup vs => (mapO (toD S n) vs).map .tuple
    | .ref k => match S[k]? with
      | some (.lst vs) => (mapO (toD S n) vs).map .list
      | _ => none
    | .scr _ => none
    | .lam _ _ _ _ _ => none
    | .exc _ _ _ _ => none
    | .ptu _ => none
    | .fn _ _ => none
section
variable {X : Cx} {K : PySem.W.Frag}
theorem toD_dp {m : List Addr} {S : Sto} {H : Hp} (R : Rel K m S H) : ∀ (n : Nat) (v : Val) (u : V) (d : PyData), VR K H m u v → toD S n v = some d → Dp K H u d
  | 0, _, _, _, _, h => by cases h
  | n + 1, v, u, d, r, h => by
    have go : ∀ (vs : List Val) (us : List V) (ds : List PyData), VRs K H m us vs → mapO (toD S n) vs = some ds → DpAll K H us ds := by
      intro vs
      induction vs with
      | nil =>
        intro us ds r h
        cases r
        cases h
        exact .nil
      | cons v vs ih =>
        intro us ds r h
        cases r with
        | cons a b =>
          obtain ⟨d1, h1, h⟩ := Option.bind_eq_some_iff.mp h
          obtain ⟨ds1, h2, h⟩ := Option.bind_eq_some_iff.mp h
          cases h
          exact .cons (toD_dp R n v _ d1 a h1) (ih _ _ b h2)
    unfold toD at h
    split at h
    · cases h; cases r; exact .non
    · cases h; cases r; exact .bl _
    · cases h; cases r; exact .int _
    · cases h; cases r; exact .str _
    · obtain ⟨ds, h1, h2⟩ := Option.map_eq_some_iff.mp h
      cases h2
      cases r with
      | tup ha ra => exact .tup ha.sq (go _ _ _ ra h1)
    · split at h
      · next k _ vs en =>
        obtain ⟨ds, h1, h2⟩ := Option.map_eq_some_iff.mp h
        cases h2
        cases r with
        | ref ha =>
          obtain ⟨xs, hx, rx⟩ := R.ob _ _ _ en ha
          exact .lst (SqL.of hx) (go _ _ _ rx h1)
      · cases h
    · cases h
    · cases h
    · cases h
    · cases h
    · cases h
open Classical in
noncomputable def gRepr : List Val → Sto → Option (Val × Sto) := fun xs S => match xs with
  | [v] => match toD S 40 v with
    | some d => if okD d = true ∧ d.weight ≤ 40000 ∧ d.depth ≤ 40 then some (.str d.shown, S) else none
    | none => none
  | _ => none
def eqS : Val → Val → Option Bool
  | .int a, .int b => some (decide (a = b))
  | .str a, .str b => some (decide (a = b))
  | .bl a, .bl b => some (decide (a = b))
  | .non, .non => some true
  | .non, .int _ => some false
  | .int _, .non => some false
  | .non, .str _ => some false
  | .str _, .non => some false
  | .non, .bl _ => some false
  | .bl _, .non => some false
  | .int _, .str _ => some false
  | .str _, .int _ => some false
  | .str _, .bl _ => some false
  | .bl _, .str _ => some false
  | _, _ => none
def eqA (S : Sto) (x y : Val) : Option Bool := match eqS x y with
  | some b => some b
  | none => match toD S 40 x, toD S 40 y with
    | some d, some e => if SeqAt.shaped d = true ∧ SeqAt.shaped e = true then some (PyData.eqv d e) else none
    | _, _ => none
def gEq : Val → Val → Sto → Option (Val × Sto) := fun x y S => (eqA S x y).map fun b => (.bl b, S)
def gNe : Val → Val → Sto → Option (Val × Sto) := fun x y S => (eqA S x y).map fun b => (.bl (!b), S)
theorem eqS_ok {H : Hp} {m : List Addr} {x y : Val} {u w : V} {b : Bool} (ru : VR K H m u x) (rw_ : VR K H m w y) (h : eqS x y = some b) : scal u w = true ∧ decide (u = w) = b := by
  unfold eqS at h
  split at h <;> first | cases h | skip
  all_goals first
    | (cases ru; cases rw_; refine ⟨rfl, ?_⟩; simp)
    | skip
def rEqA (K : PySem.W.Frag) : R2 := fun x y H Q => rEq x y H Q ∨ rEqD K x y H Q
def rNeA (K : PySem.W.Frag) : R2 := fun x y H Q => rNe x y H Q ∨ rNeD K x y H Q
theorem op_eqA (hu : X.A.units + 64 < cLine) : OpR X (compareOp .Eq) (rEqA X.K) := op_eq.or (op_eqD hu)
theorem op_neA (hu : X.A.units + 64 < cLine) : OpR X (compareOp .NotEq) (rNeA X.K) := op_ne.or (op_neD hu)
theorem oEq : OpA K (rEqA K) gEq := by
  intro m S H x y v S' u w Q R ru rw_ e q
  obtain ⟨b, e1, e2⟩ := Option.map_eq_some_iff.mp e
  cases e2
  unfold eqA at e1
  split at e1
  · next b' es =>
    cases e1
    obtain ⟨h1, h2⟩ := eqS_ok ru rw_ es
    exact .inl ⟨h1, by rw [h2]; exact q m _ H (.refl _ _) R (.bl _)⟩
  · split at e1
    · next d1 d2 g1 g2 =>
      split at e1
      · next hs =>
        cases e1
        exact .inr ⟨d1, d2, toD_dp R 40 _ _ _ ru g1, toD_dp R 40 _ _ _ rw_ g2, hs.1, hs.2, q m _ H (.refl _ _) R (.bl _)⟩
      · cases e1
    · cases e1
theorem oNe : OpA K (rNeA K) gNe := by
  intro m S H x y v S' u w Q R ru rw_ e q
  obtain ⟨b, e1, e2⟩ := Option.map_eq_some_iff.mp e
  cases e2
  unfold eqA at e1
  split at e1
  · next b' es =>
    cases e1
    obtain ⟨h1, h2⟩ := eqS_ok ru rw_ es
    exact .inl ⟨h1, by rw [h2]; exact q m _ H (.refl _ _) R (.bl _)⟩
  · split at e1
    · next d1 d2 g1 g2 =>
      split at e1
      · next hs =>
        cases e1
        exact .inr ⟨d1, d2, toD_dp R 40 _ _ _ ru g1, toD_dp R 40 _ _ _ rw_ g2, hs.1, hs.2, q m _ H (.refl _ _) R (.bl _)⟩
      · cases e1
    · cases e1
def iSeq (f : EF) : IF := fun ρ S => (f ρ S).bind fun p => match p.1 with
  | .tup vs => some (vs, fun _ => True, p.2)
  | .ref n => match p.2[n]? with
    | some (.lst vs) => some (vs, fun S => S[n]? = some (.lst vs), p.2)
    | _ => none
  | _ => none
theorem it_tup {a : Addr} {m0 : List Addr} {H0 : Hp} {xs : List V} {vs : List Val} {S0 : Sto} (R0 : Rel K m0 S0 H0) (ha : TupAt K H0 a xs) (r : VRs K H0 m0 xs vs) : ItA K (Itt K a) m0 H0 vs (fun _ => True) := by
  refine ⟨fun i m S H E R _ v hv => ?_, fun m S H E R _ => ?_⟩
  · have k := E.kp R0
    obtain ⟨u, hu, ru⟩ := (r.kp k).get hv
    refine ⟨⟨xs, u, (ha.kp k).sq, hu⟩, fun x H' hy => ?_⟩
    obtain ⟨rfl, hx⟩ := hy
    have e := hx xs (ha.kp k).sq
    rw [hu] at e
    cases e
    exact ⟨R, .refl _ _, ru⟩
  · exact ⟨xs, (ha.kp (E.kp R0)).sq, by rw [r.len]; exact Nat.le_refl _⟩
theorem it_lst {n : Nat} {a : Addr} {m0 : List Addr} {H0 : Hp} {vs : List Val} (hn : m0[n]? = some a) : ItA K (Itl K a) m0 H0 vs (fun S => S[n]? = some (.lst vs)) := by
  have get : ∀ {m : List Addr} {S : Sto} {H : Hp}, Ext m0 H0 m H → Rel K m S H → S[n]? = some (.lst vs) → ∃ xs, H a = some (.lst xs) ∧ VRs K H m xs vs := fun {m S H} E R h => by
    have hm : m[n]? = some a := by
      obtain ⟨r, rfl⟩ := E.pre
      rw [List.getElem?_append_left (List.getElem?_eq_some_iff.mp hn).1]
      exact hn
    exact R.ob _ _ _ h hm
  refine ⟨fun i m S H E R ok v hv => ?_, fun m S H E R ok => ?_⟩
  · obtain ⟨xs, hx, rx⟩ := get E R ok
    obtain ⟨u, hu, ru⟩ := rx.get hv
    refine ⟨⟨xs, u, SqL.of hx, hu⟩, fun x H' hy => ?_⟩
    obtain ⟨rfl, hq⟩ := hy
    have e := hq xs (SqL.of hx)
    rw [hu] at e
    cases e
    exact ⟨R, .refl _ _, ru⟩
  · obtain ⟨xs, hx, rx⟩ := get E R ok
    exact ⟨xs, SqL.of hx, by rw [rx.len]; exact Nat.le_refl _⟩
theorem ais {tg e : Expr} {f : EF} (he : AE X e f) : AI X tg e (iSeq f) := pi_w (PI.or (pi_tup he) (pi_list he)) fun σ H W h => by
  obtain ⟨m, ρ, S, vs, ok, S', R, r, e, q⟩ := h
  obtain ⟨⟨x, S1⟩, e1, e⟩ := Option.bind_eq_some_iff.mp e
  dsimp only at e
  split at e
  · cases e
    refine .inl ⟨m, ρ, S, _, _, R, r, e1, fun m1 u H1 E1 R1 r1 => ?_⟩
    cases r1 with
    | tup ha ra => exact ⟨_, rfl, ⟨_, ha.sq⟩, q m1 H1 _ E1 R1 (it_tup R1 ha ra)⟩
  · split at e
    · next n _ vs' en =>
      cases e
      refine .inr ⟨m, ρ, S, _, _, R, r, e1, fun m1 u H1 E1 R1 r1 => ?_⟩
      cases r1 with
      | ref ha =>
        obtain ⟨xs, hx, rx⟩ := R1.ob _ _ _ en ha
        exact ⟨_, rfl, ⟨_, SqL.of hx⟩, q m1 H1 _ E1 R1 (it_lst ha)⟩
    · cases e
  · cases e

def rangeV (lo : Int) (n : Nat) : List Val := (List.range n).map fun (k : Nat) => .int (lo + (k : Int))
def iRg1 (ga : AF) : IF := fun ρ S => (ga ρ S).bind fun p => match p.1 with
  | [.int j] => if -(2 ^ 62) ≤ j ∧ j < 2 ^ 62 then some (rangeV 0 j.toNat, fun _ => True, p.2) else none
  | _ => none
def iRg2 (ga : AF) : IF := fun ρ S => (ga ρ S).bind fun p => match p.1 with
  | [.int i, .int j] => if -(2 ^ 62) ≤ i ∧ i < 2 ^ 62 ∧ -(2 ^ 62) ≤ j ∧ j < 2 ^ 62 then some (rangeV i (j - i).toNat, fun _ => True, p.2) else none
  | _ => none
theorem it_rg {lo : Int} {n : Nat} {m0 : List Addr} {H0 : Hp} : ItA K (Itr lo n) m0 H0 (rangeV lo n) (fun _ => True) := by
  refine ⟨fun i m S H E R _ v hv => ?_, fun m S H E R _ => ?_⟩
  · unfold rangeV at hv
    rw [List.getElem?_map] at hv
    obtain ⟨k, hk, rfl⟩ := Option.map_eq_some_iff.mp hv
    obtain ⟨l, rfl⟩ := List.getElem?_eq_some_iff.mp hk
    rw [List.length_range] at l
    refine ⟨l, fun x H' hy => ?_⟩
    obtain ⟨rfl, rfl⟩ := hy
    rw [List.getElem_range]
    exact ⟨R, .refl _ _, .int _⟩
  · show n ≤ (rangeV lo n).length
    simp [rangeV]
theorem air1 {tg a : Expr} {ga : AF} {p pos : Pos} (hg : Gl X "range") (hm : X.mg "range" = none) (ha : AA X [a] ga) (hs : starEach [a] X.env = [(false, eval a X.env)] := by rfl) : AI X tg (.Call (.Name "range" p) [a] [] pos) (iRg1 ga) := pi_w (pi_range1 hg hm ha hs) fun σ H W h => by
  obtain ⟨m, ρ, S, vs, ok, S', R, r, e, q⟩ := h
  obtain ⟨⟨x, S1⟩, e1, e⟩ := Option.bind_eq_some_iff.mp e
  dsimp only at e
  split at e
  · split at e
    · next hb =>
      cases e
      refine ⟨m, ρ, S, _, _, R, r, e1, fun m1 us H1 E1 R1 r1 => ?_⟩
      obtain ⟨u, rfl, r2⟩ := r1.one_of
      cases r2
      exact ⟨_, rfl, hb.1, hb.2, q m1 H1 _ E1 R1 it_rg⟩
    · cases e
  · cases e
theorem air2 {tg a b : Expr} {ga : AF} {p pos : Pos} (hg : Gl X "range") (hm : X.mg "range" = none) (ha : AA X [a, b] ga) (hs : starEach [a, b] X.env = [(false, eval a X.env), (false, eval b X.env)] := by rfl) (hs2 : starEach [b] X.env = [(false, eval b X.env)] := by rfl) : AI X tg (.Call (.Name "range" p) [a, b] [] pos) (iRg2 ga) := pi_w (pi_range2 hg hm ha hs hs2) fun σ H W h => by
  obtain ⟨m, ρ, S, vs, ok, S', R, r, e, q⟩ := h
  obtain ⟨⟨x, S1⟩, e1, e⟩ := Option.bind_eq_some_iff.mp e
  dsimp only at e
  split at e
  · split at e
    · next hb =>
      cases e
      refine ⟨m, ρ, S, _, _, R, r, e1, fun m1 us H1 E1 R1 r1 => ?_⟩
      match us, r1 with
      | [_, _], .cons (.int i) (.cons (.int j) .nil) => exact ⟨_, _, rfl, hb, q m1 H1 _ E1 R1 it_rg⟩
    · cases e
  · cases e

def enumV (vs : List Val) : List Val := vs.zipIdx.map fun p => .tup [.int (p.2 : Nat), p.1]
def iEn (ga : AF) : IF := fun ρ S => (ga ρ S).bind fun p => match p.1 with
  | [.tup vs] => some (enumV vs, fun _ => True, p.2)
  | [.ref n] => match p.2[n]? with
    | some (.lst vs) => some (enumV vs, fun S => S[n]? = some (.lst vs), p.2)
    | _ => none
  | _ => none
theorem enumV_get {vs : List Val} {i : Nat} {v : Val} (h : (enumV vs)[i]? = some v) : ∃ x, vs[i]? = some x ∧ v = .tup [.int (i : Nat), x] := by
  unfold enumV at h
  rw [List.getElem?_map] at h
  obtain ⟨p, hp, rfl⟩ := Option.map_eq_some_iff.mp h
  rw [List.getElem?_zipIdx] at hp
  obtain ⟨x, hx, rfl⟩ := Option.map_eq_some_iff.mp hp
  exact ⟨x, hx, by simp⟩
theorem yl_new {m : List Addr} {S : Sto} {H : Hp} (R : Rel K m S H) {T : Addr} {xs : List V} {vs : List Val} (h : H T = none) (r : VRs K H m xs vs) : Rel K m S (upd H T (.tup xs)) ∧ Ext m H m (upd H T (.tup xs)) ∧ VR K (upd H T (.tup xs)) m (.ref T) (.tup vs) := by
  obtain ⟨R2, E2⟩ := R.tmp (o := .tup xs) h
  exact ⟨R2, E2, .tup (.inl upd_same) (r.kp (E2.kp R))⟩
theorem aie {e : Expr} {ga : AF} {p pos tpos : Pos} {elts : List Expr} {kk : Nat} (hg : Gl X "enumerate") (hm : X.mg "enumerate" = none) (ha : AA X [e] ga) (hs : starEach [e] X.env = [(false, eval e X.env)] := by rfl) : AI X (.Tuple elts kk tpos) (.Call (.Name "enumerate" p) [e] [] pos) (iEn ga) := pi_w (PI.or (ET.pi_enumT hg hm ha hs) (pi_enum hg hm ha hs)) fun σ H W h => by
  obtain ⟨m, ρ, S, vs, ok, S', R, r, e, q⟩ := h
  obtain ⟨⟨x, S1⟩, e1, e⟩ := Option.bind_eq_some_iff.mp e
  dsimp only at e
  split at e
  · next vs0 =>
    cases e
    refine .inl ⟨m, ρ, S, _, _, R, r, e1, fun m1 us H1 E1 R1 r1 => ?_⟩
    obtain ⟨u, rfl, r2⟩ := r1.one_of
    cases r2 with
    | tup ha ra =>
      rename_i ad xs
      refine ⟨_, _, rfl, ha.sq, q m1 H1 _ E1 R1 ⟨fun i m S H E R _ v hv => ?_, fun m S H E R _ => ?_⟩⟩
      · obtain ⟨y, hy, rfl⟩ := enumV_get hv
        have k := E.kp R1
        obtain ⟨u, hu, ru⟩ := (ra.kp k).get hy
        refine ⟨⟨xs, u, (ha.kp k).sq, hu⟩, fun x H' hyl => ?_⟩
        obtain ⟨T, z, rfl, hT, rfl, hz⟩ := hyl
        have e := hz xs (ha.kp k).sq
        rw [hu] at e
        cases e
        exact yl_new R hT (.cons (.int _) (.cons ru .nil))
      · refine ⟨xs, (ha.kp (E.kp R1)).sq, ?_⟩
        simp [enumV, ra.len]
  · split at e
    · next n _ vs0 en =>
      cases e
      refine .inr ⟨m, ρ, S, _, _, R, r, e1, fun m1 us H1 E1 R1 r1 => ?_⟩
      obtain ⟨u, rfl, r2⟩ := r1.one_of
      cases r2 with
      | ref ha =>
        rename_i ad
        obtain ⟨xs, hx, rx⟩ := R1.ob _ _ _ en ha
        have get : ∀ {m : List Addr} {S : Sto} {H : Hp}, Ext m1 H1 m H → Rel X.K m S H → S[n]? = some (.lst vs0) → ∃ xs, H ad = some (.lst xs) ∧ VRs X.K H m xs vs0 := fun {m S H} E R h => by
          have hm : m[n]? = some ad := by
            obtain ⟨r, rfl⟩ := E.pre
            rw [List.getElem?_append_left (List.getElem?_eq_some_iff.mp ha).1]
            exact ha
          exact R.ob _ _ _ h hm
        refine ⟨_, _, rfl, SqL.of hx, q m1 H1 _ E1 R1 ⟨fun i m S H E R ok v hv => ?_, fun m S H E R ok => ?_⟩⟩
        · obtain ⟨y, hy, rfl⟩ := enumV_get hv
          obtain ⟨xs, hx, rx⟩ := get E R ok
          obtain ⟨u, hu, ru⟩ := rx.get hy
          refine ⟨⟨xs, u, SqL.of hx, hu⟩, fun x H' hyl => ?_⟩
          obtain ⟨T, z, rfl, hT, rfl, hz⟩ := hyl
          have e := hz xs (SqL.of hx)
          rw [hu] at e
          cases e
          exact yl_new R hT (.cons (.int _) (.cons ru .nil))
        · obtain ⟨xs, hx, rx⟩ := get E R ok
          refine ⟨xs, SqL.of hx, ?_⟩
          simp [enumV, rx.len]
    · cases e
  · cases e

def zipV (vs ws : List Val) : List Val := (vs.zip ws).map fun p => .tup [p.1, p.2]
def iZp (ga : AF) : IF := fun ρ S => (ga ρ S).bind fun p => match p.1 with
  | [.tup vs, .tup ws] => some (zipV vs ws, fun _ => True, p.2)
  | [.tup vs, .ref n] => match p.2[n]? with
    | some (.lst ws) => if vs.length = ws.length then some (zipV vs ws, fun S => S[n]? = some (.lst ws), p.2) else none
    | _ => none
  | [.ref k, .ref n] => match p.2[k]?, p.2[n]? with
    | some (.lst vs), some (.lst ws) => some (zipV vs ws, fun S => S[k]? = some (.lst vs) ∧ S[n]? = some (.lst ws), p.2)
    | _, _ => none
  | _ => none
end
end AL
namespace AL
open PySem PySem.Spec PyProof.Rows L2 G Th
variable [TT]
def keyOf : Val → Option Key
  | .int i => some (.inl i)
  | .str x => some (.inr x)
  | _ => none
def valA (kvs : List (Key × Val)) (k : Key) : Option Val := (kvs.find? fun kv => decide (kv.1 = k)).map (·.2)
def putA (kvs : List (Key × Val)) (k : Key) (v : Val) : List (Key × Val) := if (kvs.any fun kv => decide (kv.1 = k)) = true then kvs.map (fun kv => if kv.1 = k then (kv.1, v) else kv) else kvs ++ [(k, v)]
section
variable {X : Cx} {K : PySem.W.Frag} {e a b o i : Expr} {pos : Pos} {fa fb fo fi f : EF}
theorem pe_or2 {t t' : TE} (h : PE X e t) (h' : PE X e t') : PE X e (fun σ H Q => t σ H Q ∨ t' σ H Q) := ⟨fun pins s σ H Q I hq => hq.elim (h.run pins s σ H Q I) (h'.run pins s σ H Q I)⟩
theorem pt_or2 {t t' : L2.TT} (h : PT X e t) (h' : PT X e t') : PT X e (fun σ H Q => t σ H Q ∨ t' σ H Q) := ⟨fun pins s σ H Q I hq => hq.elim (h.run pins s σ H Q I) (h'.run pins s σ H Q I)⟩
theorem ps_or2 {st : Stmt} {t t' : TS} (h : PS X st t) (h' : PS X st t') : PS X st (fun D σ H => t D σ H ∨ t' D σ H) := ⟨fun pins s σ H D I hq => hq.elim (h.run pins s σ H D I) (h'.run pins s σ H D I)⟩
theorem VR.key {H : Hp} {m : List Addr} {u : V} {v : Val} {k : Key} (r : VR K H m u v) (h : AL.keyOf v = some k) : u = kV k := by
  cases r <;> cases h <;> rfl

def KR (K : PySem.W.Frag) (H : Hp) (m : List Addr) (xs : List (Key × V)) (kvs : List (Key × Val)) : Prop := xs.map (·.1) = kvs.map (·.1) ∧ VRs K H m (xs.map (·.2)) (kvs.map (·.2))
theorem KR.nil {H : Hp} {m : List Addr} : KR K H m [] [] := ⟨rfl, .nil⟩
theorem KR.cons {H : Hp} {m : List Addr} {x : Key × V} {y : Key × Val} {xs : List (Key × V)} {kvs : List (Key × Val)} (h1 : x.1 = y.1) (h2 : VR K H m x.2 y.2) (r : KR K H m xs kvs) : KR K H m (x :: xs) (y :: kvs) := ⟨by simp [h1, r.1], .cons h2 r.2⟩
theorem KR.uncons {H : Hp} {m : List Addr} {y : Key × Val} {xs : List (Key × V)} {kvs : List (Key × Val)} (r : KR K H m xs (y :: kvs)) : ∃ x xs', xs = x :: xs' ∧ x.1 = y.1 ∧ VR K H m x.2 y.2 ∧ KR K H m xs' kvs := by
  obtain ⟨h1, h2⟩ := r
  cases xs with
  | nil => simp at h1
  | cons x xs =>
    simp only [List.map_cons, List.cons.injEq] at h1
    cases h2 with
    | cons a b => exact ⟨x, xs, rfl, h1.1, a, h1.2, b⟩
theorem KR.nil_of {H : Hp} {m : List Addr} {xs : List (Key × V)} (r : KR K H m xs []) : xs = [] := by
  have := r.1
  simpa using this
theorem KR.len {H : Hp} {m : List Addr} {xs : List (Key × V)} {kvs : List (Key × Val)} (r : KR K H m xs kvs) : xs.length = kvs.length := by simpa using congrArg List.length r.1
theorem KR.any {H : Hp} {m : List Addr} {xs : List (Key × V)} {kvs : List (Key × Val)} (r : KR K H m xs kvs) (k : Key) : (xs.any fun kv => decide (kv.1 = k)) = (kvs.any fun kv => decide (kv.1 = k)) := by
  induction kvs generalizing xs with
  | nil => rw [r.nil_of]; rfl
  | cons y kvs ih =>
    obtain ⟨x, xs', rfl, e, _, r'⟩ := r.uncons
    rw [List.any_cons, List.any_cons, ih r', e]
theorem KR.val {H : Hp} {m : List Addr} {xs : List (Key × V)} {kvs : List (Key × Val)} (r : KR K H m xs kvs) (k : Key) : (valV xs k = none ∧ valA kvs k = none) ∨ ∃ u v, valV xs k = some u ∧ valA kvs k = some v ∧ VR K H m u v := by
  induction kvs generalizing xs with
  | nil => rw [r.nil_of]; exact .inl ⟨rfl, rfl⟩
  | cons y kvs ih =>
    obtain ⟨x, xs', rfl, e, rv, r'⟩ := r.uncons
    by_cases h : y.1 = k
    · refine .inr ⟨x.2, y.2, ?_, ?_, rv⟩
      · simp [valV, List.find?_cons, e, h]
      · simp [valA, List.find?_cons, h]
    · have := ih r'
      simp only [valV, valA, List.find?_cons, e, h, decide_false] at this ⊢
      exact this
theorem KR.put {H : Hp} {m : List Addr} {xs : List (Key × V)} {kvs : List (Key × Val)} (r : KR K H m xs kvs) (k : Key) {u : V} {v : Val} (rv : VR K H m u v) : KR K H m (putK xs k u) (putA kvs k v) := by
  unfold putK putA
  rw [r.any k]
  split
  · rename_i hany
    clear hany
    induction kvs generalizing xs with
    | nil => rw [r.nil_of]; exact .nil
    | cons y kvs ih =>
      obtain ⟨x, xs', rfl, e, rv', r'⟩ := r.uncons
      rw [List.map_cons, List.map_cons]
      refine .cons ?_ ?_ (ih r')
      · rw [e]
        split <;> simp [e]
      · rw [e]
        split
        · exact rv
        · exact rv'
  · refine ⟨by simp [r.1], ?_⟩
    simp only [List.map_append, List.map_cons, List.map_nil]
    exact r.2.app rv.one
theorem KR.kp {H H' : Hp} {m m' : List Addr} {xs : List (Key × V)} {kvs : List (Key × Val)} (r : KR K H m xs kvs) (k : Kp m H m' H') : KR K H' m' xs kvs := ⟨r.1, r.2.kp k⟩
def gIxA : Val → Val → Sto → Option (Val × Sto) := fun x y S => match x with
  | .ref n => match S[n]? with
    | some (.dic kvs) => match AL.keyOf y with
      | some k => (valA kvs k).map fun v => (v, S)
      | none => none
    | _ => gIx x y S
  | _ => gIx x y S
theorem aixA (hu : X.A.units + 1 < cLine) (ha : AE X a fa) (hb : AE X b fb) (hs : PlainIx b) (hn : NoSl b) : AE X (.Subscript a b pos) (eB gIxA fa fb) := by
  refine pe_w (pe_or2 (pe_ix ix_seq ha hb hs) (pe_dget hu ha hb hn)) fun σ H Q h => ?_
  obtain ⟨m, ρ, S, v, S', R, r, e, q⟩ := h
  obtain ⟨⟨x, S1⟩, e1, e⟩ := Option.bind_eq_some_iff.mp e
  obtain ⟨⟨y, S2⟩, e2, e⟩ := Option.bind_eq_some_iff.mp e
  dsimp only at e e2
  have plain : gIx x y S2 = some (v, S') → tOp (rIx X.K) (tF X.K fa) (tF X.K fb) σ H Q := fun e => eB_ok oIx ⟨m, ρ, S, v, S', R, r, by simp only [eB, e1, e2, Option.bind_some, e], q⟩
  cases x with
  | ref n =>
    simp only [gIxA] at e
    split at e
    · next kvs en =>
      split at e
      · next k ek =>
        obtain ⟨v', ev, e3⟩ := Option.map_eq_some_iff.mp e
        cases e3
        refine .inr ⟨m, ρ, S, .ref n, S1, R, r, e1, fun m1 u H1 E1 R1 r1 => ⟨m1, ρ, S1, y, _, R1, r.kp (E1.kp R), e2, fun m2 w H2 E2 R2 r2 => ?_⟩⟩
        cases r1.kp (E2.kp R1) with
        | ref hm =>
          obtain ⟨xs, hx, hk⟩ := R2.ob _ _ _ en hm
          rcases KR.val hk k with ⟨_, z⟩ | ⟨u', v2, h1, h2, h3⟩
          · rw [ev] at z; cases z
          · rw [ev] at h2
            cases h2
            refine ⟨_, u', rfl, ?_, q m2 u' H2 (E1.trans E2) R2 h3⟩
            rw [r2.key ek, ← h1]
            exact DGet.k hx
      · cases e
    · exact .inl (plain e)
  | _ => exact .inl (plain e)

def eDic : EF := fun _ S => some (.ref S.length, S ++ [.dic []])
theorem newDic {m : List Addr} {S : Sto} {H : Hp} {xs : List (Key × V)} {kvs : List (Key × Val)} (R : Rel K m S H) (r : KR K H m xs kvs) {Q : VK} (q : ∀ m' z H', Ext m H m' H' → Rel K m' (S ++ [.dic kvs]) H' → VR K H' m' z (.ref S.length) → Q z H') : ∀ p, H p = none → Q (.ref p) (upd H p (.dK xs)) := fun p hp => by
  have k1 : Kp m H (m ++ [p]) (upd H p (.dK xs)) := .grow [p] (.new hp)
  obtain ⟨R2, E2⟩ := R.alloc (o := .dK xs) (b := .dic kvs) hp ⟨_, upd_same, r.kp k1⟩
  refine q _ _ _ E2 R2 (.ref ?_)
  rw [← R.len, List.getElem?_concat_length]
theorem adic : AE X (.Dict [] [] pos) eDic := pe_w pe_dnewK fun σ H Q h => by
  obtain ⟨m, ρ, S, v, S', R, r, e, q⟩ := h
  cases e
  exact newDic R .nil q

def gSetA : Val → Val → Val → Sto → Option Sto := fun o i v S => match o with
  | .ref n => match S[n]? with
    | some (.dic kvs) => match AL.keyOf i with
      | some k => if kvs.length < sizeLine then some (S.set n (.dic (putA kvs k v))) else none
      | none => none
    | _ => gSet o i v S
  | _ => none
theorem asuA {p2 : Pos} (hu : X.A.units + 1 < cLine) (he : AE X e f) (ho : AE X o fo) (hi : AE X i fi)
    (ha : ∀ v, assign (.Subscript o i pos) X.env v = (do
      let ov ← holding [v] (eval o X.env)
      let iv ← holding [v, ov] (eval i X.env)
      standAt pos
      holding [v, ov, iv] (setItem ov iv v)
      release [v, ov, iv] []) := by intro _; rfl)
    (hsw : swapsWithSole [.Subscript o i pos] e p2.line X.env = pure false := by rfl) (hw : swappedStores [.Subscript o i pos] e X.env = pure none := by rfl)
    (h1 : (assignEach [.Subscript o i pos] X.env).map (·.2) = [assign (.Subscript o i pos) X.env] := by rfl) (hs : swapsWith e (some (.Subscript o i pos)) p2.line X.env = pure false := by rfl) : AS X (.Assign [.Subscript o i pos] e p2) (sSub gSetA fo fi f) := by
  refine ps_w (ps_or2 (ps_asg he (pg_sub ho hi set_list ha) hsw hw h1) (ps_dput hu ho hi he hs)) fun D σ H h => ?_
  obtain ⟨m, ρ, S, R, r, q⟩ := h
  unfold sSub at q
  split at q
  · next v S1 e1 =>
    split at q
    · next ov S2 e2 =>
      split at q
      · next iv S3 e3 =>
        split at q
        · next S4 e4 =>
          unfold gSetA at e4
          split at e4
          · next n =>
            split at e4
            · next kvs en =>
              split at e4
              · next k ek =>
                split at e4
                · next hl =>
                  cases e4
                  refine .inr ⟨m, ρ, S, v, S1, R, r, e1, fun m1 u H1 E1 R1 r1 => ⟨m1, ρ, S1, _, S2, R1, r.kp (E1.kp R), e2, fun m2 uo H2 E2 R2 r2 => ⟨m2, ρ, S2, iv, S3, R2, r.kp ((E1.trans E2).kp R), e3, fun m3 ui H3 E3 R3 r3 => ?_⟩⟩⟩
                  have rv := r1.kp ((E2.trans E3).kp R1)
                  cases r2.kp (E3.kp R2) with
                  | ref hm =>
                    rename_i ad
                    obtain ⟨xs, hx, hk⟩ := R3.ob _ _ _ en hm
                    have hk : KR X.K H3 m3 xs kvs := hk
                    have hmm := List.mem_of_getElem? hm
                    have kk : Kp m3 H3 m3 (upd H3 ad (.dK (putK xs k u))) := R3.kput hmm
                    obtain ⟨R4, E4⟩ := R3.put (o := .dK (putK xs k u)) (b := .dic (putA kvs k v)) hm ⟨_, upd_same, (hk.put k rv).kp kk⟩
                    refine ⟨_, _, rfl, ?_, q m3 σ _ (((E1.trans E2).trans E3).trans E4) R4 (r.kp ((((E1.trans E2).trans E3).trans E4).kp R))⟩
                    rw [r3.key ek]
                    exact DPut.k hx (by rw [hk.len]; exact hl)
                · cases e4
              · cases e4
            · refine .inl ⟨m, ρ, S, v, S1, R, r, e1, fun m1 u H1 E1 R1 r1 => ⟨m1, ρ, S1, _, S2, R1, r.kp (E1.kp R), e2, fun m2 uo H2 E2 R2 r2 => ⟨m2, ρ, S2, iv, S3, R2, r.kp ((E1.trans E2).kp R), e3, fun m3 ui H3 E3 R3 r3 => ?_⟩⟩⟩
              refine stL m3 S3 H3 _ iv v S4 uo ui u _ R3 (r2.kp (E3.kp R2)) r3 (r1.kp ((E2.trans E3).kp R1)) e4 fun H4 E4 R4 => ?_
              exact q m3 σ H4 (((E1.trans E2).trans E3).trans E4) R4 (r.kp ((((E1.trans E2).trans E3).trans E4).kp R))
          · cases e4
        · exact q.elim
      · exact q.elim
    · exact q.elim
  · exact q.elim

def eGet1 (fo fi : EF) : EF := fun ρ S => (fo ρ S).bind fun p => match p.1 with
  | .ref n => match p.2[n]? with
    | some (.dic _) => (fi ρ p.2).bind fun q => match q.2[n]?, AL.keyOf q.1 with
      | some (.dic kvs), some k => some ((valA kvs k).getD .non, q.2)
      | _, _ => none
    | _ => none
  | _ => none
theorem aget1 {apos cpos : Pos} (hu : X.A.units + 1 < cLine) (ho : AE X o fo) (he : AE X e fi) (hm : M1 X o "get" apos e cpos) : AE X (.Call (.Attribute o "get" apos) [e] [] cpos) (eGet1 fo fi) := pe_w (pe_dget1 hu ho he hm) fun σ H Q h => by
  obtain ⟨m, ρ, S, v, S', R, r, e, q⟩ := h
  obtain ⟨⟨x, S1⟩, e1, e⟩ := Option.bind_eq_some_iff.mp e
  dsimp only at e
  split at e
  · next n =>
    split at e
    · next kvs0 en0 =>
      obtain ⟨⟨y, S2⟩, e2, e⟩ := Option.bind_eq_some_iff.mp e
      dsimp only at e
      split at e
      · next kvs k en ek =>
        cases e
        refine ⟨m, ρ, S, _, S1, R, r, e1, fun m1 u H1 E1 R1 r1 => ?_⟩
        cases r1 with
        | ref hm =>
          rename_i ad
          obtain ⟨xs0, hx0, _⟩ := R1.ob _ _ _ en0 hm
          refine ⟨ad, rfl, .inl ⟨xs0, .inl hx0⟩, m1, ρ, S1, y, _, R1, r.kp (E1.kp R), e2, fun m2 w H2 E2 R2 r2 => ?_⟩
          obtain ⟨xs, hx, hk⟩ := R2.ob _ _ _ en ((E2.kp R1).get hm)
          refine ⟨valV xs k, by rw [r2.key ek]; exact DGet.k hx, ?_⟩
          rcases KR.val hk k with ⟨z1, z2⟩ | ⟨u', v2, h1, h2, h3⟩
          · rw [z2] at q
            rw [z1]
            exact q m2 _ H2 (E1.trans E2) R2 .non
          · rw [h2] at q
            rw [h1]
            exact q m2 _ H2 (E1.trans E2) R2 h3
      · cases e
    · cases e
  · cases e
def eGet2 (fo fi fx : EF) : EF := fun ρ S => (fo ρ S).bind fun p => match p.1 with
  | .ref n => match p.2[n]? with
    | some (.dic _) => (fi ρ p.2).bind fun q => (fx ρ q.2).bind fun z => match z.2[n]?, AL.keyOf q.1 with
      | some (.dic kvs), some k => some ((valA kvs k).getD z.1, z.2)
      | _, _ => none
    | _ => none
  | _ => none
def flatA : Val → Bool
  | .non => true
  | .bl _ => true
  | .int _ => true
  | .str _ => true
  | _ => false
def eqF : Val → Val → Bool
  | .non, .non => true
  | .bl a, .bl b => a == b
  | .bl a, .int b => (if a then 1 else 0) == b
  | .int a, .bl b => a == (if b then 1 else 0)
  | .int a, .int b => a == b
  | .str a, .str b => a == b
  | _, _ => false
def inA (x : Val) (vs : List Val) : Bool := vs.any fun y => eqF y x
theorem VR.flat {H : Hp} {m : List Addr} {u : V} {v : Val} (r : VR K H m u v) (h : flatA v = true) : flatV u = true := by
  cases r <;> first | rfl | cases h
theorem VR.eqF {H : Hp} {m : List Addr} {u w : V} {v x : Val} (r : VR K H m u v) (r2 : VR K H m w x) (h : flatA v = true) (h2 : flatA x = true) : eqV u w = AL.eqF v x := by
  cases r <;> cases r2 <;> first | rfl | cases h | cases h2
theorem VRs.flat {H : Hp} {m : List Addr} : ∀ {us : List V} {vs : List Val}, VRs K H m us vs → vs.all flatA = true → us.all flatV = true
  | _, _, .nil, _ => rfl
  | _, _, .cons a r, h => by
    rw [List.all_cons, Bool.and_eq_true] at h
    rw [List.all_cons, a.flat h.1, r.flat h.2]
    rfl
theorem VRs.inA {H : Hp} {m : List Addr} {u : V} {x : Val} (ru : VR K H m u x) (hx : flatA x = true) : ∀ {us : List V} {vs : List Val}, VRs K H m us vs → vs.all flatA = true → inV u us = AL.inA x vs
  | _, _, .nil, _ => rfl
  | _, _, .cons a r, h => by
    rw [List.all_cons, Bool.and_eq_true] at h
    have := VRs.inA ru hx r h.2
    unfold inV AL.inA at this ⊢
    rw [List.any_cons, List.any_cons, this, a.eqF ru h.1 hx]
def gInS (neg : Bool) : Val → Val → Sto → Option (Val × Sto) := fun x y S => match y with
  | .tup vs => if flatA x && vs.all flatA then some (.bl (if neg then !inA x vs else inA x vs), S) else none
  | .ref n => match S[n]? with
    | some (.lst vs) => if flatA x && vs.all flatA then some (.bl (if neg then !inA x vs else inA x vs), S) else none
    | _ => none
  | _ => none
theorem oInS {neg : Bool} : OpA K (rIn K neg) (gInS neg) := by
  intro m S H x y v S' u w Q R ru rw_ e q
  unfold gInS at e
  split at e
  · next vs =>
    split at e
    · next h =>
      rw [Bool.and_eq_true] at h
      cases e
      cases rw_ with
      | tup ha ra =>
        refine ⟨_, _, rfl, .inr ha.sq, ru.flat h.1, ra.flat h.2, ?_⟩
        rw [VRs.inA ru h.1 ra h.2]
        exact q m _ H (.refl _ _) R (.bl _)
    · cases e
  · split at e
    · next n _ vs en =>
      split at e
      · next h =>
        rw [Bool.and_eq_true] at h
        cases e
        cases rw_ with
        | ref hm =>
          obtain ⟨xs, hx, rx⟩ := R.ob _ _ _ en hm
          refine ⟨_, _, rfl, .inl (SqL.of hx), ru.flat h.1, rx.flat h.2, ?_⟩
          rw [VRs.inA ru h.1 rx h.2]
          exact q m _ H (.refl _ _) R (.bl _)
      · cases e
    · cases e
  · cases e
def gIn (neg : Bool) : Val → Val → Sto → Option (Val × Sto) := fun x y S => match y with
  | .ref n => match S[n]? with
    | some (.dic kvs) => match AL.keyOf x with
      | some k => some (.bl (if neg then !(valA kvs k).isSome else (valA kvs k).isSome), S)
      | none => none
    | _ => gInS neg x y S
  | _ => gInS neg x y S
theorem gIn_ok {neg : Bool} {σ : L2.St} {H : Hp} {Q : VK} (h : tF K (eB (gIn neg) fa fb) σ H Q) :
    tOp (rIn K neg) (tF K fa) (tF K fb) σ H Q ∨ (tF K fa σ H fun y H1 => tF K fb σ H1 fun x H2 => ∃ a o, x = .ref a ∧ DGet H2 a y o ∧ Q (.bl (if neg then !o.isSome else o.isSome)) H2) := by
  obtain ⟨m, ρ, S, v, S', R, r, e, q⟩ := h
  obtain ⟨⟨x, S1⟩, e1, e⟩ := Option.bind_eq_some_iff.mp e
  obtain ⟨⟨y, S2⟩, e2, e⟩ := Option.bind_eq_some_iff.mp e
  dsimp only at e e2
  have plain : gInS neg x y S2 = some (v, S') → tOp (rIn K neg) (tF K fa) (tF K fb) σ H Q := fun e => eB_ok oInS ⟨m, ρ, S, v, S', R, r, by simp only [eB, e1, e2, Option.bind_some, e], q⟩
  unfold gIn at e
  split at e
  · next n =>
    split at e
    · next kvs en =>
      split at e
      · next k ek =>
        cases e
        refine .inr ⟨m, ρ, S, x, S1, R, r, e1, fun m1 u H1 E1 R1 r1 => ⟨m1, ρ, S1, _, _, R1, r.kp (E1.kp R), e2, fun m2 w H2 E2 R2 r2 => ?_⟩⟩
        cases r2 with
        | ref hm =>
          obtain ⟨xs, hx, hk⟩ := R2.ob _ _ _ en hm
          refine ⟨_, valV xs k, rfl, by rw [(r1.kp (E2.kp R1)).key ek]; exact DGet.k hx, ?_⟩
          have eq : (valV xs k).isSome = (valA kvs k).isSome := by
            rcases KR.val hk k with ⟨z1, z2⟩ | ⟨u', v2, h1, h2, h3⟩
            · rw [z1, z2]; rfl
            · rw [h1, h2]; rfl
          rw [eq]
          exact q m2 _ H2 (E1.trans E2) R2 (.bl _)
      · cases e
    · exact .inl (plain e)
  · exact .inl (plain e)
theorem atin (hu : X.A.units + 1 < cLine) (ha : AE X a fa) (hb : AE X b fb) (hm : behindInMarks .In b = false := by rfl) : AT X (.Compare a [.In] [b] pos) (eT (eB (gIn false) fa fb)) :=
  pt_w (pt_or2 (pt_cmpR op_in_seq ha hb hm) (pt_cmp (pc_din hu ha hb) hm)) fun σ H Q h => gIn_ok (eT_ok h)
theorem atnin (hu : X.A.units + 1 < cLine) (ha : AE X a fa) (hb : AE X b fb) (hm : behindInMarks .NotIn b = false := by rfl) : AT X (.Compare a [.NotIn] [b] pos) (eT (eB (gIn true) fa fb)) :=
  pt_w (pt_or2 (pt_cmpR op_notIn_seq ha hb hm) (pt_cmp (pc_dnotin hu ha hb) hm)) fun σ H Q h => gIn_ok (eT_ok h)
def strsOf : List Val → Option (List Str)
  | [] => some []
  | .str x :: r => (strsOf r).map (x :: ·)
  | _ => none
theorem strs_eq : ∀ {vs : List Val} {ss : List Str}, strsOf vs = some ss → vs = ss.map Val.str
  | [], ss, h => by cases h; rfl
  | .str x :: r, ss, h => by
    obtain ⟨t, h1, h2⟩ := Option.map_eq_some_iff.mp h
    cases h2
    rw [strs_eq h1]
    rfl
  | .non :: r, _, h => by cases h
  | .bl _ :: r, _, h => by cases h
  | .int _ :: r, _, h => by cases h
  | .tup _ :: r, _, h => by cases h
  | .ref _ :: r, _, h => by cases h
  | .scr _ :: r, _, h => by cases h
  | .lam _ _ _ _ _ :: r, _, h => by cases h
  | .exc _ _ _ _ :: r, _, h => by cases h
  | .ptu _ :: r, _, h => by cases h
  | .fn _ _ :: r, _, h => by cases h
theorem vrs_strs_inv {H : Hp} {m : List Addr} : ∀ {ss : List Str} {us : List V}, VRs K H m us (ss.map Val.str) → us = ss.map V.str
  | [], _, h => by cases h; rfl
  | s :: ss, _, h => by
    cases h with
    | cons a r =>
      cases a
      rw [vrs_strs_inv r]
      rfl
def leS (a b : Str) : Bool := !ltCps b.cps.toList a.cps.toList
def sortS (l : List Str) : List Str := l.mergeSort leS
theorem ltCps_iff : ∀ (a b : List Nat), ltCps a b = true ↔ a < b := by
  intro a b
  rw [PyProof.Rows.ltCps_eq, decide_eq_true_iff]
theorem leS_iff {a b : Str} : leS a b = true ↔ ¬ b.cps.toList < a.cps.toList := by
  unfold leS
  rw [Bool.not_eq_true', ← Bool.not_eq_true, ltCps_iff]
theorem leS_trans (a b c : Str) (h1 : leS a b = true) (h2 : leS b c = true) : leS a c = true := by
  rw [leS_iff] at *
  rw [List.not_lt] at *
  exact List.le_trans h1 h2
theorem leS_total (a b : Str) : (leS a b || leS b a) = true := by
  rw [Bool.or_eq_true, leS_iff, leS_iff, List.not_lt, List.not_lt]
  exact List.le_total _ _
theorem leS_anti {a b : Str} (h1 : leS a b = true) (h2 : leS b a = true) : a = b := by
  rw [leS_iff, List.not_lt] at *
  have := List.le_antisymm h1 h2
  cases a
  cases b
  simp only [Str.mk.injEq]
  simpa using this
theorem rising_pw : ∀ (p : Str) (l : List Str), risingS p l = true → (p :: l).Pairwise (fun a b => leS a b = true)
  | p, [], _ => by simp
  | p, x :: r, h => by
    have h : (!ltCps x.cps.toList p.cps.toList && risingS x r) = true := h
    rw [Bool.and_eq_true] at h
    have ih := rising_pw x r h.2
    rw [List.pairwise_cons]
    refine ⟨fun b hb => ?_, ih⟩
    rcases List.mem_cons.mp hb with rfl | hb
    · exact h.1
    · exact leS_trans p x b h.1 ((List.pairwise_cons.mp ih).1 b hb)
theorem sortS_uniq {xs ys : List Str} (hp : ys.Perm xs) (hs : sortedS ys = true) : ys = sortS xs := by
  have p1 : ys.Pairwise (fun a b => leS a b = true) := by
    cases ys with
    | nil => exact .nil
    | cons y ys => exact rising_pw y ys hs
  have p2 : (sortS xs).Pairwise (fun a b => leS a b = true) := List.pairwise_mergeSort leS_trans leS_total xs
  exact List.Perm.eq_of_pairwise (fun a b _ _ h1 h2 => leS_anti h1 h2) p1 p2 (hp.trans (List.mergeSort_perm xs leS).symm)
def keysS : List (Key × Val) → Option (List Str)
  | [] => some []
  | (.inr x, _) :: r => (keysS r).map (x :: ·)
  | _ => none
theorem keysS_eq : ∀ {kvs : List (Key × Val)} {ss : List Str}, keysS kvs = some ss → kvs.map (·.1) = ss.map Sum.inr
  | [], ss, h => by cases h; rfl
  | (.inr x, _) :: r, ss, h => by
    obtain ⟨t, h1, h2⟩ := Option.map_eq_some_iff.mp h
    cases h2
    rw [List.map_cons, keysS_eq h1]
    rfl
  | (.inl x, _) :: r, _, h => by cases h
def gSorted : List Val → Sto → Option (Val × Sto) := fun xs S => match xs with
  | [.ref n] => match S[n]? with
    | some (.lst vs) => match strsOf vs with
      | some ss => if ss.length < 64 then some (.ref S.length, S ++ [.lst ((sortS ss).map Val.str)]) else none
      | none => none
    | some (.dic kvs) => match keysS kvs with
      | some ss => if ss.length < 64 then some (.ref S.length, S ++ [.lst ((sortS ss).map Val.str)]) else none
      | none => none
    | _ => none
  | _ => none
def rSortedA (K : PySem.W.Frag) : List V → Hp → VK → Prop := fun xs H Q => rSortedS K xs H Q ∨ (∃ (a : Addr) (kvs : List (Key × V)) (ks : List Str), xs = [.ref a] ∧ Rd H a (.dK kvs) ∧ kvs.map (·.1) = ks.map Sum.inr ∧ ks.length < 64 ∧
    ∀ ys p, ys.Perm ks → sortedS ys = true → H p = none → Q (.ref p) (upd H p (.lst (ys.map V.str))))
theorem call_sortedA (hc : X.calm = true) : CallR X (.builtin "sorted") (rSortedA X.K) := CallR.or cr_sortedS (call_sortedD hc)
theorem cSorted : CaA K (rSortedA K) gSorted := by
  intro m S H xs v S' us Q R ru e q
  unfold gSorted at e
  split at e
  · next n =>
    obtain ⟨u, rfl, r1⟩ := ru.one_of
    cases r1 with
    | ref hm =>
      split at e
      · next vs en =>
        split at e
        · next ss es =>
          split at e
          · next hl =>
            cases e
            obtain ⟨xs, hx, rx⟩ := R.ob _ _ _ en hm
            rw [strs_eq es] at rx
            rw [vrs_strs_inv rx] at hx
            refine .inl ⟨_, ss, rfl, SqL.of hx, hl, fun ys p h1 h2 hp => ?_⟩
            rw [sortS_uniq h1 h2]
            exact newList R (vrs_strs _) q p hp
          · cases e
        · cases e
      · next kvs en =>
        split at e
        · next ss es =>
          split at e
          · next hl =>
            cases e
            obtain ⟨xs, hx, hk, _⟩ := R.ob _ _ _ en hm
            refine .inr ⟨_, xs, ss, rfl, .inl hx, hk.trans (keysS_eq es), hl, fun ys p h1 h2 hp => ?_⟩
            rw [sortS_uniq h1 h2]
            exact newList R (vrs_strs _) q p hp
          · cases e
        · cases e
      · cases e
  · cases e
theorem VRs.two_of {H : Hp} {m : List Addr} {us : List V} {v w : Val} (r : VRs K H m us [v, w]) : ∃ u z, us = [u, z] ∧ VR K H m u v ∧ VR K H m z w := by
  cases r with
  | cons a b =>
    obtain ⟨z, rfl, c⟩ := b.one_of
    exact ⟨_, z, rfl, a, c⟩
theorem asp3 {i j l : Nat} {st : Stmt} {ga : AF} (hst : PS X st (tPar3 i j l (tFa X.K ga))) : AS X st (sPar [i, j, l] ga) := ps_w hst fun D σ H h => by
  obtain ⟨m, ρ, S, R, r, q⟩ := h
  unfold sPar at q
  split at q
  · next vs S1 e1 =>
    split at q
    · next ρ1 e2 =>
      refine ⟨m, ρ, S, vs, S1, R, r, e1, fun m1 us H1 E1 R1 r1 => ?_⟩
      match vs, e2, r1 with
      | [v, w, z], e2, .cons rv (.cons rw_ (.cons rz .nil)) =>
        simp only [List.map_cons, List.map_nil, Pat.binds, Pat.bind, Option.bind_some] at e2
        cases e2
        exact ⟨_, _, _, rfl, q m1 _ H1 E1 R1 ((((r.kp (E1.kp R)).set rv i).set rw_ j).set rz l)⟩
      | [], e2, _ => simp [Pat.binds] at e2
      | [_], e2, _ => simp [Pat.binds, Pat.bind] at e2
      | [_, _], e2, _ => simp [Pat.binds, Pat.bind] at e2
      | _ :: _ :: _ :: _ :: _, e2, _ => simp [Pat.binds, Pat.bind] at e2
    · exact q.elim
  · exact q.elim
theorem asp2' {i j : Nat} {st : Stmt} {ga : AF} (hst : PS X st (tPar i j (tFa X.K ga))) : AS X st (sPar [i, j] ga) := ps_w hst fun D σ H h => by
  obtain ⟨m, ρ, S, R, r, q⟩ := h
  unfold sPar at q
  split at q
  · next vs S1 e1 =>
    split at q
    · next ρ1 e2 =>
      refine ⟨m, ρ, S, vs, S1, R, r, e1, fun m1 us H1 E1 R1 r1 => ?_⟩
      match vs, e2, r1 with
      | [v, w], e2, .cons rv (.cons rw_ .nil) =>
        simp only [List.map_cons, List.map_nil, Pat.binds, Pat.bind, Option.bind_some] at e2
        cases e2
        exact ⟨_, _, rfl, q m1 _ H1 E1 R1 (((r.kp (E1.kp R)).set rv i).set rw_ j)⟩
      | [], e2, _ => simp [Pat.binds] at e2
      | [_], e2, _ => simp [Pat.binds, Pat.bind] at e2
      | _ :: _ :: _ :: _, e2, _ => simp [Pat.binds, Pat.bind] at e2
    · exact q.elim
  · exact q.elim
end
end AL
namespace AL
open PySem PySem.Spec PyProof.Rows L2 G Th
variable [TT]
theorem fn_aG {P : Program} {w : World} {K : PySem.W.Frag} {mg : Str → Option Value} {base : Heap} {x qual : Str} {st : Stmt} {f : Addr} {fd : FuncData} {N ps : List Str} {k : Nat} {g : SF}
    (F : Fun K x qual st f fd) (S : FnScope N ps (defScope st))
    (body : ∀ (cdv : Value) (A : Around) (outer : List Env) (s : Shared) (H : Hp) (E : XK), A.guards = some [] →
      Room k (A.deeper (envOfC qual (defScope st) s.heap.objs.size f cdv)) → ASs (cxOf CX0 P w K mg base N qual (defScope st) f cdv A outer s H E).nox (defBody st) g) {n q : Nat} (hn : N.length = n := by rfl) (hq : ps.length = q := by rfl) :
    FnG P w K mg base (k + 1) f fd ps (spA K q (runF n g)) := by
  subst hn hq
  refine fn_g F S (fun vs H Q E h => h.1) (fun cdv A outer s H us Q E hg hr h => ⟨_, body cdv A outer s H E hg hr, ?_⟩)
  obtain ⟨hl, m, S0, vs, v, S', R, r, e, q⟩ := h
  refine ⟨m, _, S0, R, rho_start N r, ?_⟩
  unfold runF at e
  split at e
  · next v' S1 e1 =>
    cases e
    rw [e1]
    exact q
  · next v' S1 e1 =>
    cases e
    rw [e1]
    exact fun m' σ' H' E' R' r' => q m' .non H' E' R' .non
  · cases e
theorem sqF_of {K : PySem.W.Frag} {H : Hp} {a : Addr} {ns : List Int} (hO : Only H) (h : SqL K H a (ns.map V.int)) : SqF K H a ns := by
  rcases h with (h | ⟨o, h⟩) | h
  · rcases hO a with z | ⟨ob, xs, z⟩ <;> (rw [h] at z; cases z)
  · exact .inl ⟨o, h⟩
  · exact .inr h
theorem rel_nil {K : PySem.W.Frag} {H : Hp} (hT : LamT.Tabs TT.T H) : Rel K [] [] H := ⟨rfl, .nil, fun n o a h => by simp at h, hT⟩
theorem hsp_t {K : PySem.W.Frag} {F : FA} (hF : ∀ ns : List Int, ns.length ≤ 63 → ∃ S', F [.scr ns] [] = some (.bl true, S')) {H : Hp} {a : Addr} {ns : List Int} {E : XK} (hl : ns.length ≤ 63) (hT : LamT.Tabs TT.T H) (hS : SqF K H a ns) : spA K 1 F [.ref a] H (fun v _ => v = .bl true) E := by
  obtain ⟨S', e⟩ := hF ns hl
  refine ⟨rfl, [], [], [.scr ns], .bl true, S', rel_nil hT, .cons (.scr hS) .nil, e, fun m' z H' _ _ r => ?_⟩
  cases r
  rfl
end AL
namespace AL
open PySem PySem.Spec PyProof.Rows L2 G Th
variable [TT]

def Kx (x : Nat) (S S' : Sto) : Prop := ∀ (k : Nat) (o : Ob), k ≠ x → S[k]? = some o → S'[k]? = some o
def Kn (S S' : Sto) : Prop := ∀ (k : Nat) (o : Ob), S[k]? = some o → S'[k]? = some o
theorem Kn.refl (S : Sto) : Kn S S := fun _ _ h => h
theorem Kn.trans {S S1 S2 : Sto} (a : Kn S S1) (b : Kn S1 S2) : Kn S S2 := fun k o h => b k o (a k o h)
theorem Kn.app (S T : Sto) : Kn S (S ++ T) := fun k o h => by
  rw [List.getElem?_append_left (List.getElem?_eq_some_iff.mp h).1]
  exact h
theorem Kn.kx {S S' : Sto} (a : Kn S S') (x : Nat) : Kx x S S' := fun k o _ h => a k o h
theorem Kx.trans {x : Nat} {S S1 S2 : Sto} (a : Kx x S S1) (b : Kx x S1 S2) : Kx x S S2 := fun k o n h => b k o n (a k o n h)
theorem Kx.refl (x : Nat) (S : Sto) : Kx x S S := fun _ _ _ h => h
theorem Kx.put {x : Nat} {S : Sto} {o : Ob} : Kx x S (S.set x o) := fun k o' n h => by
  rw [List.getElem?_set_ne (Ne.symm n)]
  exact h
theorem Kn.len {S S' : Sto} (a : Kn S S') : S.length ≤ S'.length := by
  by_cases h : S.length = 0
  · omega
  · have l : S.length - 1 < S.length := by omega
    have := a (S.length - 1) _ (List.getElem?_eq_getElem l)
    have := (List.getElem?_eq_some_iff.mp this).1
    omega
theorem Kx.len {x : Nat} {S S' : Sto} (a : Kx x S S') (h : x + 1 < S.length) : S.length ≤ S'.length := by
  have l : S.length - 1 < S.length := by omega
  have := a (S.length - 1) _ (by omega) (List.getElem?_eq_getElem l)
  have := (List.getElem?_eq_some_iff.mp this).1
  omega

theorem lcR_pure {p : Pat} {t : BF} {f : EF} {ok : Sto → Prop} {ρ : Rho} {S : Sto} (hok : ok S) (b : Val → Bool) (g : Val → Val) : ∀ (vs acc : List Val), acc.length + vs.length < 1000000 →
    (∀ v ∈ vs, ∃ ρ1, p.bind v ρ = some ρ1 ∧ t ρ1 S = some (b v, S) ∧ (b v = true → f ρ1 S = some (g v, S))) → lcR p t f ok ρ vs acc S = some (acc ++ (vs.filter b).map g, S)
  | [], acc, _, _ => by
    unfold lcR
    rw [if_pos hok]
    simp
  | v :: vs, acc, hl, h => by
    obtain ⟨ρ1, h1, h2, h3⟩ := h v (by simp)
    unfold lcR
    rw [if_pos hok, h1, Option.bind_some, h2, Option.bind_some]
    simp only [List.length_cons] at hl
    cases hb : b v with
    | true =>
      rw [h3 hb]
      simp only [if_true, Option.bind_some, show acc.length < 1000000 by omega, if_true]
      rw [lcR_pure hok b g vs (acc ++ [g v]) (by simp; omega) fun w hw => h w (by simp [hw])]
      simp [List.filter_cons, hb]
    | false =>
      simp only [Bool.false_eq_true, if_false]
      rw [lcR_pure hok b g vs acc (by omega) fun w hw => h w (by simp [hw])]
      simp [List.filter_cons, hb]
theorem forR_nil {p : Pat} {g : SF} {ok : Sto → Prop} {ρ : Rho} {S : Sto} (h : ok S) : forR p g ok [] ρ S = .nx ρ S := by
  unfold forR
  rw [if_pos h]
theorem forR_cons {p : Pat} {g : SF} {ok : Sto → Prop} {v : Val} {vs : List Val} {ρ ρ1 : Rho} {S : Sto} (h : ok S) (hb : p.bind v ρ = some ρ1) : forR p g ok (v :: vs) ρ S = (match g ρ1 S with
      | .nx ρ S => forR p g ok vs ρ S
      | .ct ρ S => forR p g ok vs ρ S
      | .bk ρ S => .nx ρ S
      | .rt v S => .rt v S
      | .stuck => .stuck) := by
  rw [forR]
  dsimp only
  rw [if_pos h, hb]
  all_goals rfl

theorem forR_inv {p : Pat} {g : SF} {ok : Sto → Prop} (I : Nat → Rho → Sto → Prop) (vs : List Val) (hok : ∀ i ρ S, I i ρ S → ok S)
    (step : ∀ i v ρ S, vs[i]? = some v → I i ρ S → ∃ ρ1 ρ2 S2, p.bind v ρ = some ρ1 ∧ g ρ1 S = .nx ρ2 S2 ∧ I (i + 1) ρ2 S2) :
    ∀ (k : Nat) (ρ : Rho) (S : Sto), k ≤ vs.length → I k ρ S → ∃ ρ' S', forR p g ok (vs.drop k) ρ S = .nx ρ' S' ∧ I vs.length ρ' S' := by
  intro k
  induction hn : vs.length - k generalizing k with
  | zero =>
    intro ρ S hk h
    have e : k = vs.length := by omega
    subst e
    rw [List.drop_length]
    exact ⟨ρ, S, forR_nil (hok _ _ _ h), h⟩
  | succ n ih =>
    intro ρ S hk h
    have l : k < vs.length := by omega
    rw [List.drop_eq_getElem_cons l]
    obtain ⟨ρ1, ρ2, S2, h1, h2, h3⟩ := step k vs[k] ρ S (List.getElem?_eq_getElem l) h
    rw [forR_cons (hok _ _ _ h) h1, h2]
    exact ih (k + 1) (by omega) ρ2 S2 (by omega) h3
theorem forR_run {p : Pat} {g : SF} {ok : Sto → Prop} (I : Nat → Rho → Sto → Prop) {vs : List Val} {ρ : Rho} {S : Sto} (hok : ∀ i ρ S, I i ρ S → ok S) (h0 : I 0 ρ S)
    (step : ∀ i v ρ S, vs[i]? = some v → I i ρ S → ∃ ρ1 ρ2 S2, p.bind v ρ = some ρ1 ∧ g ρ1 S = .nx ρ2 S2 ∧ I (i + 1) ρ2 S2) : ∃ ρ' S', forR p g ok vs ρ S = .nx ρ' S' ∧ I vs.length ρ' S' := by
  have := forR_inv I vs hok step 0 ρ S (Nat.zero_le _) h0
  rwa [List.drop_zero] at this

theorem lcR_inv {p : Pat} {t : BF} {f : EF} {ok : Sto → Prop} {ρ : Rho} (I : Nat → List Val → Sto → Prop) (vs : List Val) (hl : vs.length < 900000) (hok : ∀ i a S, I i a S → ok S) (hlen : ∀ i a S, I i a S → a.length ≤ i)
    (step : ∀ i v a S, vs[i]? = some v → I i a S → ∃ ρ1, p.bind v ρ = some ρ1 ∧ ((∃ S1 y S2, t ρ1 S = some (true, S1) ∧ f ρ1 S1 = some (y, S2) ∧ I (i + 1) (a ++ [y]) S2) ∨ (∃ S1, t ρ1 S = some (false, S1) ∧ I (i + 1) a S1))) :
    ∀ (k : Nat) (a : List Val) (S : Sto), k ≤ vs.length → I k a S → ∃ a' S', lcR p t f ok ρ (vs.drop k) a S = some (a', S') ∧ I vs.length a' S' := by
  intro k
  induction hn : vs.length - k generalizing k with
  | zero =>
    intro a S hk h
    have e : k = vs.length := by omega
    subst e
    rw [List.drop_length]
    refine ⟨a, S, ?_, h⟩
    unfold lcR
    rw [if_pos (hok _ _ _ h)]
  | succ n ih =>
    intro a S hk h
    have l : k < vs.length := by omega
    rw [List.drop_eq_getElem_cons l]
    obtain ⟨ρ1, h1, h2⟩ := step k vs[k] a S (List.getElem?_eq_getElem l) h
    have la := hlen _ _ _ h
    rcases h2 with ⟨S1, y, S2, h2, h3, h4⟩ | ⟨S1, h2, h4⟩
    · obtain ⟨a', S', e, h5⟩ := ih (k + 1) (by omega) (a ++ [y]) S2 (by omega) h4
      refine ⟨a', S', ?_, h5⟩
      unfold lcR
      rw [if_pos (hok _ _ _ h), h1, Option.bind_some, h2, Option.bind_some]
      simp only [if_true, h3, Option.bind_some, show a.length < 1000000 by omega, if_true]
      exact e
    · obtain ⟨a', S', e, h5⟩ := ih (k + 1) (by omega) a S1 (by omega) h4
      refine ⟨a', S', ?_, h5⟩
      unfold lcR
      rw [if_pos (hok _ _ _ h), h1, Option.bind_some, h2, Option.bind_some]
      simp only [Bool.false_eq_true, if_false]
      exact e
theorem lcR_run {p : Pat} {t : BF} {f : EF} {ok : Sto → Prop} {ρ : Rho} {S : Sto} (I : Nat → List Val → Sto → Prop) {vs : List Val} (hl : vs.length < 900000) (hok : ∀ i a S, I i a S → ok S) (hlen : ∀ i a S, I i a S → a.length ≤ i) (h0 : I 0 [] S)
    (step : ∀ i v a S, vs[i]? = some v → I i a S → ∃ ρ1, p.bind v ρ = some ρ1 ∧ ((∃ S1 y S2, t ρ1 S = some (true, S1) ∧ f ρ1 S1 = some (y, S2) ∧ I (i + 1) (a ++ [y]) S2) ∨ (∃ S1, t ρ1 S = some (false, S1) ∧ I (i + 1) a S1))) :
    ∃ a' S', lcR p t f ok ρ vs [] S = some (a', S') ∧ I vs.length a' S' := by
  have := lcR_inv I vs hl hok hlen step 0 [] S (Nat.zero_le _) h0
  rwa [List.drop_zero] at this
theorem rangeV_get {lo : Int} {n i : Nat} {v : Val} (h : (rangeV lo n)[i]? = some v) : v = .int (lo + i) ∧ i < n := by
  unfold rangeV at h
  rw [List.getElem?_map] at h
  obtain ⟨k, hk, rfl⟩ := Option.map_eq_some_iff.mp h
  obtain ⟨l, rfl⟩ := List.getElem?_eq_some_iff.mp hk
  rw [List.length_range] at l
  exact ⟨by rw [List.getElem_range], l⟩
theorem rangeV_len (lo : Int) (n : Nat) : (rangeV lo n).length = n := by simp [rangeV]
end AL
namespace K37
open PySem PySem.Spec PyProof.Rows L2 G Th AL
noncomputable def common_divisor_B : SF := (sSeq (sWhile (eT (eB gNe (eV 1) (eC (.int 0)))) (sPar [0, 1] (aCons (eV 1) (aCons (eB gMod (eV 0) (eV 1)) aNil))))
    (sRet (eCall gAbs (aCons (eV 0) aNil))))
noncomputable def common_divisor_ : FA := runF 2 common_divisor_B
noncomputable def ratio_B : SF := (sSeq (sIf (eT (eB gLt (eV 1) (eC (.int 0)))) (sPar [0, 1] (aCons (eU gNeg (eV 0)) (aCons (eU gNeg (eV 1)) aNil))) sNil)
    (sSeq (sAsg (.nm 2) (eDef common_divisor_ 2 (aCons (eV 0) (aCons (eV 1) aNil))))
    (sRet (eTup (aCons (eB gDiv (eV 0) (eV 2)) (aCons (eB gDiv (eV 1) (eV 2)) aNil))))))
noncomputable def ratio_ : FA := runF 3 ratio_B
noncomputable def added_B : SF := (sRet (eDef ratio_ 2 (aCons (eB gAdd (eB gMul (eB gIxA (eV 0) (eC (.int 0))) (eB gIxA (eV 1) (eC (.int 1)))) (eB gMul (eB gIxA (eV 1) (eC (.int 0))) (eB gIxA (eV 0) (eC (.int 1))))) (aCons (eB gMul (eB gIxA (eV 0) (eC (.int 1))) (eB gIxA (eV 1) (eC (.int 1)))) aNil))))
noncomputable def added_ : FA := runF 2 added_B
noncomputable def less_B : SF := (sRet (eDef ratio_ 2 (aCons (eB gSub (eB gMul (eB gIxA (eV 0) (eC (.int 0))) (eB gIxA (eV 1) (eC (.int 1)))) (eB gMul (eB gIxA (eV 1) (eC (.int 0))) (eB gIxA (eV 0) (eC (.int 1))))) (aCons (eB gMul (eB gIxA (eV 0) (eC (.int 1))) (eB gIxA (eV 1) (eC (.int 1)))) aNil))))
noncomputable def less_ : FA := runF 2 less_B
noncomputable def parted_B : SF := (sRet (eDef ratio_ 2 (aCons (eB gMul (eB gIxA (eV 0) (eC (.int 0))) (eB gIxA (eV 1) (eC (.int 1)))) (aCons (eB gMul (eB gIxA (eV 0) (eC (.int 1))) (eB gIxA (eV 1) (eC (.int 0)))) aNil))))
noncomputable def parted_ : FA := runF 2 parted_B
noncomputable def is_below_B : SF := (sRet (eB gLt (eB gMul (eB gIxA (eV 0) (eC (.int 0))) (eB gIxA (eV 1) (eC (.int 1)))) (eB gMul (eB gIxA (eV 1) (eC (.int 0))) (eB gIxA (eV 0) (eC (.int 1))))))
noncomputable def is_below_ : FA := runF 2 is_below_B
noncomputable def drift_of_B : SF := (sSeq (sFor (.tp [(.nm 2), (.nm 3), (.nm 4)]) (iSeq (eB gIxA (eV 0) (eC (.int 0)))) (sIf (eT (eB gEq (eV 2) (eV 1))) (sRet (eTup (aCons (eV 3) (aCons (eV 4) aNil)))) sNil))
    (sRet (eC .non)))
noncomputable def drift_of_ : FA := runF 5 drift_of_B
noncomputable def moves_into_B : SF := (sSeq (sAsg (.tp [(.nm 5), (.nm 6), (.nm 7)]) (eV 3))
    (sSeq (sAsg (.nm 4) (eLst aNil))
    (sSeq (sIf (eT (eB gIsN (eV 2) (eC .non))) (sSeq (sAsg (.tp [(.nm 10), (.nm 11)]) (eDef drift_of_ 2 (aCons (eV 0) (aCons (eV 5) aNil))))
    (sSeq (sAsg (.nm 8) (eDef less_ 2 (aCons (eV 6) (aCons (eB gIxA (eB gIxA (eV 1) (eV 2)) (eC (.int 1))) aNil))))
    (sExpr (eMt isL gApp (eV 4) (aCons (eTup (aCons (eV 2) (aCons (eTup (aCons (eDef parted_ 2 (aCons (eV 8) (aCons (eV 11) aNil))) (aCons (eDef parted_ 2 (aCons (eV 8) (aCons (eV 10) aNil))) aNil))) aNil))) aNil))))) sNil)
    (sSeq (sIf (eT (eB gEq (eB gIxA (eV 7) (eC (.int 0))) (eC (.str "hear")))) (sSeq (sAsg (.nm 9) (eB gIxA (eB gIxA (eV 1) (eB gIxA (eV 7) (eC (.int 1)))) (eC (.int 2))))
    (sExpr (eMt isL gApp (eV 4) (aCons (eTup (aCons (eB gIxA (eV 7) (eC (.int 1))) (aCons (eSl gSl (eB gIxA (eB gIxA (eV 0) (eC (.int 1))) (eB gIxA (eV 9) (eC (.int 1)))) (oS (eC (.int 2))) oN) aNil))) aNil)))) sNil)
    (sRet (eV 4))))))
noncomputable def moves_into_ : FA := runF 12 moves_into_B
noncomputable def history_moves_B : SF := (sSeq (sAsg (.tp [(.nm 3), (.nm 4)]) (eV 0))
    (sSeq (sAsg (.nm 1) eDic)
    (sSeq (sAsg (.nm 2) (eLst aNil))
    (sSeq (sFor (.tp [(.nm 5), (.nm 6)]) (iEn (aCons (eV 4) aNil)) (sSeq (sExpr (eMt isL gApp (eV 2) (aCons (eDef moves_into_ 4 (aCons (eV 3) (aCons (eV 4) (aCons (eGet1 (eV 1) (eB gIxA (eV 6) (eC (.int 0)))) (aCons (eV 6) aNil))))) aNil)))
    (sSub gSetA (eV 1) (eB gIxA (eV 6) (eC (.int 0))) (eV 5))))
    (sRet (eV 2))))))
noncomputable def history_moves_ : FA := runF 7 history_moves_B
end K37
namespace AL
open PySem PySem.Spec PyProof.Rows L2 G Th
variable [TT]

def gRep : Val → Val → Sto → Option (Val × Sto) := fun x y S => match x, y with
  | .ref n, .int k => match S[n]? with
    | some (.lst vs) => if -(2 ^ 63) ≤ k ∧ k < 2 ^ 63 ∧ vs.length * k.toNat ≤ 1000000 then some (.ref S.length, S ++ [.lst (List.replicate k.toNat vs).flatten]) else none
    | _ => none
  | _, _ => none
theorem VRs.rep {K : PySem.W.Frag} {H : Hp} {m : List Addr} {us : List V} {vs : List Val} (r : VRs K H m us vs) : ∀ n : Nat, VRs K H m (List.replicate n us).flatten (List.replicate n vs).flatten
  | 0 => .nil
  | n + 1 => by
    rw [List.replicate_succ, List.replicate_succ, List.flatten_cons, List.flatten_cons]
    exact r.app (VRs.rep r n)
theorem oRep {K : PySem.W.Frag} : OpA K rRep gRep := by
  intro m S H x y v S' u w Q R ru rw_ e q
  unfold gRep at e
  split at e
  · next n k =>
    split at e
    · next vs en =>
      split at e
      · next hc =>
        cases e
        cases rw_
        cases ru with
        | ref ha =>
          obtain ⟨xs, hx, rx⟩ := R.ob _ _ _ en ha
          exact ⟨_, _, xs, rfl, rfl, hx, hc.1, hc.2.1, by rw [rx.len]; exact mill hc.2.2, newList R (rx.rep _) q⟩
      · cases e
    · cases e
  · cases e

def CV (K : PySem.W.Frag) (u : Value) (v : Val) : Prop := ∃ uv : V, RelV uv u ∧ ∀ (H : Hp) (m : List Addr), VR K H m uv v
def CVs (K : PySem.W.Frag) (us : List Value) (vs : List Val) : Prop := ∃ uvs : List V, Vals uvs us ∧ ∀ (H : Hp) (m : List Addr), VRs K H m uvs vs
section
variable {K : PySem.W.Frag}
theorem cv_int {i : Int} {t : Nat} : CV K (.int i t) (.int i) := ⟨.int i, ⟨t, rfl⟩, fun _ _ => .int i⟩
theorem cvs_nil : CVs K [] [] := ⟨[], .nil, fun _ _ => .nil⟩
theorem cvs_cons {u : Value} {us : List Value} {v : Val} {vs : List Val} (h : CV K u v) (r : CVs K us vs) : CVs K (u :: us) (v :: vs) := by
  obtain ⟨uv, h1, h2⟩ := h
  obtain ⟨uvs, r1, r2⟩ := r
  exact ⟨uv :: uvs, .cons h1 r1, fun H m => .cons (h2 H m) (r2 H m)⟩
theorem cv_tup {a : Addr} {o : Obj} {its : Array Value} {n : Nat} {vs : List Val} (l : K.lookup a = some o) (hc : o.cls = .type "tuple") (hd : o.data = .seq its n) (hs : its.size ≤ sizeLine) (r : CVs K its.toList vs) : CV K (.ref a) (.tup vs) := by
  obtain ⟨uvs, r1, r2⟩ := r
  exact ⟨.ref a, rfl, fun H m => .tup (.inr (.inl ⟨o, its, n, l, hc, hd, hs, r1⟩)) (r2 H m)⟩
end

def Cst (K : PySem.W.Frag) (mg : Str → Option Value) (x : Str) (v : Val) : Prop := ∃ u : Value, mg x = some u ∧ CV K u v
section
variable {X : Cx} {e : Expr} {es : List Expr} {kws : List Keyword} {pos p : Pos} {f : EF} {ga gk : AF} {nm : Option Str} {kpos : Pos} {st : Stmt}
theorem aglb {x : Str} {v : Val} (c : Cst X.K X.mg x v) (hg : Gl X x) (hd : (x == ("__debug__" : Str)) = false := by decide) : AE X (.Name x pos) (eC v) := by
  obtain ⟨u, h1, uv, h2, h3⟩ := c
  exact ac (pe_glob hg h1 h2 hd) h3

def sStuck : SF := fun _ _ => .stuck
end
def eDefK (F : FA) (n m : Nat) (gA : List Val → List Val → List Val) (ga gk : AF) : EF := fun ρ S => (ga ρ S).bind fun p => (gk ρ p.2).bind fun q => if p.1.length = n ∧ q.1.length = m then F (gA p.1 q.1) q.2 else none
end AL
namespace AL
open PySem PySem.Spec PyProof.Rows L2 G Th
variable [TT]
def tyN : Val → Sto → Option String := fun v S => match v with
  | .non => some "NoneType"
  | .bl _ => some "bool"
  | .int _ => some "int"
  | .str _ => some "str"
  | .tup _ => some "tuple"
  | .scr _ => some "list"
  | .ref n => match S[n]? with
    | some (.lst _) => some "list"
    | some (.dic _) => some "dict"
    | _ => none
  | .lam _ _ _ _ _ => none
  | .exc _ _ _ _ => none
  | .ptu _ => none
  | .fn _ _ => none
def gIsi (T : String) : Val → Sto → Option (Val × Sto) := fun v S => (tyN v S).bind fun a => (L2.kitB a T).map fun b => (.bl b, S)
theorem kit_int_int : L2.kitB "int" "int" = some true := by decide +kernel
theorem kit_str_int : L2.kitB "str" "int" = some false := by decide +kernel
theorem kit_tuple_int : L2.kitB "tuple" "int" = some false := by decide +kernel
theorem kit_NoneType_int : L2.kitB "NoneType" "int" = some false := by decide +kernel
theorem kit_int_bool : L2.kitB "int" "bool" = some false := by decide +kernel
theorem kit_bool_bool : L2.kitB "bool" "bool" = some true := by decide +kernel
theorem kit_str_str : L2.kitB "str" "str" = some true := by decide +kernel
theorem kit_int_tuple : L2.kitB "int" "tuple" = some false := by decide +kernel
theorem kit_tuple_tuple : L2.kitB "tuple" "tuple" = some true := by decide +kernel
theorem kit_NoneType_tuple : L2.kitB "NoneType" "tuple" = some false := by decide +kernel
section
variable {X : Cx} {e : Expr} {f : EF} {p p2 pos : Pos} {K : PySem.W.Frag}
theorem tyN_ok {m : List Addr} {S : Sto} {H : Hp} {u : V} {v : Val} {a : String} (R : Rel K m S H) (r : VR K H m u v) (h : tyN v S = some a) : TyX K H u (.type a) := by
  cases v with
  | non => cases h; cases r; exact .base .non
  | bl b => cases h; cases r; exact .base (.bl _)
  | int b => cases h; cases r; exact .base (.int _)
  | str b => cases h; cases r; exact .base (.str _)
  | tup vs =>
    cases h
    cases r with
    | tup ha ra =>
      rcases ha with ha | ⟨o, its, n, hl, hc, _⟩ | ⟨o, ha⟩
      · exact .base (.tup ha)
      · exact .kTuple hl hc
      · exact .fTuple ha
  | scr ns =>
    cases h
    cases r with
    | scr hs =>
      rcases hs with ⟨o, hs⟩ | ⟨o, its, n, hl, hc, _⟩
      · exact .base (.frz hs)
      · exact .kList hl hc
  | ref n =>
    cases r with
    | ref ha =>
      simp only [tyN] at h
      split at h
      · next vs en =>
        cases h
        obtain ⟨xs, hx, _⟩ := R.ob _ _ _ en ha
        exact .base (.lst hx)
      · next kvs en =>
        cases h
        obtain ⟨xs, hx, _⟩ := R.ob _ _ _ en ha
        exact .base (.dK hx)
      · cases h
  | lam _ _ _ _ _ => cases h
  | exc _ _ _ _ => cases h
  | ptu _ => cases h
  | fn _ _ => cases h
theorem aisi {T : String} {x : Str} (hg : Gl X "isinstance") (hm : X.mg "isinstance" = none) (hgT : Gl X x) (hmT : X.mg x = none) (hv : bootBuiltins x = some (.type T)) (he : AE X e f) (hn : x ≠ "__name__" := by decide) (hd : (x == ("__debug__" : Str)) = false := by decide)
    (hs : starEach [e, .Name x p2] X.env = (false, eval e X.env) :: starEach [.Name x p2] X.env := by rfl) (hpl : (backTo pos (starEach [.Name x p2] X.env)).any (·.1) = false := by rfl) : AE X (.Call (.Name "isinstance" p) [e, .Name x p2] [] pos) (eU (gIsi T) f) := by
  refine pe_w (pe_callB call_isi hg hm (by decide +kernel) (pa_cons he (pa_cons (pe_bltn (v := .ty T) hgT hmT hv rfl hn hd) pa_nil) hs) (by decide) (by decide) hs hpl) fun σ H Q h => ?_
  obtain ⟨m, ρ, S, v, S', R, r, e, q⟩ := h
  obtain ⟨⟨x1, S1⟩, e1, e⟩ := Option.bind_eq_some_iff.mp e
  unfold gIsi at e
  obtain ⟨a, ea, e⟩ := Option.bind_eq_some_iff.mp e
  obtain ⟨b, eb, e⟩ := Option.map_eq_some_iff.mp e
  cases e
  refine ⟨m, ρ, S, x1, S1, R, r, e1, fun m1 u H1 E1 R1 r1 => ?_⟩
  exact ⟨u, .ty T, .type a, .type T, b, rfl, .ty T, tyN_ok R1 r1 ea, kit_ty eb, q m1 _ H1 E1 R1 (.bl b)⟩

def blsOf : List Val → Option (List Bool)
  | [] => some []
  | .bl b :: vs => (blsOf vs).map fun bs => b :: bs
  | _ :: _ => none
theorem bls_eq : ∀ {vs : List Val} {bs : List Bool}, blsOf vs = some bs → vs = bs.map Val.bl
  | [], bs, h => by cases h; rfl
  | .bl b :: vs, bs, h => by
    simp only [blsOf] at h
    obtain ⟨cs, h1, rfl⟩ := Option.map_eq_some_iff.mp h
    rw [bls_eq h1]
    rfl
  | .non :: _, _, h => by cases h
  | .int _ :: _, _, h => by cases h
  | .str _ :: _, _, h => by cases h
  | .tup _ :: _, _, h => by cases h
  | .ref _ :: _, _, h => by cases h
  | .scr _ :: _, _, h => by cases h
  | .lam _ _ _ _ _ :: _, _, h => by cases h
  | .exc _ _ _ _ :: _, _, h => by cases h
  | .ptu _ :: _, _, h => by cases h
  | .fn _ _ :: _, _, h => by cases h
theorem bls_map (bs : List Bool) : blsOf (bs.map Val.bl) = some bs := by
  induction bs with
  | nil => rfl
  | cons b bs ih => simp only [List.map_cons, blsOf, ih, Option.map_some]
theorem vrs_bls {H : Hp} {m : List Addr} : ∀ {bs : List Bool} {us : List V}, VRs K H m us (bs.map Val.bl) → us = bs.map V.bl
  | [], us, h => by cases h; rfl
  | b :: bs, us, h => by
    cases h with
    | cons a r =>
      cases a
      rw [vrs_bls r]
      rfl
def gAll : List Val → Sto → Option (Val × Sto) := fun xs S => match xs with
  | [.ref n] => match S[n]? with
    | some (.lst vs) => (blsOf vs).map fun bs => (.bl (bs.all id), S)
    | _ => none
  | _ => none
theorem cAll : CaA K (rAll K) gAll := by
  intro m S H xs v S' us Q R r e q
  unfold gAll at e
  split at e
  · next n =>
    split at e
    · next vs en =>
      obtain ⟨bs, hb, e⟩ := Option.map_eq_some_iff.mp e
      cases e
      obtain ⟨u, rfl, ru⟩ := r.one_of
      cases ru with
      | ref ha =>
        obtain ⟨ys, hy, ry⟩ := R.ob _ _ _ en ha
        rw [bls_eq hb] at ry
        have := vrs_bls ry
        subst this
        exact ⟨_, bs, rfl, SqL.of hy, q m _ H (.refl _ _) R (.bl _)⟩
    · cases e
  · cases e

def gInt : List Val → Sto → Option (Val × Sto) := fun xs S => match xs with
  | [.int i] => some (.int i, S)
  | [.bl b] => some (.int (if b then 1 else 0), S)
  | _ => none
theorem cInt : CaA K (fun xs H Q => (∃ i, xs = [.int i] ∧ Q (.int i) H) ∨ ∃ k, xs = [.bl k] ∧ Q (.int (if k then 1 else 0)) H) gInt := by
  intro m S H xs v S' us Q R r e q
  unfold gInt at e
  split at e
  · cases e
    obtain ⟨u, rfl, ru⟩ := r.one_of
    cases ru
    exact .inl ⟨_, rfl, q m _ H (.refl _ _) R (.int _)⟩
  · cases e
    obtain ⟨u, rfl, ru⟩ := r.one_of
    cases ru
    exact .inr ⟨_, rfl, q m _ H (.refl _ _) R (.int _)⟩
  · cases e

def gRev : Val → Sto → Option (Val × Sto) := fun x S => match x with
  | .ref n => match S[n]? with
    | some (.lst vs) => some (.ref S.length, S ++ [.lst vs.reverse])
    | _ => none
  | _ => none
theorem VRs.rev {H : Hp} {m : List Addr} : ∀ {us : List V} {vs : List Val}, VRs K H m us vs → VRs K H m us.reverse vs.reverse
  | _, _, .nil => .nil
  | _, _, .cons a r => by
    rw [List.reverse_cons, List.reverse_cons]
    exact (VRs.rev r).app a.one
theorem arev {k : Nat} {p1 p2 p3 : Pos} (he : AE X e f) : AE X (.Subscript e (.Slice none none (some (.UnaryOp .USub (.Constant (.int 1) k p1) p2)) p3) pos) (eU gRev f) := by
  refine pe_w (pe_revL he) fun σ H Q h => ?_
  obtain ⟨m, ρ, S, v, S', R, r, e, q⟩ := h
  obtain ⟨⟨x1, S1⟩, e1, e⟩ := Option.bind_eq_some_iff.mp e
  cases x1 with
  | ref n =>
    simp only [gRev] at e
    split at e
    · next vs en =>
      cases e
      refine ⟨m, ρ, S, .ref n, S1, R, r, e1, fun m1 u H1 E1 R1 r1 => ?_⟩
      cases r1 with
      | ref ha =>
        obtain ⟨xs, hx, rx⟩ := R1.ob _ _ _ en ha
        exact ⟨_, xs, rfl, SqL.of hx, newList R1 rx.rev fun m2 z H2 E2 R2 r2 => q m2 z H2 (E1.trans E2) R2 r2⟩
    · cases e
  | non => cases e
  | bl _ => cases e
  | int _ => cases e
  | str _ => cases e
  | tup _ => cases e
  | scr _ => cases e
  | lam _ _ _ _ _ => cases e
  | exc _ _ _ _ => cases e
  | ptu _ => cases e
  | fn _ _ => cases e

def gIsT : Val → Val → Sto → Option (Val × Sto) := fun x y S => match x, y with
  | .bl a, .bl b => some (.bl (decide (a = b)), S)
  | _, _ => none
def gIsNT : Val → Val → Sto → Option (Val × Sto) := fun x y S => match x, y with
  | .bl a, .bl b => some (.bl (!decide (a = b)), S)
  | _, _ => none
end
end AL
namespace AL
open PySem PySem.Spec PyProof.Rows L2 G Th
variable [TT]
def flat (ps : List (V × V)) : List V := ps.flatMap fun p => [p.1, p.2]
section
variable {X : Cx} {pos : Pos} {K : PySem.W.Frag} {ga : AF}

def intsOf : List Val → Option (List Int)
  | [] => some []
  | .int x :: r => (intsOf r).map (x :: ·)
  | _ => none
theorem ints_eq : ∀ {vs : List Val} {ns : List Int}, intsOf vs = some ns → vs = ns.map Val.int
  | [], ns, h => by cases h; rfl
  | .int x :: r, ns, h => by
    obtain ⟨t, h1, h2⟩ := Option.map_eq_some_iff.mp h
    cases h2
    rw [ints_eq h1]
    rfl
  | .non :: r, _, h => by cases h
  | .str _ :: r, _, h => by cases h
  | .bl _ :: r, _, h => by cases h
  | .ref _ :: r, _, h => by cases h
  | .tup _ :: r, _, h => by cases h
  | .scr _ :: r, _, h => by cases h
  | .lam _ _ _ _ _ :: r, _, h => by cases h
  | .exc _ _ _ _ :: r, _, h => by cases h
  | .ptu _ :: r, _, h => by cases h
  | .fn _ _ :: r, _, h => by cases h
theorem VRs.ints {H : Hp} {m : List Addr} : ∀ {us : List V} {ns : List Int}, VRs K H m us (ns.map Val.int) → us = ns.map V.int
  | _, [], r => by cases r; rfl
  | _, n :: ns, r => by
    cases r with
    | cons a b =>
      cases a
      rw [b.ints]
      rfl
def sAug (i : Nat) (f : EF) : SF := fun ρ S => match ρ[i]? with
  | some (some (.int a)) => match f ρ S with
    | some (.int b, S1) => .nx (ρ.set i (some (.int (a + b)))) S1
    | _ => .stuck
  | _ => .stuck
theorem asaug {i : Nat} {x : Str} {e : Expr} {f : EF} {pos' : Pos} (hN : X.N.Nodup) (hi : X.N[i]? = some x) (hx : Loc X.env.scope x) (he : AE X e f) (hf : X.fn x = true ∨ X.env.scope.names.lookup x = some .local := by first | exact .inl rfl | exact .inr rfl | assumption) : AS X (.AugAssign (.Name x pos') .Add e pos) (sAug i f) := ps_w (ps_aug hN hi hx he iop_add hf) fun D σ H h => by
  obtain ⟨m, ρ, S, R, r, q⟩ := h
  unfold sAug at q
  split at q
  · next a ha =>
    split at q
    · next b S1 e1 =>
      obtain ⟨u, hu, ru⟩ := r.at_ _ _ ha
      cases ru
      refine ⟨_, hu, m, ρ, S, _, S1, R, r, e1, fun m1 w H1 E1 R1 r1 => ?_⟩
      cases r1
      exact ⟨a, b, rfl, rfl, q m1 _ H1 E1 R1 ((r.kp (E1.kp R)).set (.int _) i)⟩
    · exact q.elim
  · exact q.elim
end
end AL
namespace AL
open PySem PySem.Spec PyProof.Rows L2 G Th
variable [TT]
def Wp {α : Type} (o : Option (α × Sto)) (Q : α → Sto → Prop) : Prop := ∃ a S', o = some (a, S') ∧ Q a S'
def WsD (r : Res) (N : Rho → Sto → Prop) (R : Val → Sto → Prop) : Prop := match r with
  | .nx ρ S => N ρ S
  | .rt v S => R v S
  | _ => False
structure Ws (r : Res) (N : Rho → Sto → Prop) (R : Val → Sto → Prop) : Prop where
  h : WsD r N R
def Tb (v : Val) (X : Bool → Prop) : Prop := ∃ b, v = .bl b ∧ X b
theorem tb {v : Val} {b : Bool} {X : Bool → Prop} (h : v = .bl b) (q : X b) : Tb v X := ⟨b, h, q⟩
def Ti (v : Val) (X : Int → Prop) : Prop := ∃ i, v = .int i ∧ X i
theorem ti {v : Val} {i : Int} {X : Int → Prop} (h : v = .int i) (q : X i) : Ti v X := ⟨i, h, q⟩
def Br (b : Bool) (P Q : Prop) : Prop := (b = true → P) ∧ (b = false → Q)
theorem Br.of {b : Bool} {P Q : Prop} (p : b = true → P) (q : b = false → Q) : Br b P Q := ⟨p, q⟩
theorem brT {b : Bool} {P Q : Prop} (h : b = true) (p : P) : Br b P Q := ⟨fun _ => p, fun z => (by rw [h] at z; cases z)⟩
theorem brF {b : Bool} {P Q : Prop} (h : b = false) (q : Q) : Br b P Q := ⟨fun z => (by rw [h] at z; cases z), fun _ => q⟩
def Bn (o : Option Rho) (N : Rho → Prop) : Prop := ∃ ρ1, o = some ρ1 ∧ N ρ1
theorem bn {o : Option Rho} {ρ1 : Rho} {N : Rho → Prop} (h : o = some ρ1) (q : N ρ1) : Bn o N := ⟨ρ1, h, q⟩
def Sd (p q : Prop) : Prop := p ∧ q
theorem sd {p q : Prop} (h : p) (g : q) : Sd p q := ⟨h, g⟩
def Wi (o : Option (List Val × (Sto → Prop) × Sto)) (Q : List Val → (Sto → Prop) → Sto → Prop) : Prop := ∃ vs ok S, o = some (vs, ok, S) ∧ Q vs ok S
section
variable {α β : Type} {ρ : Rho} {S : Sto} {f fa fb fc fo fi : EF} {t t' : BF} {ga : AF} {Q : Val → Sto → Prop} {B : Bool → Sto → Prop} {A : List Val → Sto → Prop} {g1 g2 : SF} {N : Rho → Sto → Prop} {R : Val → Sto → Prop} {v : Val} {i : Nat} {p : Pat}
theorem Wp.bind {o : Option (α × Sto)} {k : α × Sto → Option (β × Sto)} {Q : β → Sto → Prop} (h : Wp o fun a S => Wp (k (a, S)) Q) : Wp (o.bind k) Q := by
  obtain ⟨a, S1, e, b, S2, e2, q⟩ := h
  exact ⟨b, S2, by rw [e]; exact e2, q⟩
theorem Wp.imp {o : Option (α × Sto)} {P Q : α → Sto → Prop} (h : Wp o P) (i : ∀ a S, P a S → Q a S) : Wp o Q := by
  obtain ⟨a, S1, e, q⟩ := h
  exact ⟨a, S1, e, i _ _ q⟩
theorem Wp.of {o : Option (α × Sto)} {Q : α → Sto → Prop} {a : α} {S : Sto} (e : o = some (a, S)) (q : Q a S) : Wp o Q := ⟨a, S, e, q⟩
theorem wv (h : ρ[i]? = some (some v)) (q : Q v S) : Wp (eV i ρ S) Q := ⟨v, S, by unfold eV; rw [h], q⟩
theorem wc (q : Q v S) : Wp (eC v ρ S) Q := ⟨v, S, rfl, q⟩
theorem wB {g : Val → Val → Sto → Option (Val × Sto)} (h : Wp (fa ρ S) fun x S1 => Wp (fb ρ S1) fun y S2 => Wp (g x y S2) Q) : Wp (eB g fa fb ρ S) Q := Wp.bind (h.imp fun a S h => Wp.bind h)
theorem wU {g : Val → Sto → Option (Val × Sto)} (h : Wp (fa ρ S) fun x S1 => Wp (g x S1) Q) : Wp (eU g fa ρ S) Q := Wp.bind h
theorem wT (h : Wp (f ρ S) fun v S1 => Tb v fun b => B b S1) : Wp (eT f ρ S) B := Wp.bind (h.imp fun a S ⟨b, e, q⟩ => by subst e; exact ⟨b, S, rfl, q⟩)
theorem wbA (h : Wp (t ρ S) fun b S1 => Br b (Wp (t' ρ S1) B) (B false S1)) : Wp (bAnd t t' ρ S) B := Wp.bind (h.imp fun b S h => by
  cases b with
  | true => exact h.1 rfl
  | false => exact ⟨_, _, rfl, h.2 rfl⟩)
theorem wbO (h : Wp (t ρ S) fun b S1 => Br b (B true S1) (Wp (t' ρ S1) B)) : Wp (bOr t t' ρ S) B := Wp.bind (h.imp fun b S h => by
  cases b with
  | true => exact ⟨_, _, rfl, h.1 rfl⟩
  | false => exact h.2 rfl)
theorem wbN (h : Wp (t ρ S) fun b S1 => B (!b) S1) : Wp (bNot t ρ S) B := Wp.bind (h.imp fun b S h => ⟨_, _, rfl, h⟩)
theorem wbY (h : B true S) : Wp (bYes ρ S) B := ⟨_, _, rfl, h⟩
theorem weA (h : Wp (fa ρ S) fun v S1 => Tb v fun b => Br b (Wp (fb ρ S1) Q) (Q (.bl false) S1)) : Wp (eAnd fa fb ρ S) Q := Wp.bind (h.imp fun a S ⟨b, e, h⟩ => by
  subst e
  cases b with
  | true => exact h.1 rfl
  | false => exact ⟨_, _, rfl, h.2 rfl⟩)
theorem weO (h : Wp (fa ρ S) fun v S1 => Tb v fun b => Br b (Q (.bl true) S1) (Wp (fb ρ S1) Q)) : Wp (eOr fa fb ρ S) Q := Wp.bind (h.imp fun a S ⟨b, e, h⟩ => by
  subst e
  cases b with
  | true => exact ⟨_, _, rfl, h.1 rfl⟩
  | false => exact h.2 rfl)
theorem weN (h : Wp (fa ρ S) fun v S1 => Tb v fun b => Q (.bl (!b)) S1) : Wp (eNot fa ρ S) Q := Wp.bind (h.imp fun a S ⟨b, e, h⟩ => by
  subst e
  exact ⟨_, _, rfl, h⟩)
theorem weI (h : Wp (t ρ S) fun b S1 => Br b (Wp (fa ρ S1) Q) (Wp (fb ρ S1) Q)) : Wp (eIf t fa fb ρ S) Q := Wp.bind (h.imp fun b S h => by
  cases b with
  | true => exact h.1 rfl
  | false => exact h.2 rfl)
theorem weCh {g g' : Val → Val → Sto → Option (Val × Sto)} (h : Wp (fa ρ S) fun x S1 => Wp (fb ρ S1) fun y S2 => Wp (g x y S2) fun z S3 => Tb z fun b => Br b (Wp (fc ρ S3) fun w S4 => Wp (g' y w S4) Q) (Q (.bl false) S3)) : Wp (eCh g g' fa fb fc ρ S) Q :=
  Wp.bind (h.imp fun x S1 h => Wp.bind (h.imp fun y S2 h => Wp.bind (h.imp fun z S3 ⟨b, e, h⟩ => by
    subst e
    cases b with
    | true => exact Wp.bind (h.1 rfl)
    | false => exact ⟨_, _, rfl, h.2 rfl⟩)))
theorem wa0 (h : A [] S) : Wp (aNil ρ S) A := ⟨_, _, rfl, h⟩
theorem wa1 (h : Wp (f ρ S) fun v S1 => Wp (ga ρ S1) fun vs S2 => A (v :: vs) S2) : Wp (aCons f ga ρ S) A := Wp.bind (h.imp fun x S1 h => Wp.bind (h.imp fun y S2 h => ⟨_, _, rfl, h⟩))
theorem wTup (h : Wp (ga ρ S) fun vs S1 => Sd (vs.length ≤ 1000000) (Q (.tup vs) S1)) : Wp (eTup ga ρ S) Q := Wp.bind (h.imp fun x S1 h => ⟨_, _, if_pos h.1, h.2⟩)

def Nw (S : Sto) (o : Ob) (Q : Val → Sto → Prop) : Prop := ∀ (T : Sto) (r : Nat), r = S.length → T.length = S.length + 1 → T[r]? = some o → Kn S T → Q (.ref r) T
theorem Nw.use {o : Ob} (h : Nw S o Q) : Q (.ref S.length) (S ++ [o]) := h _ _ rfl (by simp) (by simp) (Kn.app _ _)
theorem wLst (h : Wp (ga ρ S) fun vs S1 => Sd (vs.length ≤ 1000000) (Nw S1 (.lst vs) Q)) : Wp (eLst ga ρ S) Q := Wp.bind (h.imp fun x S1 h => ⟨_, _, if_pos h.1, h.2.use⟩)
theorem wDic (h : Nw S (.dic []) Q) : Wp (eDic ρ S) Q := ⟨_, _, rfl, h.use⟩
theorem wCall {g : List Val → Sto → Option (Val × Sto)} (h : Wp (ga ρ S) fun vs S1 => Wp (g vs S1) Q) : Wp (eCall g ga ρ S) Q := Wp.bind h
theorem wDef {F : FA} {n : Nat} (h : Wp (ga ρ S) fun vs S1 => Sd (vs.length = n) (Wp (F vs S1) Q)) : Wp (eDef F n ga ρ S) Q := Wp.bind (h.imp fun x S1 h => by
  show Wp (if x.length = n then F x S1 else none) Q
  rw [if_pos h.1]
  exact h.2)
theorem wMt {ok : Val → Sto → Bool} {g : Val → List Val → Sto → Option (Val × Sto)} (h : Wp (fo ρ S) fun x S1 => Sd (ok x S1 = true) (Wp (ga ρ S1) fun vs S2 => Wp (g x vs S2) Q)) : Wp (eMt ok g fo ga ρ S) Q := Wp.bind (h.imp fun x S1 h => by
  show Wp (if ok x S1 = true then (ga ρ S1).bind fun q => g x q.1 q.2 else none) Q
  rw [if_pos h.1]
  exact Wp.bind h.2)
theorem woN {O : Option Int → Sto → Prop} (h : O none S) : Wp (oN ρ S) O := ⟨_, _, rfl, h⟩
theorem woS {O : Option Int → Sto → Prop} (h : Wp (f ρ S) fun v S1 => Ti v fun i => O (some i) S1) : Wp (oS f ρ S) O := Wp.bind (h.imp fun x S1 ⟨i, e, h⟩ => by
  subst e
  exact ⟨_, _, rfl, h⟩)
theorem wSl {g : Val → Option Int → Option Int → Sto → Option (Val × Sto)} {lo hi : OF} (h : Wp (fa ρ S) fun x S1 => Wp (lo ρ S1) fun a S2 => Wp (hi ρ S2) fun b S3 => Wp (g x a b S3) Q) : Wp (eSl g fa lo hi ρ S) Q := Wp.bind (h.imp fun x S1 h => Wp.bind (h.imp fun y S2 h => Wp.bind h))
variable {x y : Val} {a b : Int}
theorem vI {g : Int → Int → Val} (hx : x = .int a) (hy : y = .int b) (q : Q (g a b) S) : Wp (gI g x y S) Q := by subst hx hy; exact ⟨_, _, rfl, q⟩
theorem vMul (hx : x = .int a) (hy : y = .int b) (q : Q (.int (a * b)) S) (h : CMulW a b) : Wp (gMul x y S) Q := by subst hx hy; exact ⟨_, _, if_pos h, q⟩
theorem vDiv (hx : x = .int a) (hy : y = .int b) (q : Q (.int (a / b)) S) (h : CDivW a b) : Wp (gDiv x y S) Q := by subst hx hy; exact ⟨_, _, if_pos h, q⟩
theorem vMod (hx : x = .int a) (hy : y = .int b) (q : Q (.int (a.fmod b)) S) (h : b ≠ 0) : Wp (gMod x y S) Q := by subst hx hy; exact ⟨_, _, if_pos h, q⟩
theorem vPow (hx : x = .int a) (hy : y = .int b) (q : Q (.int (a ^ b.toNat)) S) (h : CPow a b) : Wp (gPow x y S) Q := by subst hx hy; exact ⟨_, _, if_pos h, q⟩
theorem vAdd (hx : x = .int a) (hy : y = .int b) (q : Q (.int (a + b)) S) : Wp (gAdd x y S) Q := by subst hx hy; exact ⟨_, _, rfl, q⟩
theorem vNeg (hx : x = .int a) (q : Q (.int (-a)) S) : Wp (gNeg x S) Q := by subst hx; exact ⟨_, _, rfl, q⟩
theorem vAbs (hx : x = .int a) (q : Q (.int (if a < 0 then -a else a)) S) : Wp (gAbs [x] S) Q := by subst hx; exact ⟨_, _, rfl, q⟩
theorem vEq {c : Bool} (h : eqS x y = some c) (q : Q (.bl c) S) : Wp (gEq x y S) Q := ⟨_, _, by simp only [gEq, eqA, h]; rfl, q⟩
theorem vNe {c : Bool} (h : eqS x y = some c) (q : Q (.bl (!c)) S) : Wp (gNe x y S) Q := ⟨_, _, by simp only [gNe, eqA, h]; rfl, q⟩
theorem vIs (hy : y = .non) (q : Q (.bl (isNon x)) S) : Wp (gIs x y S) Q := by subst hy; exact ⟨_, _, rfl, q⟩
theorem vIsN (hy : y = .non) (q : Q (.bl (!isNon x)) S) : Wp (gIsN x y S) Q := by subst hy; exact ⟨_, _, rfl, q⟩
theorem vIxL {n : Nat} {i : Int} {vs : List Val} (hx : x = .ref n) (hy : y = .int i) (h : S[n]? = some (.lst vs)) (e : atI vs i = some v) (q : Q v S) : Wp (gIxA x y S) Q := by subst hx hy; exact ⟨v, S, by simp only [gIxA, gIx, h, e, Option.map_some], q⟩
theorem vIxT {i : Int} {vs : List Val} (hx : x = .tup vs) (hy : y = .int i) (e : atI vs i = some v) (q : Q v S) : Wp (gIxA x y S) Q := by subst hx hy; exact ⟨v, S, by simp only [gIxA, gIx, e, Option.map_some], q⟩
theorem vIxD {n : Nat} {k : Key} {kvs : List (Key × Val)} (hx : x = .ref n) (h : S[n]? = some (.dic kvs)) (hk : AL.keyOf y = some k) (e : valA kvs k = some v) (q : Q v S) : Wp (gIxA x y S) Q := by subst hx; exact ⟨v, S, by simp only [gIxA, h, hk, e, Option.map_some], q⟩
theorem isL_of {n : Nat} {vs : List Val} (h : S[n]? = some (.lst vs)) : isL (.ref n) S = true := by simp only [isL, h]
theorem vLenT {vs : List Val} (hx : x = .tup vs) (q : Q (.int vs.length) S) : Wp (gLen [x] S) Q := by subst hx; exact ⟨_, _, rfl, q⟩
theorem vLenL {n : Nat} {vs : List Val} (hx : x = .ref n) (h : S[n]? = some (.lst vs)) (q : Q (.int vs.length) S) : Wp (gLen [x] S) Q := by subst hx; exact ⟨_, S, by simp only [gLen, h], q⟩
theorem vTupL {n : Nat} {vs : List Val} (hx : x = .ref n) (h : S[n]? = some (.lst vs)) (q : Q (.tup vs) S) : Wp (gTuple [x] S) Q := by subst hx; exact ⟨_, S, by simp only [gTuple, h], q⟩
theorem vIn {n : Nat} {neg : Bool} {k : Key} {kvs : List (Key × Val)} (hy : y = .ref n) (h : S[n]? = some (.dic kvs)) (hk : AL.keyOf x = some k) (q : Q (.bl (if neg then !(valA kvs k).isSome else (valA kvs k).isSome)) S) : Wp (gIn neg x y S) Q := by subst hy; exact ⟨_, S, by simp only [gIn, h, hk], q⟩

def Pt (S : Sto) (n : Nat) (o : Ob) (Q : Sto → Prop) : Prop := ∀ T : Sto, T.length = S.length → T[n]? = some o → Kx n S T → Q T
theorem Pt.use {n : Nat} {o o' : Ob} {Q : Sto → Prop} (h : Pt S n o Q) (hn : S[n]? = some o') : Q (S.set n o) := h _ (by simp) (by rw [List.getElem?_set_self (List.getElem?_eq_some_iff.mp hn).1]) Kx.put
theorem vApp {n : Nat} {vs : List Val} (hx : x = .ref n) (h : S[n]? = some (.lst vs)) (q : Pt S n (.lst (vs ++ [v])) (Q .non)) (hl : vs.length < sizeLine) : Wp (gApp x [v] S) Q := by subst hx; exact ⟨.non, _, by simp only [gApp, h, if_pos hl], q.use h⟩
theorem small {n : Nat} (h : n < 1000000) : n < sizeLine := Nat.lt_of_lt_of_le h (by decide)
theorem vGet1 (h : Wp (fo ρ S) fun o S1 => ∃ n kvs, o = .ref n ∧ S1[n]? = some (.dic kvs) ∧ Wp (fi ρ S1) fun x S2 => ∃ kvs k, S2[n]? = some (.dic kvs) ∧ AL.keyOf x = some k ∧ Q ((valA kvs k).getD .non) S2) : Wp (eGet1 fo fi ρ S) Q := Wp.bind (h.imp fun o S1 ⟨n, kvs, e, h1, h2⟩ => by
  subst e
  simp only [h1]
  refine Wp.bind (h2.imp fun x S2 ⟨kvs, k, h3, h4, q⟩ => ?_)
  simp only [h3, h4]
  exact ⟨_, _, rfl, q⟩)
theorem vGet2 {fx : EF} (h : Wp (fo ρ S) fun o S1 => ∃ n kvs, o = .ref n ∧ S1[n]? = some (.dic kvs) ∧ Wp (fi ρ S1) fun x S2 => Wp (fx ρ S2) fun y S3 => ∃ kvs k, S3[n]? = some (.dic kvs) ∧ AL.keyOf x = some k ∧ Q ((valA kvs k).getD y) S3) : Wp (eGet2 fo fi fx ρ S) Q := Wp.bind (h.imp fun o S1 ⟨n, kvs, e, h1, h2⟩ => by
  subst e
  simp only [h1]
  refine Wp.bind (h2.imp fun x S2 h3 => ?_)
  refine Wp.bind (h3.imp fun y S3 ⟨kvs, k, h4, h5, q⟩ => ?_)
  simp only [h4, h5]
  exact ⟨_, _, rfl, q⟩)
theorem atI_mem {vs : List Val} {d : Int} (h0 : 0 ≤ d) (h1 : d < (vs.length : Nat)) : ∃ v, atI vs d = some v ∧ v ∈ vs := by
  obtain ⟨n, rfl⟩ := Int.eq_ofNat_of_zero_le h0
  have l : n < vs.length := by omega
  exact ⟨vs[n], atI_nat (List.getElem?_eq_getElem l), List.getElem_mem l⟩
theorem ws_seq (h : Ws (g1 ρ S) (fun ρ S => Ws (g2 ρ S) N R) R) : Ws (sSeq g1 g2 ρ S) N R := by
  obtain ⟨h⟩ := h
  unfold sSeq
  cases e : g1 ρ S with
  | nx _ _ => rw [e] at h; exact h
  | rt _ _ => rw [e] at h; exact ⟨h⟩
  | stuck => rw [e] at h; exact h.elim
  | bk _ _ => rw [e] at h; exact h.elim
  | ct _ _ => rw [e] at h; exact h.elim
theorem ws_nil (h : N ρ S) : Ws (sNil ρ S) N R := ⟨h⟩
theorem ws_expr (h : Wp (f ρ S) fun _ S => N ρ S) : Ws (sExpr f ρ S) N R := by
  obtain ⟨a, S1, e, q⟩ := h
  unfold sExpr
  rw [e]
  exact ⟨q⟩
theorem ws_ret (h : Wp (f ρ S) R) : Ws (sRet f ρ S) N R := by
  obtain ⟨a, S1, e, q⟩ := h
  unfold sRet
  rw [e]
  exact ⟨q⟩
theorem ws_if (h : Wp (t ρ S) fun b S1 => Br b (Ws (g1 ρ S1) N R) (Ws (g2 ρ S1) N R)) : Ws (sIf t g1 g2 ρ S) N R := by
  obtain ⟨b, S1, e, q⟩ := h
  unfold sIf
  rw [e]
  cases b with
  | true => exact q.1 rfl
  | false => exact q.2 rfl
theorem ws_asg (h : Wp (f ρ S) fun v S1 => Bn (p.bind v ρ) fun ρ1 => N ρ1 S1) : Ws (sAsg p f ρ S) N R := by
  obtain ⟨v, S1, e, ρ1, e1, q⟩ := h
  unfold sAsg
  rw [e]
  show Ws (match p.bind v ρ with
    | some ρ => .nx ρ S1
    | none => .stuck) N R
  rw [e1]
  exact ⟨q⟩
theorem ws_par {is : List Nat} (h : Wp (ga ρ S) fun vs S1 => Bn (Pat.binds (is.map Pat.nm) vs ρ) fun ρ1 => N ρ1 S1) : Ws (sPar is ga ρ S) N R := by
  obtain ⟨v, S1, e, ρ1, e1, q⟩ := h
  unfold sPar
  rw [e]
  show Ws (match Pat.binds (is.map Pat.nm) v ρ with
    | some ρ => .nx ρ S1
    | none => .stuck) N R
  rw [e1]
  exact ⟨q⟩
theorem ws_sub {g : Val → Val → Val → Sto → Option Sto} (h : Wp (f ρ S) fun v S1 => Wp (fo ρ S1) fun o S2 => Wp (fi ρ S2) fun i S3 => ∃ S4, g o i v S3 = some S4 ∧ N ρ S4) : Ws (sSub g fo fi f ρ S) N R := by
  obtain ⟨v, S1, e1, o, S2, e2, i, S3, e3, S4, e4, q⟩ := h
  unfold sSub
  simp only [e1, e2, e3, e4]
  exact ⟨q⟩
theorem vPut {n : Nat} {x : Val} {k : Key} {v : Val} {N : Sto → Prop} {kvs : List (Key × Val)} (h : S[n]? = some (.dic kvs)) (hk : AL.keyOf x = some k) (q : Pt S n (.dic (putA kvs k v)) N) (hl : kvs.length < sizeLine) : ∃ T, gSetA (.ref n) x v S = some T ∧ N T := ⟨_, by simp only [gSetA, h, hk, if_pos hl], q.use h⟩
theorem vPutL {n j : Nat} {i : Int} {v : Val} {N : Sto → Prop} {vs : List Val} (h : S[n]? = some (.lst vs)) (hj : ixN vs.length i = some j) (q : Pt S n (.lst (vs.set j v)) N) : ∃ T, gSetA (.ref n) (.int i) v S = some T ∧ N T := ⟨_, by simp only [gSetA, gSet, h, hj], q.use h⟩
theorem ws_for {fi : IF} {g : SF} (h : Wi (fi ρ S) fun vs ok S1 => Ws (forR p g ok vs ρ S1) N R) : Ws (sFor p fi g ρ S) N R := by
  obtain ⟨vs, ok, S1, e, h⟩ := h
  unfold sFor
  rw [e]
  exact h
theorem wf {n : Nat} {g : SF} {vs : List Val} (h : Ws (g (vs.map some ++ List.replicate (n - vs.length) none) S) (fun _ S => Q .non S) Q) : Wp (runF n g vs S) Q := by
  unfold runF
  generalize g (vs.map some ++ List.replicate (n - vs.length) none) S = r at h
  obtain ⟨h⟩ := h
  cases r with
  | nx ρ S => exact ⟨_, _, rfl, h⟩
  | rt v S => exact ⟨_, _, rfl, h⟩
  | stuck => exact h.elim
  | bk _ _ => exact h.elim
  | ct _ _ => exact h.elim
theorem ws_loop {g : SF} {ok : Sto → Prop} {vs : List Val} (I : Nat → Rho → Sto → Prop) (h0 : I 0 ρ S) (hok : ∀ i ρ S, i ≤ vs.length → I i ρ S → ok S)
    (step : ∀ i v ρ S, vs[i]? = some v → I i ρ S → Bn (p.bind v ρ) fun ρ1 => Ws (g ρ1 S) (I (i + 1)) R) (post : ∀ ρ S, I vs.length ρ S → N ρ S) : Ws (forR p g ok vs ρ S) N R := by
  have go : ∀ (k : Nat) (ρ : Rho) (S : Sto), k ≤ vs.length → I k ρ S → Ws (forR p g ok (vs.drop k) ρ S) N R := by
    intro k
    induction hn : vs.length - k generalizing k with
    | zero =>
      intro ρ S hk h
      have e : k = vs.length := by omega
      subst e
      rw [List.drop_length, forR_nil (hok _ _ _ hk h)]
      exact ⟨post _ _ h⟩
    | succ n ih =>
      intro ρ S hk h
      have l : k < vs.length := by omega
      rw [List.drop_eq_getElem_cons l]
      obtain ⟨ρ1, h1, h2⟩ := step k vs[k] ρ S (List.getElem?_eq_getElem l) h
      rw [forR_cons (hok _ _ _ hk h) h1]
      obtain ⟨h2⟩ := h2
      cases e : g ρ1 S with
      | nx ρ2 S2 =>
        rw [e] at h2
        exact ih (k + 1) (by omega) ρ2 S2 (by omega) h2
      | rt v S2 => rw [e] at h2; exact ⟨h2⟩
      | stuck => rw [e] at h2; exact h2.elim
      | bk _ _ => rw [e] at h2; exact h2.elim
      | ct _ _ => rw [e] at h2; exact h2.elim
  have := go 0 ρ S (Nat.zero_le _) h0
  rwa [List.drop_zero] at this

theorem wiT {X : List Val → (Sto → Prop) → Sto → Prop} {f : EF} (h : Wp (f ρ S) fun v S1 => (∃ vs, v = .tup vs ∧ X vs (fun _ => True) S1) ∨ ∃ n vs, v = .ref n ∧ S1[n]? = some (.lst vs) ∧ X vs (fun S => S[n]? = some (.lst vs)) S1) : Wi (iSeq f ρ S) X := by
  obtain ⟨v, S1, e, h⟩ := h
  rcases h with ⟨vs, rfl, h⟩ | ⟨n, vs, rfl, h1, h⟩
  · exact ⟨_, _, _, by unfold iSeq; rw [e]; rfl, h⟩
  · exact ⟨_, _, _, by unfold iSeq; rw [e]; simp only [Option.bind_some, h1], h⟩
theorem wiR {X : List Val → (Sto → Prop) → Sto → Prop} (h : Wp (ga ρ S) fun vs S1 => ∃ j, vs = [.int j] ∧ X (rangeV 0 j.toNat) (fun _ => True) S1 ∧ -(2 ^ 62) ≤ j ∧ j < 2 ^ 62) : Wi (iRg1 ga ρ S) X := by
  obtain ⟨v, S1, e, j, rfl, h, h1, h2⟩ := h
  exact ⟨_, _, _, by unfold iRg1; rw [e]; exact if_pos ⟨h1, h2⟩, h⟩
theorem wiR2 {X : List Val → (Sto → Prop) → Sto → Prop} (h : Wp (ga ρ S) fun vs S1 => ∃ i j, vs = [.int i, .int j] ∧ X (rangeV i (j - i).toNat) (fun _ => True) S1 ∧ -(2 ^ 62) ≤ i ∧ i < 2 ^ 62 ∧ -(2 ^ 62) ≤ j ∧ j < 2 ^ 62) : Wi (iRg2 ga ρ S) X := by
  obtain ⟨v, S1, e, i, j, rfl, h, h1⟩ := h
  exact ⟨_, _, _, by unfold iRg2; rw [e]; exact if_pos h1, h⟩
theorem wiE {X : List Val → (Sto → Prop) → Sto → Prop} (h : Wp (ga ρ S) fun vs S1 => (∃ ws, vs = [.tup ws] ∧ X (enumV ws) (fun _ => True) S1) ∨ ∃ n ws, vs = [.ref n] ∧ S1[n]? = some (.lst ws) ∧ X (enumV ws) (fun S => S[n]? = some (.lst ws)) S1) : Wi (iEn ga ρ S) X := by
  obtain ⟨v, S1, e, h⟩ := h
  rcases h with ⟨vs, rfl, h⟩ | ⟨n, vs, rfl, h1, h⟩
  · exact ⟨_, _, _, by unfold iEn; rw [e]; rfl, h⟩
  · exact ⟨_, _, _, by unfold iEn; rw [e]; simp only [Option.bind_some, h1], h⟩

theorem wLc {fi : IF} {own : List Nat} (h : Wi (fi ρ S) fun vs ok S1 => Wp (lcR p t f ok (wipeR ρ own) vs [] S1) fun ys S2 => Nw S2 (.lst ys) Q) : Wp (eLc p fi t f own ρ S) Q := by
  obtain ⟨vs, ok, S1, e, h⟩ := h
  unfold eLc
  rw [e]
  exact Wp.bind (h.imp fun ys S2 h => ⟨_, _, rfl, h.use⟩)

theorem lc_pure {ok : Sto → Prop} {vs : List Val} (b : Val → Bool) (g : Val → Val) (hok : ok S) (hl : vs.length < 1000000)
    (h : ∀ v ∈ vs, Bn (p.bind v ρ) fun ρ1 => Wp (t ρ1 S) fun c T => c = b v ∧ T = S ∧ (b v = true → Wp (f ρ1 S) fun y T => y = g v ∧ T = S)) (q : A ((vs.filter b).map g) S) : Wp (lcR p t f ok ρ vs [] S) A := by
  have := lcR_pure (p := p) (t := t) (f := f) (ok := ok) (ρ := ρ) (S := S) hok b g vs [] (by simpa using hl) fun v hv => by
    obtain ⟨ρ1, h1, c, T, h2, rfl, rfl, h3⟩ := h v hv
    refine ⟨ρ1, h1, h2, fun hb => ?_⟩
    obtain ⟨y, T2, h4, rfl, rfl⟩ := h3 hb
    exact h4
  exact ⟨_, _, this, by simpa using q⟩

theorem lc_inv {ok : Sto → Prop} {vs : List Val} (I : Nat → List Val → Sto → Prop) (hl : vs.length < 900000) (h0 : I 0 [] S) (hok : ∀ i a S, i ≤ vs.length → I i a S → ok S) (hlen : ∀ i a S, I i a S → a.length ≤ i)
    (step : ∀ i v a S, vs[i]? = some v → I i a S → Bn (p.bind v ρ) fun ρ1 => Wp (t ρ1 S) fun c S1 => Br c (Wp (f ρ1 S1) fun y S2 => I (i + 1) (a ++ [y]) S2) (I (i + 1) a S1))
    (q : ∀ a S, I vs.length a S → A a S) : Wp (lcR p t f ok ρ vs [] S) A := by
  have := lcR_run (p := p) (t := t) (f := f) (ok := ok) (ρ := ρ) (S := S) (fun i a S => i ≤ vs.length ∧ I i a S) hl (fun i a S h => hok i a S h.1 h.2) (fun i a S h => hlen i a S h.2) ⟨Nat.zero_le _, h0⟩ fun i v a S hv h => by
    have hi := (List.getElem?_eq_some_iff.mp hv).1
    obtain ⟨ρ1, h1, c, S1, h2, h3, h4⟩ := step i v a S hv h.2
    refine ⟨ρ1, h1, ?_⟩
    cases c with
    | true =>
      obtain ⟨y, S2, h5, h6⟩ := h3 rfl
      exact .inl ⟨S1, y, S2, h2, h5, hi, h6⟩
    | false => exact .inr ⟨S1, h2, hi, h4 rfl⟩
  obtain ⟨a, S1, e, _, h⟩ := this
  exact ⟨a, S1, e, q a S1 h⟩

theorem ws_while {tb : BF} {g : SF} (M : Rho → Sto → Nat) (I : Rho → Sto → Prop) (h0 : I ρ S)
    (step : ∀ ρ S, I ρ S → Wp (tb ρ S) fun b S1 => Br b (Ws (g ρ S1) (fun ρ2 S2 => I ρ2 S2 ∧ M ρ2 S2 < M ρ S) R) (N ρ S1)) : Ws (sWhile tb g ρ S) N R := by
  have go : ∀ (n : Nat) (ρ : Rho) (S : Sto), M ρ S < n → I ρ S → Ws (whR tb g n ρ S) N R := by
    intro n
    induction n with
    | zero => intro ρ S h; omega
    | succ n ih =>
      intro ρ S hm hI
      obtain ⟨b, S1, e, h1, h2⟩ := step ρ S hI
      cases b with
      | false =>
        rw [whR]
        simp only [e]
        exact ⟨h2 rfl⟩
      | true =>
        obtain ⟨h3⟩ := h1 rfl
        rw [whR]
        cases e2 : g ρ S1 with
        | nx ρ2 S2 =>
          rw [e2] at h3
          simp only [e, e2]
          exact ih ρ2 S2 (by have := h3.2; omega) h3.1
        | rt v S2 =>
          rw [e2] at h3
          simp only [e, e2]
          exact ⟨h3⟩
        | stuck => rw [e2] at h3; exact h3.elim
        | bk _ _ => rw [e2] at h3; exact h3.elim
        | ct _ _ => rw [e2] at h3; exact h3.elim
  have h := go (M ρ S + 1) ρ S (Nat.lt_succ_self _) h0
  have ns : whR tb g (M ρ S + 1) ρ S ≠ .stuck := fun z => by rw [z] at h; exact h.h
  rw [sWhile_eq rfl ns]
  exact h
end
theorem Kn.at {S T : Sto} (k : Kn S T) {n : Nat} {o : Ob} (h : S[n]? = some o) : T[n]? = some o := k n o h
theorem Kx.at {x : Nat} {S T : Sto} (k : Kx x S T) {n : Nat} {o : Ob} (hn : n ≠ x) (h : S[n]? = some o) : T[n]? = some o := k n o hn h
theorem lt_of_at {S : Sto} {n : Nat} {o : Ob} (h : S[n]? = some o) : n < S.length := (List.getElem?_eq_some_iff.mp h).1
end AL
namespace AL
open PySem PySem.Spec PyProof.Rows L2 G Th
variable [TT]
section
variable {ρ : Rho} {S : Sto} {ga gk : AF} {Q : Val → Sto → Prop}
theorem wDefK {F : FA} {n m : Nat} {gA : List Val → List Val → List Val} (h : Wp (ga ρ S) fun vs S1 => Wp (gk ρ S1) fun ws S2 => Sd (vs.length = n ∧ ws.length = m) (Wp (F (gA vs ws) S2) Q)) : Wp (eDefK F n m gA ga gk ρ S) Q := Wp.bind (h.imp fun x S1 h => Wp.bind (h.imp fun y S2 h => by
  show Wp (if x.length = n ∧ y.length = m then F (gA x y) S2 else none) Q
  rw [if_pos h.1]
  exact h.2))
theorem vIsi {x : Val} {T a : String} {b : Bool} (ht : tyN x S = some a) (hk : L2.kitB a T = some b) (q : Q (.bl b) S) : Wp (gIsi T x S) Q := ⟨_, _, by simp only [gIsi, ht, Option.bind_some, hk, Option.map_some], q⟩
theorem vAll {x : Val} {n : Nat} {bs : List Bool} (hx : x = .ref n) (h : S[n]? = some (.lst (bs.map Val.bl))) (q : Q (.bl (bs.all id)) S) : Wp (gAll [x] S) Q := by
  subst hx
  exact ⟨_, _, by simp only [gAll, h, bls_map, Option.map_some], q⟩
theorem vIsT {x y : Val} {a b : Bool} (hx : x = .bl a) (hy : y = .bl b) (q : Q (.bl (decide (a = b))) S) : Wp (gIsT x y S) Q := by subst hx hy; exact ⟨_, _, rfl, q⟩
theorem vIsNT {x y : Val} {a b : Bool} (hx : x = .bl a) (hy : y = .bl b) (q : Q (.bl (!decide (a = b))) S) : Wp (gIsNT x y S) Q := by subst hx hy; exact ⟨_, _, rfl, q⟩
theorem vIntB {x : Val} {b : Bool} (hx : x = .bl b) (q : Q (.int (if b then 1 else 0)) S) : Wp (gInt [x] S) Q := by subst hx; exact ⟨_, _, rfl, q⟩
theorem vRev {x : Val} {n : Nat} {vs : List Val} (hx : x = .ref n) (h : S[n]? = some (.lst vs)) (q : Nw S (.lst vs.reverse) Q) : Wp (gRev x S) Q := by
  subst hx
  exact ⟨_, _, by simp only [gRev, h], q.use⟩
theorem vCatL {x y : Val} {n m : Nat} {vs ws : List Val} (hx : x = .ref n) (hy : y = .ref m) (h : S[n]? = some (.lst vs)) (h' : S[m]? = some (.lst ws)) (hl : vs.length + ws.length ≤ 1000000) (q : Nw S (.lst (vs ++ ws)) Q) : Wp (gAdd x y S) Q := by
  subst hx hy
  exact ⟨_, _, by simp only [gAdd, h, h', if_pos (mill hl)], q.use⟩
theorem vPop {x : Val} {n k : Nat} {i : Int} {vs : List Val} {v : Val} (hx : x = .ref n) (h : S[n]? = some (.lst vs)) (hi : i = (k : Nat)) (hk : vs[k]? = some v) (hl : vs.length < 1000000) (q : Pt S n (.lst (vs.eraseIdx k)) (Q v)) : Wp (gPop x [.int i] S) Q := by
  subst hx hi
  have lt := (List.getElem?_eq_some_iff.mp hk).1
  have e : seqIndex? ((k : Nat) : Int) vs.length = some k := by
    unfold seqIndex?
    simp only []
    first
      | (rw [if_neg (by omega)]; simp; omega)
      | (simp; omega)
  refine ⟨v, _, ?_, q.use h⟩
  simp only [gPop, h]
  rw [if_pos (by omega)]
  simp only [e, hk]
theorem vRep {x y : Val} {n : Nat} {k : Int} {vs : List Val} (hx : x = .ref n) (hy : y = .int k) (h : S[n]? = some (.lst vs)) (q : Nw S (.lst (List.replicate k.toNat vs).flatten) Q) (hk : -(2 ^ 63) ≤ k ∧ k < 2 ^ 63 ∧ vs.length * k.toNat ≤ 1000000) : Wp (gRep x y S) Q := by
  subst hx hy
  refine ⟨_, _, ?_, q.use⟩
  simp only [gRep, h]
  rw [if_pos hk]
theorem wiZ {X : List Val → (Sto → Prop) → Sto → Prop} (h : Wp (ga ρ S) fun vs S1 => ∃ as bs, vs = [.tup as, .tup bs] ∧ X (zipV as bs) (fun _ => True) S1) : Wi (iZp ga ρ S) X := by
  obtain ⟨v, S1, e, as, bs, rfl, h⟩ := h
  exact ⟨_, _, _, by unfold iZp; rw [e]; rfl, h⟩
end
end AL
namespace AL
open PySem PySem.Spec PyProof.Rows L2 G Th
variable [TT]
def maxI : Int → List Int → Int
  | a, [] => a
  | a, b :: r => maxI (if a < b then b else a) r
theorem maxI_ok : ∀ (a : Int) (r : List Int), maxI a r ∈ a :: r ∧ ∀ y ∈ a :: r, y ≤ maxI a r
  | a, [] => ⟨by simp [maxI], fun y hy => by simp at hy; simp [maxI, hy]⟩
  | a, b :: r => by
    obtain ⟨h1, h2⟩ := maxI_ok (if a < b then b else a) r
    unfold maxI
    refine ⟨?_, fun y hy => ?_⟩
    · rcases List.mem_cons.mp h1 with z | z
      · rw [z]
        split <;> simp
      · simp [z]
    · have h0 := h2 _ (List.mem_cons_self)
      rcases List.mem_cons.mp hy with rfl | hy
      · refine Int.le_trans ?_ h0
        split <;> omega
      · rcases List.mem_cons.mp hy with rfl | hy
        · refine Int.le_trans ?_ h0
          split <;> omega
        · exact h2 y (List.mem_cons_of_mem _ hy)
section
variable {X : Cx} {K : PySem.W.Frag}
def gMaxA : List Val → Sto → Option (Val × Sto) := fun xs S => match xs with
  | [.int i, .int j] => some (.int (if j > i then j else i), S)
  | [.ref n] => match S[n]? with
    | some (.lst vs) => match intsOf vs with
      | some (a :: r) => some (.int (maxI a r), S)
      | _ => none
    | _ => none
  | _ => none
theorem call_maxA (hc : X.calm = true) : CallR X (.builtin "max") (fun xs H Q => (∃ i j, xs = [.int i, .int j] ∧ Q (.int (if j > i then j else i)) H) ∨ rMax X.K xs H Q) := CallR.or (call_max2 hc) (cr_max hc)
theorem cMaxA : CaA K (fun xs H Q => (∃ i j, xs = [.int i, .int j] ∧ Q (.int (if j > i then j else i)) H) ∨ rMax K xs H Q) gMaxA := by
  intro m S H xs v S' us Q R r e q
  unfold gMaxA at e
  split at e
  · cases e
    obtain ⟨u, z, rfl, ru, rz⟩ := r.two_of
    cases ru
    cases rz
    exact .inl ⟨_, _, rfl, q m _ H (.refl _ _) R (.int _)⟩
  · split at e
    · next n _ vs en =>
      split at e
      · next a t hns =>
        cases e
        obtain ⟨u, rfl, ru⟩ := r.one_of
        cases ru with
        | ref ha =>
          obtain ⟨zs, hz, rz⟩ := R.ob _ _ _ en ha
          have rz : VRs K H m zs vs := rz
          rw [ints_eq hns] at rz
          have ez := rz.ints
          subst ez
          refine .inr ⟨_, a :: t, rfl, SqL.of hz, by simp, fun M h1 h2 => ?_⟩
          obtain ⟨k1, k2⟩ := maxI_ok a t
          have : M = maxI a t := by
            have := h2 _ k1
            have := k2 _ h1
            omega
          rw [this]
          exact q m _ H (.refl _ _) R (.int _)
      · cases e
    · cases e
  · cases e
end
section
variable {ρ : Rho} {S : Sto} {Q : Val → Sto → Prop} {N : Rho → Sto → Prop} {R : Val → Sto → Prop}
theorem vMax2 {x y : Val} {i j : Int} (hx : x = .int i) (hy : y = .int j) (q : Q (.int (if j > i then j else i)) S) : Wp (gMaxA [x, y] S) Q := by
  subst hx hy
  exact ⟨_, _, rfl, q⟩
theorem ws_aug {i : Nat} {f : EF} {a : Int} (hi : ρ[i]? = some (some (.int a))) (h : Wp (f ρ S) fun v S1 => Ti v fun b => N (ρ.set i (some (.int (a + b)))) S1) : Ws (sAug i f ρ S) N R := by
  obtain ⟨v, S1, e, b, rfl, h⟩ := h
  constructor
  unfold sAug
  simp only [hi, e]
  exact h
end
end AL
namespace AL
open PySem PySem.Spec PyProof.Rows L2 G Th
end AL
namespace AL
open PySem PySem.Spec PyProof.Rows L2 G
variable [TT]
section
variable {X : Cx} {K : PySem.W.Frag}
def gInD (neg : Bool) : Val → Val → Sto → Option (Val × Sto) := fun x y S => match toD S 40 x, toD S 40 y with
  | some d, some (.list ds) => if SeqAt.shaped d = true ∧ SeqAt.shaped (.list ds) = true then some (.bl (if neg then !(ds.any fun z => PyData.eqv z d) else ds.any fun z => PyData.eqv z d), S) else none
  | _, _ => none
theorem oNInD : OpA K (rNotInD K) (gInD true) := by
  intro m S H x y v S' u w Q R ru rw_ e q
  unfold gInD at e
  split at e
  · next d ds e1 e2 =>
    split at e
    · next hs =>
      cases e
      exact ⟨d, ds, toD_dp R 40 _ _ _ ru e1, toD_dp R 40 _ _ _ rw_ e2, hs.1, hs.2, q m _ H (.refl _ _) R (.bl _)⟩
    · cases e
  · cases e
theorem hu65 {k : Nat} {A : Around} (r : Room k A) : A.units + 65 < cLine := by have := r.un; omega
end
end AL
namespace AL
open PySem PySem.Spec PyProof.Rows L2 G Th
variable [TT]
def xv (c : Str) (vs : List Val) : Val := .tup (.scr [] :: .str c :: vs)
def isX : Val → Option (Str × List Val)
  | .tup (.scr _ :: .str c :: vs) => some (c, vs)
  | _ => none
structure XR (K : PySem.W.Frag) (mg : Str → Option Value) (H : Hp) (m : List Addr) (c : Str) (vs : List Val) (cls : Value) (d : Option Addr) : Prop where
  cl : mg c = some cls
  fl : ∃ (dd : Addr) (fs : List (Str × V)), d = some dd ∧ H dd = some (.xd fs) ∧ ∀ (i : Nat) (n : Str) (v : Val), (xfs c)[i]? = some n → vs[i]? = some v → ∃ u, fs.lookup n = some u ∧ VR K H m u v
def PX (K : PySem.W.Frag) (mg : Str → Option Value) (m : List Addr) (H : Hp) (Q : VK) (Ek : XK) (v : Val) (S : Sto) : Prop := match isX v with
  | some (c, vs) => ∀ m' H' cls d, Ext m H m' H' → Rel K m' S H' → XR K mg H' m' c vs cls d → Ek cls d H'
  | none => ∀ m' u H', Ext m H m' H' → Rel K m' S H' → VR K H' m' u v → Q u H'
def PostX (K : PySem.W.Frag) (mg : Str → Option Value) (m : List Addr) (H : Hp) (D : Ends) (Ek : XK) : Res → Prop
  | .stuck => False
  | .nx ρ S => ∀ m' σ' H', Ext m H m' H' → Rel K m' S H' → RhoR K H' m' ρ σ' → D.nx σ' H'
  | .rt v S => PX K mg m H D.rt Ek v S
  | .bk ρ S => ∀ m' σ' H', Ext m H m' H' → Rel K m' S H' → RhoR K H' m' ρ σ' → D.bk σ' H'
  | .ct ρ S => ∀ m' σ' H', Ext m H m' H' → Rel K m' S H' → RhoR K H' m' ρ σ' → D.ct σ' H'
section
variable {K : PySem.W.Frag} {mg : Str → Option Value} {m m1 : List Addr} {H H1 : Hp} {Q Q' : VK} {Ek : XK} {v : Val} {S : Sto} {D : Ends}
theorem PX.ext (h : PX K mg m H Q Ek v S) (E : Ext m H m1 H1) : PX K mg m1 H1 Q Ek v S := by
  unfold PX at h ⊢
  split
  · next c vs e =>
    rw [e] at h
    exact fun m' H' cls d E' R x => h m' H' cls d (E.trans E') R x
  · next e =>
    rw [e] at h
    exact fun m' u H' E' R x => h m' u H' (E.trans E') R x
theorem PX.no (hx : isX v = none) : PX K mg m H Q Ek v S ↔ ∀ m' u H', Ext m H m' H' → Rel K m' S H' → VR K H' m' u v → Q u H' := by
  unfold PX
  rw [hx]
theorem PX.yes {c : Str} {vs : List Val} (hx : isX v = some (c, vs)) : PX K mg m H Q Ek v S ↔ ∀ m' H' cls d, Ext m H m' H' → Rel K m' S H' → XR K mg H' m' c vs cls d → Ek cls d H' := by
  unfold PX
  rw [hx]
theorem PostX.ext {r : Res} (h : PostX K mg m H D Ek r) (E : Ext m H m1 H1) : PostX K mg m1 H1 D Ek r := by
  cases r with
  | stuck => exact h
  | nx ρ S => exact fun m' σ' H' E' => h m' σ' H' (E.trans E')
  | rt ρ S => exact PX.ext h E
  | bk ρ S => exact fun m' σ' H' E' => h m' σ' H' (E.trans E')
  | ct ρ S => exact fun m' σ' H' E' => h m' σ' H' (E.trans E')
end
def tX (K : PySem.W.Frag) (mg : Str → Option Value) (Ek : XK) (g : SF) : TS := fun D σ H => ∃ m ρ S, Rel K m S H ∧ RhoR K H m ρ σ ∧ PostX K mg m H D Ek (g ρ S)

def tXs (K : PySem.W.Frag) (mg : Str → Option Value) (W : WX) (g : SF) : TS := fun D σ H => ∃ m ρ S, Rel K m S H ∧ RhoR K H m ρ σ ∧ PostX K mg m H D (WE W σ) (g ρ S)
abbrev AX (X : Cx) (Ek : XK) (st : Stmt) (g : SF) : Prop := PS X st (tX X.K X.mg Ek g)
abbrev AXs (X : Cx) (Ek : XK) (sts : List Stmt) (g : SF) : Prop := PSs X sts (tX X.K X.mg Ek g)
abbrev AXw (X : Cx) (W : WX) (st : Stmt) (g : SF) : Prop := PS X st (tXs X.K X.mg W g)

abbrev EW (Ek : XK) : WX := fun cls d _ H => Ek cls d H
section
variable {X : Cx} {Ek : XK} {W : WX} {st : Stmt} {sts rest : List Stmt} {e a b c o i : Expr} {es : List Expr} {pos : Pos} {f fa fb fc : EF} {g g1 g2 : SF} {tb : BF} {K : PySem.W.Frag} {ga : AF}
theorem xw (h : AXw X (EW Ek) st g) : AX X Ek st g := h
theorem xl (h : AS X st g) (hg : ∀ ρ S v S', g ρ S = .rt v S' → isX v = none) : AX X Ek st g := ps_w h fun D σ H z => by
  obtain ⟨m, ρ, S, R, r, p⟩ := z
  refine ⟨m, ρ, S, R, r, ?_⟩
  cases e : g ρ S with
  | nx ρ1 S1 => rw [e] at p; exact p
  | stuck => rw [e] at p; exact p
  | rt v S1 => rw [e] at p; exact (PX.no (hg _ _ _ _ e)).mp p
  | bk v S1 => rw [e] at p; exact p
  | ct v S1 => rw [e] at p; exact p
theorem xsn : AXs X Ek [] sNil := pss_w pss_nil fun D σ H h => by
  obtain ⟨m, ρ, S, R, r, p⟩ := h
  exact p m σ H (.refl _ _) R r
theorem xsq (h1 : AX X Ek st g1) (h2 : AXs X Ek rest g2) : AXs X Ek (st :: rest) (sSeq g1 g2) := pss_w (pss_cons h1 h2) fun D σ H h => by
  obtain ⟨m, ρ, S, R, r, p⟩ := h
  refine ⟨m, ρ, S, R, r, ?_⟩
  unfold sSeq at p
  cases e : g1 ρ S with
  | nx ρ1 S1 =>
    rw [e] at p
    intro m1 σ1 H1 E1 R1 r1
    exact ⟨m1, ρ1, S1, R1, r1, p.ext E1⟩
  | stuck => rw [e] at p; exact p
  | rt v S1 => rw [e] at p; exact p
  | bk v S1 => rw [e] at p; exact p
  | ct v S1 => rw [e] at p; exact p
theorem xs1 (h : AX X Ek st g) : AXs X Ek [st] g := pss_one h
theorem xsi (hc : AT X c tb) (h1 : AXs X Ek sts g1) (h2 : AXs X Ek rest g2) : AX X Ek (.If c sts rest pos) (sIf tb g1 g2) := ps_w (ps_if hc h1 h2) fun D σ H h => by
  obtain ⟨m, ρ, S, R, r, p⟩ := h
  unfold sIf at p
  split at p
  · next S1 e1 => exact ⟨m, ρ, S, true, S1, R, r, e1, fun m1 H1 E1 R1 => ⟨m1, ρ, S1, R1, r.kp (E1.kp R), p.ext E1⟩⟩
  · next S1 e1 => exact ⟨m, ρ, S, false, S1, R, r, e1, fun m1 H1 E1 R1 => ⟨m1, ρ, S1, R1, r.kp (E1.kp R), p.ext E1⟩⟩
  · exact p.elim
theorem xsf {p : Pat} {tg it : Expr} {fi : IF} (hp : PassesOwn (model X.prog X.w) X.A X.env X.xe) (hc : X.calm = true) (hi : AI X tg it fi) (hg : PG X tg (tG X.K p)) (hb : AXs X Ek sts g)
    (hs : ∀ x, foldedSetIterable it X.env x = pure x := by intro _; rfl) : AX X Ek (.For tg it sts [] pos) (sFor p fi g) := ps_w (ps_for hp hc hi hg hb hs) fun D σ H h => by
  obtain ⟨m, ρ, S, R, r, q⟩ := h
  unfold sFor at q
  split at q
  · next vs ok S1 e1 =>
    refine ⟨m, ρ, S, vs, ok, S1, R, r, e1, fun m0 H0 J E0 R0 it0 => ?_⟩
    refine ⟨fun i k σ H => k + i = vs.length ∧ ∃ m ρ S, Ext m0 H0 m H ∧ Rel X.K m S H ∧ RhoR X.K H m ρ σ ∧ PostX X.K X.mg m H D Ek (forR p g ok (vs.drop i) ρ S), ⟨vs.length, by omega, m0, ρ, S1, .refl _ _, R0, r.kp (E0.kp R), q.ext E0⟩, ?_⟩
    rintro i k σ H ⟨hk, m, ρ, S, E, R, r, q⟩
    by_cases hlt : i < vs.length
    · rw [List.drop_eq_getElem_cons hlt] at q
      unfold forR at q
      split at q
      · next hok =>
        split at q
        · exact q.elim
        · next ρ1 e2 =>
          obtain ⟨go, yl⟩ := it0.step i m S H E R hok vs[i] (List.getElem?_eq_getElem hlt)
          refine .inr ⟨go, fun σ H => ∃ m ρ S, Ext m0 H0 m H ∧ Rel X.K m S H ∧ RhoR X.K H m ρ σ ∧ PostX X.K X.mg m H D Ek (forR p g ok (vs.drop (i + 1)) ρ S), fun σ' H' h => ⟨k - 1, by omega, by omega, h⟩, fun x H' hy => ?_⟩
          obtain ⟨R', E', rx⟩ := yl x H' hy
          refine ⟨m, S, ρ, _, ρ1, R', r.kp (E'.kp R), rx, e2, fun σ1 r1 _ => ⟨m, ρ1, S, R', r1, ?_⟩⟩
          have EE := E.trans E'
          split at q
          · next ρ2 S2 e3 =>
            rw [e3]
            exact fun m2 σ2 H2 E2 R2 r2 => ⟨m2, ρ2, S2, EE.trans E2, R2, r2, q.ext (E'.trans E2)⟩
          · next ρ2 S2 e3 =>
            rw [e3]
            exact fun m2 σ2 H2 E2 R2 r2 => ⟨m2, ρ2, S2, EE.trans E2, R2, r2, q.ext (E'.trans E2)⟩
          · next ρ2 S2 e3 =>
            rw [e3]
            exact fun m2 σ2 H2 E2 R2 r2 => q m2 σ2 H2 (E'.trans E2) R2 r2
          · next v2 S2 e3 =>
            rw [e3]
            exact PX.ext q E'
          · exact q.elim
      · exact q.elim
    · have e : i = vs.length := by omega
      subst e
      rw [List.drop_length] at q
      unfold forR at q
      split at q
      · next hok => exact .inl ⟨it0.stop m S H E R hok, q m σ H (.refl _ _) R r⟩
      · exact q.elim
  · exact q.elim
theorem nr_asg {p : Pat} : ∀ ρ S v S', sAsg p f ρ S = .rt v S' → isX v = none := fun ρ S v S' h => by
  unfold sAsg at h
  split at h
  · split at h <;> cases h
  · cases h
def sRetN (f : EF) : SF := fun ρ S => match f ρ S with
  | some (v, S) => match isX v with
    | none => .rt v S
    | some _ => .stuck
  | none => .stuck
theorem xsr (he : AE X e f) : AX X Ek (.Return (some e) pos) (sRetN f) := ps_w (ps_ret he) fun D σ H h => by
  obtain ⟨m, ρ, S, R, r, p⟩ := h
  unfold sRetN at p
  split at p
  · next v S1 e1 =>
    split at p
    · next hx => exact ⟨m, ρ, S, v, S1, R, r, e1, (PX.no hx).mp p⟩
    · exact p.elim
  · exact p.elim
def tFx (K : PySem.W.Frag) (mg : Str → Option Value) (W : WX) (f : EF) : TE := fun σ H Q => ∃ m ρ S v S', Rel K m S H ∧ RhoR K H m ρ σ ∧ f ρ S = some (v, S') ∧ PX K mg m H Q (WE W σ) v S'
abbrev AEX (X : Cx) (W : WX) (e : Expr) (f : EF) : Prop := PE X e (tFx X.K X.mg W f)
theorem xsrX (he : AEX X W e f) : AXw X W (.Return (some e) pos) (sRet f) := ps_w (ps_ret he) fun D σ H h => by
  obtain ⟨m, ρ, S, R, r, p⟩ := h
  unfold sRet at p
  split at p
  · next v S1 e1 => exact ⟨m, ρ, S, v, S1, R, r, e1, p⟩
  · exact p.elim
def sExprX (f : EF) : SF := fun ρ S => match f ρ S with
  | some (v, S) => match isX v with
    | none => .nx ρ S
    | some _ => .rt v S
  | none => .stuck
theorem xsx (he : AEX X W e f) (hs : swapsWith e none pos.line X.env = pure false := by rfl) : AXw X W (.Expr e pos) (sExprX f) := ps_w (ps_expr he hs) fun D σ H h => by
  obtain ⟨m, ρ, S, R, r, p⟩ := h
  unfold sExprX at p
  split at p
  · next v S1 e1 =>
    refine ⟨m, ρ, S, v, S1, R, r, e1, ?_⟩
    split at p
    · next hx => exact (PX.no hx).mpr fun m1 u H1 E1 R1 r1 => p m1 σ H1 E1 R1 (r.kp (E1.kp R))
    · next hx => exact (PX.yes hx).mpr ((PX.yes hx).mp p)
  · exact p.elim
def sAsgX (q : Pat) (f : EF) : SF := fun ρ S => match f ρ S with
  | some (v, S) => match isX v with
    | none => match q.bind v ρ with
      | some ρ => .nx ρ S
      | none => .stuck
    | some _ => .rt v S
  | none => .stuck
theorem xss {i : Nat} {x : Str} {pos' : Pos} (hN : X.N.Nodup) (hi : X.N[i]? = some x) (hx : Loc X.env.scope x) (he : AEX X W e f) (hs : swapsWith e (some (.Name x pos')) pos.line X.env = pure false := by rfl) (hf : X.fn x = true ∨ X.env.scope.names.lookup x = some .local := by first | exact .inl rfl | exact .inr rfl | assumption) :
    AXw X W (.Assign [.Name x pos'] e pos) (sAsgX (.nm i) f) := ps_w (ps_set hN hi hx he hs hf) fun D σ H h => by
  obtain ⟨m, ρ, S, R, r, p⟩ := h
  unfold sAsgX at p
  split at p
  · next v S1 e1 =>
    refine ⟨m, ρ, S, v, S1, R, r, e1, ?_⟩
    split at p
    · next hx =>
      simp only [Pat.bind] at p
      exact (PX.no hx).mpr fun m1 u H1 E1 R1 r1 => p m1 _ H1 E1 R1 ((r.kp (E1.kp R)).set r1 i)
    · next hx => exact (PX.yes hx).mpr ((PX.yes hx).mp p)
  · exact p.elim
end
structure FnX (P : Program) (w : World) (K : PySem.W.Frag) (mg : Str → Option Value) (base : Heap) (k : Nat) (f : Addr) (fd : FuncData) (ps : List Str) (sp : Sp) : Prop where
  len : ∀ vs H Q E, sp vs H Q E → vs.length = ps.length
  run : ∀ (A : Around) (outer : List Env) (s : Shared) (H : Hp) (args : Args) (us : List Value) (vs : List V) (Q : VK) (E : XK),
    A.guards = some [] → Room k A → Env0 P w K mg base A outer s H → BindsTo s fd args (ps.zip us) → Vals vs us → sp vs H Q E →
      codeAny (model P w) A (.call (.ref f) args) (CR (CX P w) outer P w H s Q E) s

theorem fn_x {P : Program} {w : World} {K : PySem.W.Frag} {mg : Str → Option Value} {base : Heap} {x qual : Str} {st : Stmt} {f : Addr} {fd : FuncData} {N ps : List Str} {k : Nat} {sp : Sp}
    (F : Fun K x qual st f fd) (S : FnScope N ps (defScope st)) (len : ∀ vs H Q E, sp vs H Q E → vs.length = ps.length)
    (body : ∀ (cdv : Value) (A : Around) (outer : List Env) (s : Shared) (H : Hp) (vs : List V) (Q : VK) (E : XK), A.guards = some [] →
      Room k (A.deeper (envOfC qual (defScope st) s.heap.objs.size f cdv)) → sp vs H Q E →
      ∃ t, PSs (cxOf (CX P w) P w K mg base N qual (defScope st) f cdv A outer s H E)  (defBody st) t ∧ t { nx := fun _ H' => Q .non H', rt := Q } (start N vs) H) :
    FnX P w K mg base (k + 1) f fd ps sp := by
  obtain ⟨oc, od, kV, doc, pm, an, cdv, ct, osl, rfl, lk, hcd⟩ := F.ex
  refine ⟨len, ?_⟩
  intro A outer s H args us vs Q E g hr e0 hb r hsp
  have up : ∀ b o, base.get? b = some o → s.heap.get? b = some o := fun b o e => (e0.bs b o e).1
  have KX : K.In s.heap := e0.mod.kin.keeps up
  refine codeAny_call_function hr.depth (KX _ _ lk) rfl S.co S.gen rfl (PySem.W.codeRec_of KX hcd) (hb _ _ _ _ ?_)
  refine wpAny_newFunctionEnv_cells S.kind ?_ ?_
  · rintro ⟨n, v⟩ hy
    cases S.par n (List.of_mem_zip hy).1 with
    | inl q => exact .inl q
    | inr q => exact .inr ⟨q, PySem.W.cellsFrom_some _ _ _ (.inl q)⟩
  · rintro env rfl s1 x
    refine ⟨(e0.mod.nolimit.keeps up).keeps x.toInCall.keep, codeAny_func ?_⟩
    obtain ⟨t, ht, hq⟩ := body cdv A outer s H vs Q E g (hr.deeper _) hsp
    have I := inv_start (CX := (CX P w)) (E := E) S hr.hd e0 (len _ _ _ _ hsp) r x
    refine wpAny_mono (ht.run [] s1 (start N vs) H _ I hq) ?_ (fun e s' hs => hs)
    intro fl s' hs
    match fl, hs with
    | .ret u, ⟨v, σ', H', J, rv, q⟩ => exact ⟨v, H', J.os, J.bare, J.base, J.hok, rv, q⟩
    | .next, ⟨σ', H', J, q⟩ => exact ⟨.non, H', J.os, J.bare, J.base, J.hok, rfl, q⟩
    | .brk, ⟨_, _, _, q⟩ => exact False.elim q
    | .cont, ⟨_, _, _, q⟩ => exact False.elim q
def spX (K : PySem.W.Frag) (mg : Str → Option Value) (n : Nat) (F : FA) : Sp := fun us H Q Ek => us.length = n ∧ ∃ m S vs v S', Rel K m S H ∧ VRs K H m us vs ∧ F vs S = some (v, S') ∧ PX K mg m H Q Ek v S'
theorem fn_aX {P : Program} {w : World} {K : PySem.W.Frag} {mg : Str → Option Value} {base : Heap} {x qual : Str} {st : Stmt} {f : Addr} {fd : FuncData} {N ps : List Str} {k : Nat} {g : SF}
    (F : Fun K x qual st f fd) (S : FnScope N ps (defScope st))
    (body : ∀ (cdv : Value) (A : Around) (outer : List Env) (s : Shared) (H : Hp) (Ek : XK), A.guards = some [] →
      Room k (A.deeper (envOfC qual (defScope st) s.heap.objs.size f cdv)) → Takes (cxOf (CX P w) P w K mg base N qual (defScope st) f cdv A outer s H Ek) (EW Ek) →
      PassesOwn (model P w) (cxOf (CX P w) P w K mg base N qual (defScope st) f cdv A outer s H Ek).A (cxOf (CX P w) P w K mg base N qual (defScope st) f cdv A outer s H Ek).env (cxOf (CX P w) P w K mg base N qual (defScope st) f cdv A outer s H Ek).xe →
      AXs (cxOf (CX P w) P w K mg base N qual (defScope st) f cdv A outer s H Ek) Ek (defBody st) g) {n : Nat} (hn : N.length = n := by rfl) :
    FnX P w K mg base (k + 1) f fd ps (spX K mg ps.length (runF n g)) := by
  subst hn
  refine fn_x F S (fun vs H Q E h => h.1) (fun cdv A outer s H us Q E hg hr h => ⟨_, body cdv A outer s H E hg hr (takes_of rfl rfl rfl rfl) (passes_of rfl), ?_⟩)
  obtain ⟨hl, m, S0, vs, v, S', R, r, e, q⟩ := h
  refine ⟨m, _, S0, R, rho_start N r, ?_⟩
  unfold runF at e
  split at e
  · next v' S1 e1 =>
    cases e
    rw [e1]
    exact q
  · next v' S1 e1 =>
    cases e
    rw [e1]
    exact fun m' σ' H' E' R' r' => (PX.no rfl).mp q m' .non H' E' R' .non
  · cases e
structure DefX (P : Program) (w : World) (K : PySem.W.Frag) (mg : Str → Option Value) (base : Heap) (k : Nat) (x : Str) (ps : List Str) (F : FA) : Prop where
  ex : ∃ f fd, FnX P w K mg base k f fd ps (spX K mg ps.length F) ∧ Binds K fd ps [] ∧ mg x = some (.ref f) ∧ PySem.W.keepIn K (.ref f) = true
section
variable {X : Cx} {W : WX} {k : Nat} {f : Addr} {fd : FuncData} {ps : List Str} {sp : Sp} {x : Str} {p pos : Pos} {e : Expr} {es : List Expr} {t : TA} {ga : AF}
theorem run_x {pins : List (Addr × Obj)} {σ : L2.St} {H : Hp} {s : Shared} {Q : VK} {us : List Value} {vs : List V}
    (F : FnX X.prog X.w X.K X.mg X.base k f fd ps sp) (g : X.A.guards = some []) (hr : Room k X.A) (hb : Binds X.K fd ps []) (tk : Takes X W)
    (I : Inv X pins σ H s) (r : Vals vs us) (h : sp vs H Q (WE W σ)) :
    wpAny (model X.prog X.w) X.A (call (.ref f) us) (EP X pins σ Q) X.xe s := by
  have n1 : us.length = ps.length := r.length.symm.trans (F.len vs H Q _ h)
  have b1 := hb s us I.kIn ((congrArg List.length (List.append_nil us)).trans n1)
  rw [List.append_nil] at b1
  refine wpAny_call (codeAny_mono (F.run X.A X.stack s H ⟨us, []⟩ us vs Q _ g hr I.env0 b1 r h) ?_)
  intro res s' c
  match res, c with
  | .error e, c => exact passAt tk σ pins H s e s' I c
  | .ok (.ret _), c => exact I.after c
  | .ok .next, c => exact False.elim c
  | .ok .brk, c => exact False.elim c
  | .ok .cont, c => exact False.elim c
theorem pe_callX (F : FnX X.prog X.w X.K X.mg X.base k f fd ps sp) (g : X.A.guards = some []) (hr : Room k X.A) (hgl : Gl X x) (hm : X.mg x = some (.ref f))
    (hk : PySem.W.keepIn X.K (.ref f) = true) (hb : Binds X.K fd ps []) (tk : Takes X W) (ha : PA X (e :: es) t)
    (hdb : (x == ("__debug__" : Str)) = false := by decide)
    (he : starEach (e :: es) X.env = (false, eval e X.env) :: starEach es X.env := by rfl)
    (hpl : (backTo pos (starEach es X.env)).any (·.1) = false := by rfl) :
    PE X (.Call (.Name x p) (e :: es) [] pos) (fun σ H Q => t σ H fun vs H1 => sp vs H1 Q (WE W σ)) := by
  constructor
  intro pins s σ H Q I h
  apply wpAny_Call_Name_kw
  apply ld_glob I hgl hm _ hdb
  refine PySem.W.callWith_K (h₀ := X.base) I.ok.mod.kin hk (thn (ha.run pos pins s σ H _ I h) ?_) he hpl
  rintro us s1 ⟨vs, H1, I1, r, q⟩
  exact ⟨I1.kIn, run_x F g hr hb tk I1 r q⟩
theorem acdX {F : FA} (D : DefX X.prog X.w X.K X.mg X.base k x ps F) (g : X.A.guards = some []) (hr : Room k X.A) (hgl : Gl X x) (tk : Takes X W) (ha : AA X (e :: es) ga) (hdb : (x == ("__debug__" : Str)) = false := by decide)
    (he : starEach (e :: es) X.env = (false, eval e X.env) :: starEach es X.env := by rfl) (hpl : (backTo pos (starEach es X.env)).any (·.1) = false := by rfl) {n : Nat} (hn : ps.length = n := by rfl) : AEX X W (.Call (.Name x p) (e :: es) [] pos) (eDef F n ga) := by
  subst hn
  obtain ⟨f, fd, hF, hb, hm, hk⟩ := D.ex
  refine pe_w (pe_callX hF g hr hgl hm hk hb tk ha hdb he hpl) fun σ H Q h => ?_
  obtain ⟨m, ρ, S, v, S', R, r, e, q⟩ := h
  obtain ⟨⟨x, S1⟩, e1, e⟩ := Option.bind_eq_some_iff.mp e
  dsimp only at e
  split at e
  · next hl => exact ⟨m, ρ, S, x, S1, R, r, e1, fun m1 us H1 E1 R1 r1 => ⟨by rw [r1.len]; exact hl, m1, S1, x, v, S', R1, r1, e, q.ext E1⟩⟩
  · cases e
end
end AL
namespace AL
open PySem PySem.Spec PyProof.Rows L2 G Th

structure OexA (K : PySem.W.Frag) (C : Addr) : Prop where
  cls : ∃ (B newId initId : String) (bmB : List Value) (nm q : Str) (N : Addr) (bs bm : List Value) (sn : List Str) (sub : List Value) (ab : Bool) (col : Option Bool) (dd : Option Addr) (k0 k1 k2 k3 k5 : Option Value),
    K.lookup C = some (excClassObj nm q C N bs bm true sn sub ab col dd k0 k1 k2 k3 k5 newId) ∧ PySem.W.excTail bmB bm = true ∧ ExcBaseFacts B newId initId bmB ∧ StoreFacts B bmB "object.__setattr__" "object"
  saC : PySem.W.findIn K (.ref C) "__setattr__" = some (some (.builtin "object.__setattr__"))
  beC : PySem.W.subIn K (.ref C) (.type "BaseException") = some true
  ttC : PySem.W.typeIn K (.ref C) = some (.type "type")
  keC : PySem.W.keepIn K (.ref C) = true

structure OexL (K : PySem.W.Frag) (C : Addr) : Prop where
  cls : ∃ (nm q : Str) (N : Addr) (bs bm : List Value) (sn : List Str) (sub : List Value) (ab : Bool) (col : Option Bool) (dd : Option Addr) (k0 k1 k2 k3 k5 : Option Value),
    K.lookup C = some (excClassObj nm q C N bs bm true sn sub ab col dd k0 k1 k2 k3 k5 "LookupError.__new__") ∧ PySem.W.excTail [.type "LookupError", .type "Exception", .type "BaseException", .type "object"] bm = true
  sa : PySem.W.findIn K (.ref C) "__setattr__" = some (some (.builtin "object.__setattr__"))
  be : PySem.W.subIn K (.ref C) (.type "BaseException") = some true
  tt : PySem.W.typeIn K (.ref C) = some (.type "type")
  ke : PySem.W.keepIn K (.ref C) = true
theorem OexL.a {K : PySem.W.Frag} {C : Addr} (T : OexL K C) : OexA K C := by
  obtain ⟨⟨nm, q, N, bs, bm, sn, sub, ab, col, dd, k0, k1, k2, k3, k5, e, t⟩, h1, h2, h3, h4⟩ := T
  exact ⟨⟨_, _, _, _, nm, q, N, bs, bm, sn, sub, ab, col, dd, k0, k1, k2, k3, k5, e, t, F.excBase_LookupError, F.store_LookupError⟩, h1, h2, h3, h4⟩
theorem tail_VE : ∀ l : List Value, PySem.HandSPX.refsVE l = true → PySem.W.excTail PySem.HandSPX.veTail l = true
  | [], z => by cases z
  | a :: r, z => by
    rcases PySem.HandSPX.refsVE_cases _ z with ⟨c, r2, e, z2⟩ | e
    · cases e
      exact tail_VE r z2
    · rw [e]
      decide +kernel
theorem oexA_VE {K : PySem.W.Frag} {C : Addr} (T : OexC K C) : OexA K C := by
  obtain ⟨⟨nm, q, N, bs, bm, sn, sub, ab, col, dd, k0, k1, k2, k3, k5, e, t⟩, h1, h2, h3, h4⟩ := T
  exact ⟨⟨_, _, _, _, nm, q, N, bs, bm, sn, sub, ab, col, dd, k0, k1, k2, k3, k5, e, tail_VE _ t, F.excBase_ValueError, F.store_ValueError⟩, h1, h2, h3, h4⟩
instance {K : PySem.W.Frag} {C : Addr} : Coe (OexC K C) (OexA K C) := ⟨oexA_VE⟩
instance {K : PySem.W.Frag} {C : Addr} : Coe (OexL K C) (OexA K C) := ⟨OexL.a⟩
section
open Builtin Builtin.ObjectAttr PySem.W
variable {prog : Program} {w : World} {A : Around} {K : PySem.W.Frag} {C x : Addr} {g : Array GenState} {d : Drawn} {t : Nat} {os : OsState} {hp : Heap} {fl : Str} {tk : Tok} {v : Value} {fv : Array Value}
theorem taker_no (h : PySem.W.findIn K (.ref C) fl = some none) : PySem.W.takerIn K C fl = some none := by
  unfold PySem.W.takerIn
  rw [h]
  rfl
theorem OexA.got (T : OexA K C) : ∃ (B newId initId : String) (bmB : List Value) (cd : ClassData), PySem.W.clsIn K C = some cd ∧ cd.hasDict = true ∧ PySem.W.excOver K C bmB = true ∧ StoreFacts B bmB "object.__setattr__" "object" := by
  obtain ⟨B, newId, initId, bmB, nm, q, N, bs, bm, sn, sub, ab, col, dd, k0, k1, k2, k3, k5, e, t, _, SF⟩ := T.cls
  have c : PySem.W.clsIn K C = some { name := nm, bases := bs, mro := .ref C :: bm, ns := N, qualname := q, hasDict := true, slotNames := sn, subclasses := sub, abstract := ab, collection := col, hasDel := false } := by
    unfold PySem.W.clsIn
    rw [e] <;> rfl
  refine ⟨B, newId, initId, bmB, _, c, rfl, ?_, SF⟩
  unfold PySem.W.excOver
  rw [c]
  simp [t]

theorem first_field {R : Result → Shared → Prop} (T : OexA K C) (kn : K.In hp) (hx : hp.get? x = some { cls := .ref C, data := .fields fv }) (no : PySem.W.findIn K (.ref C) fl = some none)
    (q : ∀ (h2 : Heap) (t2 : Nat) (y : Addr), (∀ b o, b ≠ x → hp.get? b = some o → h2.get? b = some o) → hp.objs.size ≤ y → y ≠ x → h2.get? x = some { cls := .ref C, dict := some y, data := .fields fv } → h2.Ns1 y (fun z => if z = fl then some v else none) → R (.ok (.ret .none)) ⟨h2, g, d, t2, os⟩) :
    codeAny (model prog w) A (.call (.builtin "object.__setattr__") ⟨[.ref x, .str fl tk, v], []⟩) R ⟨hp, g, d, t, os⟩ := by
  obtain ⟨B, newId, initId, bmB, cd, hc, hh, hov, SF⟩ := T.got
  have lk : PySem.W.Looks (model prog w) hp (classData C) cd := PySem.W.looks_clsIn kn hc
  have apart : x ≠ hp.objs.size := Nat.ne_of_lt (Heap.lt_size hx)
  refine PySem.W.osa_openX (s := ⟨hp, g, d, t, os⟩) SF kn (ox := { cls := .ref C, data := .fields fv }) (od := none) ⟨hx, rfl, rfl, trivial⟩ hov (taker_no no) fun b => ?_
  show wpAny _ _ (storeInOwnDict (.ref x) (.ref C) (.str fl tk) fl v b) _ _ _
  obtain ⟨c1, c2, c3, c4, c5, c6, c7, c8, c9, c10, c11⟩ := cd
  obtain rfl : c6 = true := hh
  unfold storeInOwnDict ownDictForStores
  repeat (first | with_reducible refine PySem.HandSPX.store_in_new ?e ?n | with_reducible refine wpAny_loadPart_at hx ?_ | with_reducible refine lk.at ?_ | wp_step)
  case e => exact ⟨_, #[], _, (Heap.get?_update_ne _ _ _ _ (Ne.symm apart)).trans (Heap.get?_push_at rfl rfl), rfl, fun z hz => by simp at hz, fun _ => rfl⟩
  case n =>
    intro h2 t2 n2 same
    have there : (hp.push { cls := .type "dict", data := .dict #[] }).get? x = some { cls := .ref C, data := .fields fv } := Heap.get?_push_of_some _ hx
    refine q h2 t2 hp.objs.size (fun b o nb hb => ?_) (Nat.le_refl _) (Ne.symm apart) ((same.2 x apart).trans (Heap.get?_update_self _ there rfl)) n2
    have lb : b ≠ hp.objs.size := Nat.ne_of_lt (Heap.lt_size hb)
    exact ((same.2 b lb).trans (Heap.get?_update_ne _ _ _ _ nb)).trans (Heap.get?_push_of_some _ hb)

theorem later_field {R : Result → Shared → Prop} {y : Addr} {m0 : Str → Option Value} {nl : List Str} {oD : Obj} (T : OexA K C) (kn : K.In hp) (hx : hp.get? x = some { cls := .ref C, dict := some y, data := .fields fv }) (ns : hp.Ns1 y m0) (hw : Within m0 nl) (hz : nl.length ≤ 1000) (hoD : hp.get? y = some oD) (no : PySem.W.findIn K (.ref C) fl = some none)
    (q : ∀ (h2 : Heap) (t2 : Nat), (∀ b o, b ≠ y → hp.get? b = some o → h2.get? b = some o) → h2.Ns1 y (fun z => if z = fl then some v else m0 z) → R (.ok (.ret .none)) ⟨h2, g, d, t2, os⟩) :
    codeAny (model prog w) A (.call (.builtin "object.__setattr__") ⟨[.ref x, .str fl tk, v], []⟩) R ⟨hp, g, d, t, os⟩ := by
  obtain ⟨B, newId, initId, bmB, cd, hc, hh, hov, SF⟩ := T.got
  have lk : PySem.W.Looks (model prog w) hp (classData C) cd := PySem.W.looks_clsIn kn hc
  refine PySem.W.osa_openX (s := ⟨hp, g, d, t, os⟩) SF kn (ox := { cls := .ref C, dict := some y, data := .fields fv }) (od := some oD) ⟨hx, rfl, rfl, hoD⟩ hov (taker_no no) fun b => ?_
  show wpAny _ _ (storeInOwnDict (.ref x) (.ref C) (.str fl tk) fl v b) _ _ _
  obtain ⟨c1, c2, c3, c4, c5, c6, c7, c8, c9, c10, c11⟩ := cd
  obtain rfl : c6 = true := hh
  unfold storeInOwnDict ownDictForStores
  repeat (first | with_reducible refine PySem.OEX.store_in_old ns hw hz ?n | with_reducible refine wpAny_loadPart_at hx ?_ | with_reducible refine lk.at ?_ | wp_step)
  case n =>
    intro h2 t2 n2 same
    exact q h2 t2 (fun b o nb hb => (same.2 b nb).trans hb) n2
end
section
variable {X : Cx} {pins : List (Addr × Obj)} {σ : L2.St} {H : Hp} {s : Shared} {a C dx : Addr} {f : Str} {y : V} {u : Value} {fs : List (Str × V)} {Q : Unit → Shared → Prop} {E : Value → Shared → Prop} {A : Around}
theorem new_field (T : OexA X.K C) (I : Inv X pins σ H s) (e : H a = some (exo a C none)) (no : PySem.W.findIn X.K (.ref C) f = some none) (ry : RelV y u)
    (go : ∀ dx s2, H dx = none → dx ≠ a → Inv X pins σ (upd (upd H dx (exd dx [(f, y)])) a (exo a C (some dx))) s2 → Q () s2) : wpAny (model X.prog X.w) A (setAttr (.ref a) f u) Q E s := by
  obtain ⟨t1, there⟩ := exo_at I.hok e
  obtain ⟨hp, g, d, t, os⟩ := s
  refine PySem.W.set_plain I.kIn (ox := { cls := .ref C, dict := none, data := .fields #[.ref t1, .none, .none, .none, .bool false, .none] }) (od := none) ⟨there, rfl, rfl, trivial⟩ T.saC ?_
  refine first_field T I.kIn there no fun h2 t2 dx stay new apart hx ns => ?_
  have fresh : H dx = none := I.hok.fresh new
  refine go dx _ fresh apart ?_
  -- the dict laid, then the object written
  let old : Obj := { cls := .ref C, dict := none, data := .fields #[.ref t1, .none, .none, .none, .bool false, .none] }
  have i1 : (h2.update a fun _ => old).get? a = some old := Heap.get?_update_self (fun _ => old) hx rfl
  have i2 : ∀ b, b ≠ a → (h2.update a fun _ => old).get? b = h2.get? b := fun b nb => Heap.get?_update_other _ _ (Ne.symm nb)
  have J := I.laid (t' := t2) (a := dx) (o := exd dx [(f, y)]) (h' := h2.update a fun _ => old) (fun b o hb => by
      by_cases z : b = a
      · rw [z] at hb ⊢
        rw [i1]
        exact there.symm.trans hb
      · rw [i2 b z]
        exact stay b o z hb) new (exd_ok (ns.at fun o z => (i2 dx apart).trans z) (relO_put (fs := []) ry fun _ => True.intro))
  have ea : upd H dx (exd dx [(f, y)]) a = some (exo a C none) := (upd_ne (Ne.symm apart)).trans e
  exact J.write (t' := t2) (x := a) (e := a) (o := exo a C (some dx)) (by rw [ea]; exact True.intro) (.inl rfl) (fun b o nb hb => (i2 b nb).symm.trans hb) ⟨_, hx⟩ (exo_ok hx)
theorem more_field (T : OexA X.K C) (I : Inv X pins σ H s) (e : H a = some (exo a C (some dx))) (ed : H dx = some (exd dx fs)) (few : fs.length ≤ 900) (no : PySem.W.findIn X.K (.ref C) f = some none) (ry : RelV y u)
    (go : ∀ s2, Inv X pins σ (upd H dx (exd dx ((f, y) :: fs))) s2 → Q () s2) : wpAny (model X.prog X.w) A (setAttr (.ref a) f u) Q E s := by
  obtain ⟨t1, there⟩ := exo_at I.hok e
  obtain ⟨mA, ns, rel⟩ := exd_at I.hok ed
  have hw := within_of rel
  obtain ⟨hp, g, d, t, os⟩ := s
  obtain ⟨oD, _, _, hoD, _, _⟩ := ns.count hw
  refine PySem.W.set_plain I.kIn (ox := { cls := .ref C, dict := some dx, data := .fields #[.ref t1, .none, .none, .none, .bool false, .none] }) (od := some oD) ⟨there, rfl, rfl, hoD⟩ T.saC ?_
  refine later_field T I.kIn there ns hw (by rw [List.length_map]; omega) hoD no fun h2 t2 stay ns2 => ?_
  have hd : ∃ o, h2.get? dx = some o := by
    obtain ⟨o, _, _, z, _⟩ := ns2
    exact ⟨o, z⟩
  exact go _ (I.write (t' := t2) (x := dx) (e := dx) (o := exd dx ((f, y) :: fs)) (by rw [ed]; exact True.intro) (.inl rfl) stay hd (exd_ok ns2 (relO_put ry rel)))
end

def tOstA (K : PySem.W.Frag) (f : Str) (to te : TE) : TS := fun D σ H => te σ H fun y H1 => to σ H1 fun x H2 => ∃ a C : Addr, x = .ref a ∧ OexA K C ∧ PySem.W.findIn K (.ref C) f = some none ∧
  ((H2 a = some (exo a C none) ∧ ∀ dx, H2 dx = none → dx ≠ a → D.nx σ (upd (upd H2 dx (exd dx [(f, y)])) a (exo a C (some dx)))) ∨ ∃ (dx : Addr) (fs : List (Str × V)), H2 a = some (exo a C (some dx)) ∧ H2 dx = some (exd dx fs) ∧ fs.length ≤ 900 ∧ D.nx σ (upd H2 dx (exd dx ((f, y) :: fs))))
section
variable {X : Cx} {o e : Expr} {es : List Expr} {to te : TE} {ta : TA} {f : Str} {p p' p1 p2 pos : Pos}
theorem ps_ostA (ho : PE X o to) (he : PE X e te) (hs : swapsWith e (some (.Attribute o f p')) pos.line X.env = pure false := by rfl) : PS X (.Assign [.Attribute o f p'] e pos) (tOstA X.K f to te) := by
  refine ⟨fun pins s σ H D I h => plainObj_wpAny_Assign_Attribute (thn (he.run pins s σ H _ I h) fun v s1 z => ?_) hs⟩
  obtain ⟨y, H1, I1, r1, q1⟩ := z
  refine thn (ho.run pins s1 σ H1 _ I1 q1) fun u s2 z => ?_
  obtain ⟨_, H2, I2, r2, a, C, rfl, T, no, q⟩ := z
  obtain rfl : u = Value.ref a := r2
  rcases q with ⟨ea, q⟩ | ⟨dx, fs, ea, ed, few, q⟩
  · exact new_field T I2 ea no r1 fun dx s2 n apart J => ⟨σ, _, J, q dx n apart⟩
  · exact more_field T I2 ea ed few no r1 fun s2 J => ⟨σ, _, J, q⟩

theorem pmk_oexA {CX : CXT} {x : Str} {C fI : Addr} {k : Nat} {fd : FuncData} {ps : List Str} {sp : Sp} {ds : List Value} {dvs : List V} (T : OexA X.K C) (iC : PySem.W.findIn X.K (.ref C) "__init__" = some (some (.ref fI))) (tI : PySem.W.typeIn X.K (.ref fI) = some (.type "function"))
    (F1 : FnOk X.prog X.w X.K X.mg X.base CX k fI fd ps sp) (hr : Room (k + 1) X.A) (hb : Binds X.K fd ps ds) (hd : Vals dvs ds) (pass : Passes CX X (fun _ _ _ => False)) (hg : Gl X x) (hm : X.mg x = some (.ref C)) (ha : PA X (e :: es) ta)
    (hdb : (x == ("__debug__" : Str)) = false := by decide) (he : starEach (e :: es) X.env = (false, eval e X.env) :: starEach es X.env := by rfl) (hpl : (backTo pos (starEach es X.env)).any (·.1) = false := by rfl) :
    PMk X (.Call (.Name x p) (e :: es) [] pos) (tMkO C sp dvs ta) := by
  intro pins s0 σ H Q I0 h
  obtain ⟨B, newId, initId, bmB, nm, q, N, bs, bm, sn, sub, ab, col, dd, k0, k1, k2, k3, k5, cl, tl, EB, _⟩ := T.cls
  refine wpAny_Call_Name_kw (ld_glob I0 hg hm ?_ hdb)
  refine PySem.W.callWith_K (h₀ := X.base) I0.ok.mod.kin T.keC (thn (ha.run pos pins s0 σ H _ I0 h) fun us s1 z => ?_) he hpl
  obtain ⟨vs, H1, I1, r1, few, q1⟩ := z
  refine ⟨I1.kIn, ?_⟩
  show wpAny _ _ (call (.ref C) us) _ _ _
  obtain ⟨h1, g1, d1, t1, os1⟩ := s1
  let h2 := (h1.push (PySem.W.kdv_tup us)).push (PySem.HandSPX.excO C h1.objs.size)
  have keep : ∀ b o, h1.get? b = some o → h2.get? b = some o := fun b o z => Heap.get?_push_of_some _ (Heap.get?_push_of_some _ z)
  have self : h2.get? (h1.objs.size + 1) = some (PySem.HandSPX.excO C h1.objs.size) := by
    show ((h1.push (PySem.W.kdv_tup us)).push (PySem.HandSPX.excO C h1.objs.size)).get? _ = _
    heap_get
  have beyond : h1.objs.size ≤ h1.objs.size + 1 := Nat.le_succ _
  have q2 := q1 _ (I1.hok.fresh beyond)
  have I2 := I1.laid (t' := t1) (a := h1.objs.size + 1) (o := exo (h1.objs.size + 1) C none) (h' := h2) keep beyond (exo_ok self)
  have rel : Vals (.ref (h1.objs.size + 1) :: (vs ++ dvs)) (Value.ref (h1.objs.size + 1) :: (us ++ ds)) := .cons rfl (r1.append hd)
  have many : (Value.ref (h1.objs.size + 1) :: us ++ ds).length = ps.length := by
    have z := rel.length
    rw [F1.len _ _ _ _ q2] at z
    exact z.symm
  have line : us.length ≤ sizeLine := by
    rw [← r1.length, sizeLine_eq]
    omega
  have run := F1.run _ X.stack _ _ ⟨Value.ref (h1.objs.size + 1) :: us, []⟩ _ _ _ (fun _ _ _ => False) (hr.make C us []) (I2.env0.make C us []) (hb _ (Value.ref (h1.objs.size + 1) :: us) I2.kIn many) rel q2
  refine wpAny_call (PySem.HandSPX.call_own EB (fun Y => PySem.W.excTail_contains Y bm tl) (I1.kIn _ _ cl) (PySem.W.looks_findIn I1.kIn iC) (fun z => PySem.W.bind_fn I1.kIn z tI) line (codeAny_mono run ?_))
  intro r s2 z
  match r, z with
  | .error er, z => exact pass pins σ _ _ er s2 I2 z
  | .ok (.ret u), z =>
    obtain ⟨_, H2, o2, bare, un, hok2, rv, rfl, d, fs, ea, ed, n1, q3⟩ := z
    obtain ⟨h3, g3, d3, t3, os3⟩ := s2
    exact ⟨rv, mk_end (raises_own T.beC T.ttC) I1 beyond keep un hok2 o2 bare ea ed n1 q3⟩
  | .ok .next, z => exact z.elim
  | .ok .brk, z => exact z.elim
  | .ok .cont, z => exact z.elim
end
end AL
namespace AL
open PySem PySem.Spec PyProof.Rows L2 G Th
variable [TT]
def spI1 (C : Addr) (f1 : Str) : Sp := fun us H Q _ => ∃ a y, us = [.ref a, y] ∧ H a = some (exo a C none) ∧ ∀ dx, H dx = none → dx ≠ a → Q .non (upd (upd H dx (exd dx [(f1, y)])) a (exo a C (some dx)))
def spI2 (C : Addr) (f1 f2 : Str) : Sp := fun us H Q _ => ∃ a y z, us = [.ref a, y, z] ∧ H a = some (exo a C none) ∧ ∀ dx, H dx = none → dx ≠ a → Q .non (upd (upd (upd H dx (exd dx [(f1, y)])) a (exo a C (some dx))) dx (exd dx [(f2, z), (f1, y)]))
structure KnX (P : Program) (w : World) (K : PySem.W.Frag) (mg : Str → Option Value) (base : Heap) (c : Str) : Prop where
  ex : ∃ (C fI : Addr) (fd : FuncData), OexA K C ∧ PySem.W.findIn K (.ref C) "__init__" = some (some (.ref fI)) ∧ PySem.W.typeIn K (.ref fI) = some (.type "function") ∧ mg c = some (.ref C) ∧
    ((∃ f1, xfs c = [f1] ∧ FnOk P w K mg base CX0 1 fI fd ["self", f1] (spI1 C f1) ∧ Binds K fd ["self", f1] []) ∨
      ∃ f1 f2, xfs c = [f1, f2] ∧ f1 ≠ f2 ∧ FnOk P w K mg base CX0 1 fI fd ["self", f1, f2] (spI2 C f1 f2) ∧ Binds K fd ["self", f1, f2] [])
def sRaise (c : Str) (ga : AF) : SF := fun ρ S => match ga ρ S with
  | some (vs, S) => if vs.length = (xfs c).length then .rt (xv c vs) S else .stuck
  | none => .stuck
theorem land {H1 H2 : Hp} {a dx : Addr} {o : HO} (ha : H1 a = none) (h : ∀ b, b ≠ a → b ≠ dx → H2 b = H1 b) (ne : dx ≠ a) : upd (del H2 a) dx o = upd H1 dx o := by
  funext b
  by_cases z : b = dx
  · subst z
    rw [upd_same, upd_same]
  · rw [upd_ne z, upd_ne z]
    by_cases y : b = a
    · subst y
      rw [del_same, ha]
    · rw [del_ne y, h b y z]
theorem asraise {X : Cx} {Ek : XK} {c : Str} {e : Expr} {es : List Expr} {p pos pos2 : Pos} {ga : AF} (tk : Takes X (EW Ek)) (C : KnX X.prog X.w X.K X.mg X.base c) (hr : Room 2 X.A) (hc : X.calm = true) (hg : Gl X c) (ha : AA X (e :: es) ga)
    (hdb : (c == ("__debug__" : Str)) = false := by decide) (he : starEach (e :: es) X.env = (false, eval e X.env) :: starEach es X.env := by rfl) (hpl : (backTo pos (starEach es X.env)).any (·.1) = false := by rfl) :
    AX X Ek (.Raise (some (.Call (.Name c p) (e :: es) [] pos)) none pos2) (sRaise c ga) := by
  obtain ⟨C, fI, fd, T, iC, tI, hm, h⟩ := C.ex
  rcases h with ⟨f1, hx, F1, hb⟩ | ⟨f1, f2, hx, hne, F1, hb⟩
  · refine ps_w (ps_raise hc tk (pmk_oexA (dvs := []) T iC tI F1 hr hb .nil pass0 hg hm ha hdb he hpl)) fun D σ H z => ?_
    obtain ⟨m, ρ, S, R, r, q⟩ := z
    unfold sRaise at q
    split at q
    · next vs S1 e1 =>
      split at q
      · next hl =>
        have q : PX X.K X.mg m H D.rt Ek (xv c vs) S1 := q
        have q := (PX.yes (v := xv c vs) (c := c) (vs := vs) rfl).mp q
        rw [hx] at hl
        refine ⟨m, ρ, S, vs, S1, R, r, e1, fun m1 us H1 E1 R1 r1 => ⟨by rw [r1.len, hl]; simp, fun a ha => ?_⟩⟩
        match vs, hl, us, r1 with
        | [v], _, [u], .cons ru .nil =>
          refine ⟨a, u, rfl, upd_same, fun dx hdx ne => ⟨rfl, dx, _, upd_same, (upd_ne ne).trans upd_same, (upd_ne ne).symm.trans hdx, ?_⟩⟩
          have hd0 : H1 dx = none := (upd_ne ne).symm.trans hdx
          rw [land ha (fun b h1 h2 => by rw [upd_ne h1, upd_ne h2, upd_ne h1]) ne]
          obtain ⟨R2, E2⟩ := R1.tmp (o := .xd [(f1, u)]) hd0
          refine q m1 _ _ _ (E1.trans E2) R2 ⟨hm, dx, _, rfl, upd_same, fun i n w h1 h2 => ?_⟩
          rw [hx] at h1
          match i, h1, h2 with
          | 0, h1, h2 =>
            cases h1
            cases h2
            exact ⟨u, by simp [List.lookup], ru.kp (E2.kp R1)⟩
      · exact q.elim
    · exact q.elim
  · refine ps_w (ps_raise hc tk (pmk_oexA (dvs := []) T iC tI F1 hr hb .nil pass0 hg hm ha hdb he hpl)) fun D σ H z => ?_
    obtain ⟨m, ρ, S, R, r, q⟩ := z
    unfold sRaise at q
    split at q
    · next vs S1 e1 =>
      split at q
      · next hl =>
        have q : PX X.K X.mg m H D.rt Ek (xv c vs) S1 := q
        have q := (PX.yes (v := xv c vs) (c := c) (vs := vs) rfl).mp q
        rw [hx] at hl
        refine ⟨m, ρ, S, vs, S1, R, r, e1, fun m1 us H1 E1 R1 r1 => ⟨by rw [r1.len, hl]; simp, fun a ha => ?_⟩⟩
        match vs, hl, us, r1 with
        | [v, v2], _, [u, u2], .cons ru (.cons ru2 .nil) =>
          refine ⟨a, u, u2, rfl, upd_same, fun dx hdx ne => ⟨rfl, dx, _, (upd_ne (Ne.symm ne)).trans upd_same, upd_same, (upd_ne ne).symm.trans hdx, ?_⟩⟩
          have hd0 : H1 dx = none := (upd_ne ne).symm.trans hdx
          rw [land ha (fun b h1 h2 => by rw [upd_ne h2, upd_ne h1, upd_ne h2, upd_ne h1]) ne]
          obtain ⟨R2, E2⟩ := R1.tmp (o := .xd [(f2, u2), (f1, u)]) hd0
          refine q m1 _ _ _ (E1.trans E2) R2 ⟨hm, dx, _, rfl, upd_same, fun i n w h1 h2 => ?_⟩
          rw [hx] at h1
          match i, h1, h2 with
          | 0, h1, h2 =>
            cases h1
            cases h2
            exact ⟨u, by rw [lookup_put, if_neg hne, lookup_put, if_pos rfl], ru.kp (E2.kp R1)⟩
          | 1, h1, h2 =>
            cases h1
            cases h2
            exact ⟨u2, by rw [lookup_put, if_pos rfl], ru2.kp (E2.kp R1)⟩
      · exact q.elim
    · exact q.elim
theorem init1 {P : Program} {w : World} {K : PySem.W.Frag} {mg : Str → Option Value} {base : Heap} {qual f1 : Str} {st : Stmt} {f C : Addr} {fd : FuncData} (F : Fun K "__init__" qual st f fd) (S : FnScope ["self", f1] ["self", f1] (defScope st)) (T : OexA K C) (hno : PySem.W.findIn K (.ref C) f1 = some none)
    {p1 p2 p3 p4 : Pos} (hb : defBody st = [.Assign [.Attribute (.Name "self" p1) f1 p2] (.Name f1 p3) p4])
    (v0 : Vis (defScope st) "self") (v1 : Vis (defScope st) f1) (hd : (f1 == ("__debug__" : Str)) = false) (hcd : (f1 == ("__classdict__" : Str)) = false) : FnOk P w K mg base CX0 1 f fd ["self", f1] (spI1 C f1) := by
  obtain ⟨oc, od, kV, doc, pm, an, cdv, ct, osl, rfl, lk, hcd2⟩ := F.ex
  refine fn_of lk hcd2 S (fun vs H Q E h => by obtain ⟨a, y, rfl, _⟩ := h; rfl) (fun A outer s H vs Q E hr h => ?_)
  rw [hb]
  refine ⟨_, pss_one (ps_ostA (pe_var (i := 0) rfl v0) (pe_var (i := 1) rfl v1 hd hcd)), ?_⟩
  obtain ⟨a, y, rfl, ha, q⟩ := h
  refine ⟨y, rfl, .ref a, rfl, a, C, rfl, T, hno, .inl ⟨ha, fun dx h1 h2 => q dx h1 h2⟩⟩
theorem init2 {P : Program} {w : World} {K : PySem.W.Frag} {mg : Str → Option Value} {base : Heap} {qual f1 f2 : Str} {st : Stmt} {f C : Addr} {fd : FuncData} (F : Fun K "__init__" qual st f fd) (S : FnScope ["self", f1, f2] ["self", f1, f2] (defScope st)) (T : OexA K C) (hno : PySem.W.findIn K (.ref C) f1 = some none) (hno2 : PySem.W.findIn K (.ref C) f2 = some none)
    {p1 p2 p3 p4 r1 r2 r3 r4 : Pos} (hb : defBody st = [.Assign [.Attribute (.Name "self" p1) f1 p2] (.Name f1 p3) p4, .Assign [.Attribute (.Name "self" r1) f2 r2] (.Name f2 r3) r4])
    (v0 : Vis (defScope st) "self") (v1 : Vis (defScope st) f1) (v2 : Vis (defScope st) f2) (hd : (f1 == ("__debug__" : Str)) = false) (hcd : (f1 == ("__classdict__" : Str)) = false) (hd2 : (f2 == ("__debug__" : Str)) = false) (hcd' : (f2 == ("__classdict__" : Str)) = false) : FnOk P w K mg base CX0 1 f fd ["self", f1, f2] (spI2 C f1 f2) := by
  obtain ⟨oc, od, kV, doc, pm, an, cdv, ct, osl, rfl, lk, hcd2⟩ := F.ex
  refine fn_of lk hcd2 S (fun vs H Q E h => by obtain ⟨a, y, z, rfl, _⟩ := h; rfl) (fun A outer s H vs Q E hr h => ?_)
  rw [hb]
  refine ⟨_, pss_cons (ps_ostA (pe_var (i := 0) rfl v0) (pe_var (i := 1) rfl v1 hd hcd)) (pss_one (ps_ostA (pe_var (i := 0) rfl v0) (pe_var (i := 2) rfl v2 hd2 hcd'))), ?_⟩
  obtain ⟨a, y, z, rfl, ha, q⟩ := h
  refine ⟨y, rfl, .ref a, rfl, a, C, rfl, T, hno, .inl ⟨ha, fun dx h1 h2 => ?_⟩⟩
  exact ⟨z, rfl, .ref a, rfl, a, C, rfl, T, hno2, .inr ⟨dx, _, upd_same, (upd_ne h2).trans upd_same, by simp, q dx h1 h2⟩⟩
def sTry (g : SF) (c : Str) (h : SF) : SF := fun ρ S => match g ρ S with
  | .rt v S' => match isX v with
    | none => .rt v S'
    | some (c', _) => if c' = c then h ρ S' else .stuck
  | r => r
theorem astryX {X : Cx} {c : Str} {cls : Value} {st b₀ : Stmt} {suite : List Stmt} {np pos pos' : Pos} {g h : SF} (hs : X.stack = X.env :: X.outer) (hf : X.env.frame = some X.env.locals) (hm : X.mg c = some cls) (hg : Gl X c) (ex : PySem.W.exmOne X.K cls cls = some true)
    (hb : ∀ (W : WX) (pn : List (Addr × Obj)) (xe : Value → Shared → Prop), Takes (X.tr pn xe) W → AXw (X.tr pn xe) W st g)
    (hsu : ∀ (a : Addr) (pn : List (Addr × Obj)), ASs (X.suite a pn) (b₀ :: suite) h) (hdb : (c == ("__debug__" : Str)) = false := by decide) :
    AS X (.Try [st] [.ExceptHandler (some (.Name c np)) none (b₀ :: suite) pos'] [] [] pos) (sTry g c h) := by
  refine ps_w (ps_try_only (Wout := fun _ _ _ _ => False) (ts := fun _ _ _ => tS X.K h) (tb := fun W => tXs X.K X.mg W g) hs hf ⟨hg, hdb, .inl hm⟩ (fun _ _ ⟨_, _, _, _, _, _, _, _, _, _, _, _, _, _, _, _, w⟩ => w.elim) (fun W pn xe tk _ => pss_one (hb W pn xe tk)) (fun a oe cls d pn _ _ => hsu a _)) fun D σ H z => ?_
  obtain ⟨m, ρ, S, R, r, q⟩ := z
  refine ⟨m, ρ, S, R, r, ?_⟩
  unfold sTry at q
  cases e : g ρ S with
  | nx ρ1 S1 => rw [e] at q; exact q
  | stuck => rw [e] at q; exact q
  | bk ρ1 S1 => rw [e] at q; exact q
  | ct ρ1 S1 => rw [e] at q; exact q
  | rt v S1 =>
    rw [e] at q
    show PX _ _ _ _ _ _ _ _
    dsimp only at q
    cases hx : isX v with
    | none =>
      rw [hx] at q
      exact (PX.no hx).mpr q
    | some cv =>
      obtain ⟨c', vs⟩ := cv
      rw [hx] at q
      dsimp only at q
      split at q
      · next hc =>
        subst hc
        refine (PX.yes hx).mpr fun m1 H1 cls1 d E1 R1 x1 => ?_
        have hcl := x1.cl
        rw [hm] at hcl
        cases hcl
        exact ⟨true, ex, fun _ a _ => ⟨m1, ρ, S1, R1, r.kp (E1.kp R), q.ext E1⟩, fun z => by cases z⟩
      · exact q.elim
def clsB : Stmt → List Stmt
  | .ClassDef _ _ _ b _ _ _ _ _ _ _ => b
  | _ => []

def Xs (v : Val) (A B : Prop) : Prop := (isX v = none ∧ A) ∨ (∃ c vs, isX v = some (c, vs) ∧ B)
theorem Xs.no {v : Val} {A B : Prop} (h : isX v = none) (a : A) : Xs v A B := .inl ⟨h, a⟩
theorem Xs.yes {v : Val} {A B : Prop} {c : Str} {vs : List Val} (h : isX v = some (c, vs)) (b : B) : Xs v A B := .inr ⟨c, vs, h, b⟩
section
variable {ρ : Rho} {S : Sto} {f : EF} {ga : AF} {g h : SF} {N : Rho → Sto → Prop} {R : Val → Sto → Prop} {p : Pat} {c : Str}
theorem ws_retN (z : Wp (f ρ S) fun v S1 => Sd (isX v = none) (R v S1)) : Ws (sRetN f ρ S) N R := by
  obtain ⟨v, S1, e, q⟩ := z
  unfold sRetN
  rw [e]
  dsimp only
  rw [q.1]
  exact ⟨q.2⟩
theorem ws_exprX (z : Wp (f ρ S) fun v S1 => Xs v (N ρ S1) (R v S1)) : Ws (sExprX f ρ S) N R := by
  obtain ⟨v, S1, e, q⟩ := z
  unfold sExprX
  rw [e]
  dsimp only
  rcases q with ⟨hx, q⟩ | ⟨c, vs, hx, q⟩ <;> (rw [hx]; exact ⟨q⟩)
theorem ws_asgX (z : Wp (f ρ S) fun v S1 => Xs v (Bn (p.bind v ρ) fun ρ1 => N ρ1 S1) (R v S1)) : Ws (sAsgX p f ρ S) N R := by
  obtain ⟨v, S1, e, q⟩ := z
  unfold sAsgX
  rw [e]
  dsimp only
  rcases q with ⟨hx, ρ1, hb, q⟩ | ⟨c, vs, hx, q⟩
  · rw [hx]
    dsimp only
    rw [hb]
    exact ⟨q⟩
  · rw [hx]
    exact ⟨q⟩
theorem ws_raise (z : Wp (ga ρ S) fun vs S1 => Sd (vs.length = (xfs c).length) (R (xv c vs) S1)) : Ws (sRaise c ga ρ S) N R := by
  obtain ⟨v, S1, e, q⟩ := z
  unfold sRaise
  rw [e]
  dsimp only
  rw [if_pos q.1]
  exact ⟨q.2⟩
theorem ws_try (z : Ws (g ρ S) N fun v S' => (isX v = none ∧ R v S') ∨ ∃ vs, isX v = some (c, vs) ∧ Ws (h ρ S') N R) : Ws (sTry g c h ρ S) N R := by
  obtain ⟨z⟩ := z
  unfold sTry
  cases e : g ρ S with
  | nx ρ1 S1 => rw [e] at z; exact ⟨z⟩
  | stuck => rw [e] at z; exact z.elim
  | bk ρ1 S1 => rw [e] at z; exact z.elim
  | ct ρ1 S1 => rw [e] at z; exact z.elim
  | rt v S1 =>
    rw [e] at z
    dsimp only
    rcases z with ⟨hx, z⟩ | ⟨vs, hx, z⟩
    · rw [hx]
      exact ⟨z⟩
    · rw [hx]
      dsimp only
      rw [if_pos rfl]
      exact z
end
end AL
namespace AL
open PySem PySem.Spec PyProof.Rows L2 G Th
variable [TT]
section
variable {X : Cx} {K : PySem.W.Frag}
end
end AL
namespace AL
open PySem PySem.Spec PyProof.Rows L2 G Th
end AL
namespace AL
open PySem PySem.Spec PyProof.Rows L2 G Th
variable [TT]
section
variable {X : Cx} {K : PySem.W.Frag}
noncomputable abbrev gMulS : Val → Val → Sto → Option (Val × Sto) := gIc PySem.IntMulOk fun a b => Val.int (a * b)
theorem op_mulS : OpR X (PySem.binaryOp .Mult) (rI PySem.IntMulOk fun i j => V.int (i * j)) := opI fun _ _ _ _ _ _ _ hc q => PyProof.Rows.mul_int q hc
theorem oMulS : OpA K (rI PySem.IntMulOk fun i j => .int (i * j)) gMulS := oIc fun _ _ _ _ => .int _
theorem mul_short {a b : Int} (h : b = 0 ∨ b = 1) : PySem.IntMulOk a b := by
  unfold PySem.IntMulOk
  have : PySem.Builtin.Int.intBits b ≤ 64 := by rcases h with rfl | rfl <;> decide
  have : ¬ (PySem.Builtin.Int.intBits b > PySem.shortFactorBits) := by show ¬ (_ > 64); omega
  simp [this]
theorem vMulS {x y : Val} {a b : Int} {S : Sto} {Q : Val → Sto → Prop} (hx : x = .int a) (hy : y = .int b) (q : Q (.int (a * b)) S) (h : PySem.IntMulOk a b) : Wp (gMulS x y S) Q := by subst hx hy; exact ⟨_, _, if_pos h, q⟩
end
end AL
namespace K19
open PySem PySem.Spec PyProof.Rows L2 G Th AL
open K37 (common_divisor_ common_divisor_B ratio_ ratio_B less_ less_B parted_ parted_B drift_of_ drift_of_B moves_into_ moves_into_B history_moves_ history_moves_B)
noncomputable def history_steps_B : SF := (sSeq (sAsg (.nm 1) (eLst aNil))
    (sSeq (sFor (.tp [(.nm 2), (.nm 3)]) (iEn (aCons (eDef history_moves_ 1 (aCons (eV 0) aNil)) aNil)) (sFor (.tp [(.nm 4), (.nm 5)]) (iSeq (eV 3)) (sSeq (sAsg (.tp [(.nm 6), (.nm 7)]) (eV 5))
    (sSeq (sIf (eT (eB gIsN (eV 7) (eC .non))) (sExpr (eMt isL gApp (eV 1) (aCons (eTup (aCons (eV 4) (aCons (eV 2) (aCons (eV 7) aNil)))) aNil))) sNil)
    (sExpr (eMt isL gApp (eV 1) (aCons (eTup (aCons (eV 2) (aCons (eV 4) (aCons (eDef less_ 2 (aCons (eC (.tup [.int 0, .int 1])) (aCons (eV 6) aNil))) aNil)))) aNil)))))))
    (sRet (eCall gTuple (aCons (eV 1) aNil)))))
noncomputable def history_steps_ : FA := runF 8 history_steps_B
noncomputable def feedL_B : SF := (sRet (eLst (aCons (eCall gList (aCons (eSl gSl (eV 0) oN (oS (eC (.int 63)))) aNil)) (aCons (eC (.int 0)) (aCons (eC (.int 0)) (aCons (eC (.int 0)) aNil))))))
noncomputable def feedL_ : FA := runF 1 feedL_B
noncomputable def drawL_B : SF := (sSeq (sSub gSetA (eV 0) (eC (.int 1)) (eB gAdd (eB gIxA (eV 0) (eC (.int 1))) (eC (.int 1))))
    (sSeq (sWhile (bAnd (eT (eB gEq (eB gIxA (eV 0) (eC (.int 2))) (eC (.int 0)))) (eT (eB gLt (eB gIxA (eV 0) (eC (.int 3))) (eCall gLen (aCons (eB gIxA (eV 0) (eC (.int 0))) aNil))))) (sSeq (sAsg (.nm 2) (eCall gAbs (aCons (eB gIxA (eB gIxA (eV 0) (eC (.int 0))) (eB gIxA (eV 0) (eC (.int 3)))) aNil)))
    (sSeq (sSub gSetA (eV 0) (eC (.int 2)) (eB gMulS (eV 2) (eCall gInt (aCons (eB gGe (eV 2) (eB gPow (eC (.int 10)) (eC (.int 18)))) aNil))))
    (sSub gSetA (eV 0) (eC (.int 3)) (eB gAdd (eB gIxA (eV 0) (eC (.int 3))) (eC (.int 1)))))))
    (sSeq (sIf (eT (eB gGt (eB gIxA (eV 0) (eC (.int 2))) (eC (.int 0)))) (sSeq (sAsg (.nm 4) (eB gMod (eB gIxA (eV 0) (eC (.int 2))) (eV 1)))
    (sSeq (sSub gSetA (eV 0) (eC (.int 2)) (eB gDiv (eB gIxA (eV 0) (eC (.int 2))) (eV 1)))
    (sRet (eV 4)))) sNil)
    (sSeq (sAsg (.nm 2) (eIf (eT (eB gNe (eB gIxA (eV 0) (eC (.int 0))) (eLst aNil))) (eB gIxA (eB gIxA (eV 0) (eC (.int 0))) (eB gMod (eB gIxA (eV 0) (eC (.int 1))) (eCall gLen (aCons (eB gIxA (eV 0) (eC (.int 0))) aNil)))) (eC (.int 5))))
    (sSeq (sAsg (.nm 3) (eB gMod (eB gPow (eB gAdd (eB gAdd (eB gMod (eV 2) (eC (.int 1000003))) (eB gMul (eB gMul (eC (.int 613)) (eB gIxA (eV 0) (eC (.int 1)))) (eB gAdd (eB gIxA (eV 0) (eC (.int 1))) (eC (.int 7))))) (eC (.int 17))) (eC (.int 5))) (eC (.int 2147483647))))
    (sRet (eB gMod (eB gDiv (eB gMod (eB gPow (eB gAdd (eV 3) (eB gMul (eC (.int 4099)) (eB gIxA (eV 0) (eC (.int 1))))) (eC (.int 5))) (eC (.int 2147483587))) (eC (.int 7))) (eV 1))))))))
noncomputable def drawL_ : FA := runF 5 drawL_B
noncomputable def fracL_B : SF := (sSeq (sAsg (.tp [(.nm 0), (.nm 1)]) (eIf (eT (eB gGt (eV 1) (eC (.int 0)))) (eTup (aCons (eV 0) (aCons (eV 1) aNil))) (eTup (aCons (eB gSub (eC (.int 0)) (eV 0)) (aCons (eB gSub (eC (.int 0)) (eV 1)) aNil)))))
    (sSeq (sPar [2, 3] (aCons (eCall gAbs (aCons (eV 0) aNil)) (aCons (eV 1) aNil)))
    (sSeq (sWhile (eT (eB gGt (eV 3) (eC (.int 0)))) (sPar [2, 3] (aCons (eV 3) (aCons (eB gMod (eV 2) (eV 3)) aNil))))
    (sRet (eTup (aCons (eB gDiv (eV 0) (eV 2)) (aCons (eB gDiv (eV 1) (eV 2)) aNil)))))))
noncomputable def fracL_ : FA := runF 4 fracL_B
noncomputable def fieldL_B : SF := (sSeq (sAsg (.nm 2) (eLst (aCons (eC (.str "a")) (aCons (eC (.str "b")) (aCons (eC (.str "cy")) (aCons (eC (.str "mill")) (aCons (eC (.str "quay")) (aCons (eC (.str "zzzzzzzz")) aNil))))))))
    (sSeq (sAsg (.nm 3) (eCall gSorted (aCons (eLc (.nm 5) (iRg1 (aCons (eB gAdd (eC (.int 1)) (eDef drawL_ 2 (aCons (eV 0) (aCons (eV 1) aNil)))) aNil)) bYes (eMt isL gPop (eV 2) (aCons (eDef drawL_ 2 (aCons (eV 0) (aCons (eCall gLen (aCons (eV 2) aNil)) aNil))) aNil)) [5]) aNil)))
    (sSeq (sPar [6, 7, 8] (aCons (eB gIxA (eV 3) (eDef drawL_ 2 (aCons (eV 0) (aCons (eCall gLen (aCons (eV 3) aNil)) aNil)))) (aCons (eLst aNil) (aCons (eLst aNil) aNil))))
    (sSeq (sFor (.nm 4) (iSeq (eV 3)) (sSeq (sAsg (.nm 9) (eB gIxA (eLst (aCons (eTup (aCons (eC (.int 1)) (aCons (eC (.int 1)) aNil))) (aCons (eTup (aCons (eC (.int 3)) (aCons (eC (.int 4)) aNil))) (aCons (eTup (aCons (eC (.int 1)) (aCons (eC (.int 2)) aNil))) aNil)))) (eB gMul (eDef drawL_ 2 (aCons (eV 0) (aCons (eC (.int 3)) aNil))) (eCall gInt (aCons (eB gNe (eV 4) (eV 6)) aNil)))))
    (sExpr (eMt isL gApp (eV 7) (aCons (eTup (aCons (eV 4) (aCons (eV 9) (aCons (eB gIxA (eLst (aCons (eTup (aCons (eC (.int 1)) (aCons (eC (.int 1)) aNil))) (aCons (eTup (aCons (eC (.int 5)) (aCons (eC (.int 4)) aNil))) (aCons (eTup (aCons (eC (.int 3)) (aCons (eC (.int 2)) aNil))) (aCons (eTup (aCons (eC (.int 2)) (aCons (eC (.int 1)) aNil))) aNil))))) (eB gMul (eDef drawL_ 2 (aCons (eV 0) (aCons (eC (.int 4)) aNil))) (eCall gInt (aCons (eB gNe (eV 4) (eV 6)) aNil)))) aNil)))) aNil)))))
    (sSeq (sFor (.nm 5) (iRg1 (aCons (eB gMul (eDef drawL_ 2 (aCons (eV 0) (aCons (eC (.int 9)) aNil))) (eCall gInt (aCons (eB gGt (eCall gLen (aCons (eV 3) aNil)) (eC (.int 1))) aNil))) aNil)) (sSeq (sAsg (.nm 10) (eB gIxA (eV 3) (eDef drawL_ 2 (aCons (eV 0) (aCons (eCall gLen (aCons (eV 3) aNil)) aNil)))))
    (sSeq (sAsg (.nm 11) (eLc (.nm 4) (iSeq (eV 3)) (eT (eB gNe (eV 4) (eV 10))) (eV 4) [4]))
    (sSeq (sAsg (.nm 12) (eDef drawL_ 2 (aCons (eV 0) (aCons (eC (.int 5)) aNil))))
    (sSeq (sAsg (.nm 13) (eB gIxA (eLst (aCons (eC (.int 0)) (aCons (eC (.int 2)) (aCons (eC (.int 5)) (aCons (eC (.int 18)) (aCons (eC .non) aNil)))))) (eDef drawL_ 2 (aCons (eV 0) (aCons (eC (.int 5)) aNil)))))
    (sSeq (sAsg (.nm 14) (eIf (eT (eB gIs (eV 13) (eC .non))) (eC .non) (eDef fracL_ 2 (aCons (eB gAdd (eV 12) (eV 13)) (aCons (eC (.int 2)) aNil)))))
    (sExpr (eMt isL gApp (eV 8) (aCons (eTup (aCons (eV 10) (aCons (eB gIxA (eV 11) (eDef drawL_ 2 (aCons (eV 0) (aCons (eCall gLen (aCons (eV 11) aNil)) aNil)))) (aCons (eDef fracL_ 2 (aCons (eV 12) (aCons (eC (.int 2)) aNil))) (aCons (eV 14) aNil))))) aNil)))))))))
    (sRet (eTup (aCons (eCall gTuple (aCons (eV 7) aNil)) (aCons (eCall gTuple (aCons (eV 8) aNil)) (aCons (eV 6) aNil))))))))))
noncomputable def fieldL_ : FA := runF 15 fieldL_B
noncomputable def ratesL_B : SF := (sSeq (sAsg (.tp [(.nm 2), (.nm 3)]) (eB gIxA (eLc (.nm 4) (iSeq (eB gIxA (eV 0) (eC (.int 0)))) (eT (eB gEq (eB gIxA (eV 4) (eC (.int 0))) (eV 1))) (eSl gSl (eV 4) (oS (eC (.int 1))) oN) [4]) (eC (.int 0))))
    (sRet (eTup (aCons (eB gDiv (eB gMul (eB gIxA (eV 2) (eC (.int 0))) (eC (.int 4))) (eB gIxA (eV 2) (eC (.int 1)))) (aCons (eB gDiv (eB gMul (eB gIxA (eV 3) (eC (.int 0))) (eC (.int 4))) (eB gIxA (eV 3) (eC (.int 1)))) aNil)))))
noncomputable def ratesL_ : FA := runF 5 ratesL_B
noncomputable def openL_B : SF := (sSeq (sAsg (.nm 4) (eLst aNil))
    (sSeq (sFor (.tp [(.nm 5), (.nm 6), (.nm 7)]) (iSeq (eV 1)) (sSeq (sAsg (.tp [(.nm 8), (.nm 9)]) (eSl gSl (eB gIxA (eB gIxA (eV 0) (eC (.int 1))) (eV 6)) (oS (eC (.int 2))) oN))
    (sIf (bAnd (eT (eB gEq (eB gIxA (eB gIxA (eB gIxA (eV 0) (eC (.int 1))) (eV 6)) (eC (.int 1))) (eV 2))) (eT (eB gGe (eB gMul (eB gSub (eV 3) (eV 7)) (eB gIxA (eV 8) (eC (.int 1)))) (eB gIxA (eV 8) (eC (.int 0)))))) (sIf (bOr (eT (eB gIs (eV 9) (eC .non))) (eT (eB gLe (eB gMul (eB gSub (eV 3) (eV 7)) (eB gIxA (eV 9) (eC (.int 1)))) (eB gIxA (eV 9) (eC (.int 0)))))) (sExpr (eMt isL gApp (eV 4) (aCons (eV 5) aNil))) sNil) sNil)))
    (sRet (eV 4))))
noncomputable def openL_ : FA := runF 10 openL_B
noncomputable def drawnL_B : SF := (sSeq (sAsg (.nm 3) (eDef fieldL_ 2 (aCons (eV 0) (aCons (eV 1) aNil))))
    (sSeq (sAsg (.tp [(.nm 5), (.nm 6), (.nm 7), (.nm 8), (.nm 9)]) (eTup (aCons (eC (.int 0)) (aCons eDic (aCons (eLst aNil) (aCons (eLst aNil) (aCons (eLst aNil) aNil)))))))
    (sSeq (sFor (.nm 4) (iRg1 (aCons (eV 2) aNil)) (sSeq (sAsg (.nm 5) (eB gAdd (eV 5) (eB gIxA (eLst (aCons (eC (.int 0)) (aCons (eC (.int 0)) (aCons (eC (.int 1)) (aCons (eC (.int 2)) (aCons (eC (.int 3)) aNil)))))) (eDef drawL_ 2 (aCons (eV 0) (aCons (eC (.int 5)) aNil))))))
    (sSeq (sAsg (.nm 10) (eB gIxA (eB gIxA (eB gIxA (eV 3) (eC (.int 0))) (eDef drawL_ 2 (aCons (eV 0) (aCons (eCall gLen (aCons (eB gIxA (eV 3) (eC (.int 0))) aNil)) aNil)))) (eC (.int 0))))
    (sSeq (sAsg (.nm 11) (eB gSub (eDef drawL_ 2 (aCons (eV 0) (aCons (eC (.int 41)) aNil))) (eC (.int 20))))
    (sSeq (sIf (eT (eB (gIn false) (eV 10) (eV 6))) (sSeq (sAsg (.tp [(.nm 16), (.nm 17)]) (eDef ratesL_ 2 (aCons (eV 3) (aCons (eV 10) aNil))))
    (sSeq (sAsg (.tp [(.nm 18), (.nm 11)]) (eB gIxA (eV 6) (eV 10)))
    (sAsg (.nm 11) (eB gAdd (eV 11) (eB gMul (eB gSub (eV 5) (eV 18)) (eB gIxA (eLst (aCons (eV 16) (aCons (eV 17) (aCons (eC (.int 4)) aNil)))) (eDef drawL_ 2 (aCons (eV 0) (aCons (eC (.int 3)) aNil))))))))) sNil)
    (sSeq (sSub gSetA (eV 6) (eV 10) (eTup (aCons (eV 5) (aCons (eV 11) aNil))))
    (sSeq (sAsg (.nm 12) (eDef openL_ 4 (aCons (eV 3) (aCons (eV 7) (aCons (eV 10) (aCons (eV 5) aNil))))))
    (sSeq (sAsg (.nm 13) (eLc (.tp [(.nm 19), (.nm 20)]) (iEn (aCons (eB gIxA (eV 3) (eC (.int 1))) aNil)) (eT (eB gEq (eB gIxA (eV 20) (eC (.int 0))) (eV 10))) (eV 19) [19, 20]))
    (sSeq (sPar [14, 15] (aCons (eTup (aCons (eC (.str "mark")) aNil)) (aCons (eDef drawL_ 2 (aCons (eV 0) (aCons (eC (.int 5)) aNil))) aNil)))
    (sSeq (sIf (bAnd (eT (eB gLt (eV 15) (eC (.int 3)))) (eT (eB gNe (eV 12) (eLst aNil)))) (sAsg (.nm 14) (eTup (aCons (eC (.str "hear")) (aCons (eB gIxA (eV 12) (eDef drawL_ 2 (aCons (eV 0) (aCons (eCall gLen (aCons (eV 12) aNil)) aNil)))) aNil)))) (sIf (bAnd (eT (eB gLt (eV 15) (eC (.int 4)))) (eT (eB gNe (eV 13) (eLst aNil)))) (sSeq (sAsg (.nm 14) (eTup (aCons (eC (.str "send")) (aCons (eB gIxA (eV 13) (eDef drawL_ 2 (aCons (eV 0) (aCons (eCall gLen (aCons (eV 13) aNil)) aNil)))) aNil))))
    (sExpr (eMt isL gApp (eV 7) (aCons (eTup (aCons (eV 4) (aCons (eB gIxA (eV 14) (eC (.int 1))) (aCons (eV 5) aNil)))) aNil)))) sNil))
    (sSeq (sExpr (eMt isL gApp (eV 8) (aCons (eTup (aCons (eV 10) (aCons (eDef fracL_ 2 (aCons (eV 11) (aCons (eC (.int 4)) aNil))) (aCons (eV 14) aNil)))) aNil)))
    (sExpr (eMt isL gApp (eV 9) (aCons (eTup (aCons (eV 5) (aCons (eC (.int 1)) aNil))) aNil))))))))))))))
    (sRet (eTup (aCons (eTup (aCons (eV 3) (aCons (eCall gTuple (aCons (eV 8) aNil)) aNil))) (aCons (eCall gTuple (aCons (eV 9) aNil)) aNil)))))))
noncomputable def drawnL_ : FA := runF 21 drawnL_B
noncomputable def barredL_B : SF := (sSeq (sAsg (.tp [(.nm 3), (.nm 4)]) (eV 1))
    (sSeq (sPar [5, 6] (aCons (eDef drawL_ 2 (aCons (eV 0) (aCons (eC (.int 3)) aNil))) (aCons (eDef drawL_ 2 (aCons (eV 0) (aCons (eCall gMaxA (aCons (eC (.int 1)) (aCons (eCall gLen (aCons (eV 4) aNil)) aNil))) aNil))) aNil)))
    (sSeq (sIf (bAnd (eT (eB gEq (eV 5) (eC (.int 0)))) (eT (eB gNe (eV 4) (eTup aNil)))) (sSeq (sAsg (.nm 7) (eB gAdd (eC (.int 1)) (eDef drawL_ 2 (aCons (eV 0) (aCons (eC (.int 40)) aNil)))))
    (sSeq (sAsg (.nm 8) (eCall gList (aCons (eV 4) aNil)))
    (sSeq (sFor (.nm 9) (iRg2 (aCons (eV 6) (aCons (eCall gLen (aCons (eV 4) aNil)) aNil))) (sSeq (sAsg (.tp [(.nm 14), (.nm 15), (.nm 16)]) (eB gIxA (eV 4) (eV 9)))
    (sIf (eT (eB gEq (eV 14) (eB gIxA (eB gIxA (eV 4) (eV 6)) (eC (.int 0))))) (sSub gSetA (eV 8) (eV 9) (eTup (aCons (eV 14) (aCons (eDef fracL_ 2 (aCons (eB gAdd (eB gDiv (eB gMul (eB gIxA (eV 15) (eC (.int 0))) (eC (.int 4))) (eB gIxA (eV 15) (eC (.int 1)))) (eV 7)) (aCons (eC (.int 4)) aNil))) (aCons (eV 16) aNil))))) sNil)))
    (sRet (eTup (aCons (eV 3) (aCons (eCall gTuple (aCons (eV 8) aNil)) aNil))))))) sNil)
    (sSeq (sAsg (.nm 2) (eLst aNil))
    (sSeq (sFor (.tp [(.nm 10), (.nm 11), (.nm 12), (.nm 13)]) (iSeq (eB gIxA (eV 3) (eC (.int 1)))) (sIf (eT (eB gEq (eV 5) (eC (.int 1)))) (sExpr (eMt isL gApp (eV 2) (aCons (eTup (aCons (eV 10) (aCons (eV 11) (aCons (eDef fracL_ 2 (aCons (eB gAdd (eB gDiv (eB gMul (eB gIxA (eV 12) (eC (.int 0))) (eC (.int 2))) (eB gIxA (eV 12) (eC (.int 1)))) (eC (.int 3))) (aCons (eC (.int 2)) aNil))) (aCons (eIf (eT (eB gIs (eV 13) (eC .non))) (eC .non) (eTup (aCons (eC (.int 99)) (aCons (eC (.int 1)) aNil)))) aNil))))) aNil))) (sExpr (eMt isL gApp (eV 2) (aCons (eTup (aCons (eV 10) (aCons (eV 11) (aCons (eV 12) (aCons (eV 12) aNil))))) aNil)))))
    (sRet (eTup (aCons (eTup (aCons (eB gIxA (eV 3) (eC (.int 0))) (aCons (eCall gTuple (aCons (eV 2) aNil)) (aCons (eB gIxA (eV 3) (eC (.int 2))) aNil)))) (aCons (eV 4) aNil)))))))))
noncomputable def barredL_ : FA := runF 17 barredL_B
noncomputable def scaledL_B : SF := (sRet (eB gDiv (eB gMul (eB gIxA (eV 0) (eC (.int 0))) (eC (.int 120))) (eB gIxA (eV 0) (eC (.int 1)))))
noncomputable def scaledL_ : FA := runF 1 scaledL_B
noncomputable def stepsL_B : SF := (sSeq (sAsg (.tp [(.nm 1), (.nm 2)]) (eV 0))
    (sSeq (sPar [3, 4] (aCons (eLst aNil) (aCons eDic aNil)))
    (sSeq (sFor (.tp [(.nm 5), (.tp [(.nm 6), (.nm 7), (.nm 8)])]) (iEn (aCons (eV 2) aNil)) (sSeq (sIf (eT (eB (gIn false) (eV 6) (eV 4))) (sSeq (sAsg (.nm 9) (eB gIxA (eV 4) (eV 6)))
    (sSeq (sAsg (.tp [(.nm 11), (.nm 12)]) (eDef ratesL_ 2 (aCons (eV 1) (aCons (eV 6) aNil))))
    (sSeq (sAsg (.nm 10) (eB gSub (eDef scaledL_ 1 (aCons (eV 7) aNil)) (eDef scaledL_ 1 (aCons (eB gIxA (eB gIxA (eV 2) (eV 9)) (eC (.int 1))) aNil))))
    (sAsg (.nm 3) (eB gAdd (eV 3) (eLst (aCons (eTup (aCons (eV 9) (aCons (eV 5) (aCons (eB gDiv (eB gMul (eV 10) (eC (.int 4))) (eV 11)) aNil)))) (aCons (eTup (aCons (eV 5) (aCons (eV 9) (aCons (eB gSub (eC (.int 0)) (eB gDiv (eB gMul (eV 10) (eC (.int 4))) (eV 12))) aNil)))) aNil)))))))) sNil)
    (sSeq (sIf (eT (eB gEq (eB gIxA (eV 8) (eC (.int 0))) (eC (.str "hear")))) (sSeq (sAsg (.tp [(.nm 13), (.nm 14)]) (eSl gSl (eB gIxA (eB gIxA (eV 1) (eC (.int 1))) (eB gIxA (eB gIxA (eB gIxA (eV 2) (eB gIxA (eV 8) (eC (.int 1)))) (eC (.int 2))) (eC (.int 1)))) (oS (eC (.int 2))) oN))
    (sSeq (sAsg (.nm 3) (eB gAdd (eV 3) (eIf (eT (eB gIs (eV 14) (eC .non))) (eLst aNil) (eLst (aCons (eTup (aCons (eB gIxA (eV 8) (eC (.int 1))) (aCons (eV 5) (aCons (eDef scaledL_ 1 (aCons (eV 14) aNil)) aNil)))) aNil)))))
    (sExpr (eMt isL gApp (eV 3) (aCons (eTup (aCons (eV 5) (aCons (eB gIxA (eV 8) (eC (.int 1))) (aCons (eB gSub (eC (.int 0)) (eDef scaledL_ 1 (aCons (eV 13) aNil))) aNil)))) aNil))))) sNil)
    (sSub gSetA (eV 4) (eV 6) (eV 5)))))
    (sRet (eV 3)))))
noncomputable def stepsL_ : FA := runF 15 stepsL_B
end K19
namespace K24
open PySem PySem.Spec PyProof.Rows L2 G Th AL
open K37 (common_divisor_ common_divisor_B ratio_ ratio_B added_ added_B less_ less_B parted_ parted_B is_below_ is_below_B drift_of_ drift_of_B moves_into_ moves_into_B history_moves_ history_moves_B)
open K19 (history_steps_ history_steps_B feedL_ feedL_B drawL_ drawL_B fracL_ fracL_B fieldL_ fieldL_B ratesL_ ratesL_B openL_ openL_B drawnL_ drawnL_B)
noncomputable def common_unit_B : SF := (sSeq (sAsg (.nm 1) (eC (.int 1)))
    (sSeq (sFor (.nm 2) (iSeq (eV 0)) (sAsg (.nm 1) (eB gMul (eB gDiv (eV 1) (eDef common_divisor_ 2 (aCons (eV 1) (aCons (eB gIxA (eV 2) (eC (.int 1))) aNil)))) (eB gIxA (eV 2) (eC (.int 1))))))
    (sRet (eV 1))))
noncomputable def common_unit_ : FA := runF 3 common_unit_B
noncomputable def whole_steps_B : SF := (sSeq (sAsg (.nm 1) (eDef common_unit_ 1 (aCons (eLc (.tp [(.nm 2), (.nm 3), (.nm 4)]) (iSeq (eV 0)) bYes (eV 4) [2, 3, 4]) aNil)))
    (sRet (eTup (aCons (eV 1) (aCons (eLc (.tp [(.nm 2), (.nm 3), (.nm 4)]) (iSeq (eV 0)) bYes (eTup (aCons (eV 2) (aCons (eV 3) (aCons (eB gMul (eB gIxA (eV 4) (eC (.int 0))) (eB gDiv (eV 1) (eB gIxA (eV 4) (eC (.int 1))))) aNil)))) [2, 3, 4]) aNil)))))
noncomputable def whole_steps_ : FA := runF 5 whole_steps_B
noncomputable def go_over_B : SF := (sSeq (sAsg (.nm 3) (eC .non))
    (sSeq (sFor (.tp [(.nm 4), (.nm 5)]) (iEn (aCons (eV 0) aNil)) (sSeq (sAsg (.tp [(.nm 6), (.nm 7), (.nm 8)]) (eV 5))
    (sIf (bAnd (eT (eB gIsN (eB gIxA (eV 1) (eV 6)) (eC .non))) (bOr (eT (eB gIs (eB gIxA (eV 1) (eV 7)) (eC .non))) (eT (eB gLt (eB gAdd (eB gIxA (eV 1) (eV 6)) (eV 8)) (eB gIxA (eV 1) (eV 7)))))) (sSeq (sSub gSetA (eV 1) (eV 7) (eB gAdd (eB gIxA (eV 1) (eV 6)) (eV 8)))
    (sSeq (sSub gSetA (eV 2) (eV 7) (eV 4))
    (sAsg (.nm 3) (eV 7)))) sNil)))
    (sRet (eV 3))))
noncomputable def go_over_ : FA := runF 9 go_over_B
noncomputable def go_down_B : SF := (sSeq (sAsg (.nm 3) (eDef go_over_ 3 (aCons (eV 0) (aCons (eV 1) (aCons (eV 2) aNil)))))
    (sSeq (sAsg (.nm 4) (eC (.int 1)))
    (sSeq (sWhile (bAnd (eT (eB gIsN (eV 3) (eC .non))) (eT (eB gLe (eV 4) (eCall gLen (aCons (eV 1) aNil))))) (sSeq (sAsg (.nm 3) (eDef go_over_ 3 (aCons (eV 0) (aCons (eV 1) (aCons (eV 2) aNil)))))
    (sAug 4 (eC (.int 1)))))
    (sRet (eV 3)))))
noncomputable def go_down_ : FA := runF 5 go_down_B
noncomputable def ring_behind_B : SF := (sSeq (sAsg (.nm 3) (eV 2))
    (sSeq (sFor (.nm 4) (iSeq (eV 1)) (sAsg (.nm 3) (eB gIxA (eB gIxA (eV 0) (eB gIxA (eV 1) (eV 3))) (eC (.int 0)))))
    (sSeq (sAsg (.nm 5) (eLst (aCons (eB gIxA (eV 1) (eV 3)) aNil)))
    (sSeq (sWhile (eT (eB gNe (eB gIxA (eB gIxA (eV 0) (eB gIxA (eV 5) (eU gNeg (eC (.int 1))))) (eC (.int 0))) (eV 3))) (sExpr (eMt isL gApp (eV 5) (aCons (eB gIxA (eV 1) (eB gIxA (eB gIxA (eV 0) (eB gIxA (eV 5) (eU gNeg (eC (.int 1))))) (eC (.int 0)))) aNil))))
    (sRet (eCall gTuple (aCons (eU gRev (eV 5)) aNil)))))))
noncomputable def ring_behind_ : FA := runF 6 ring_behind_B
noncomputable def world_or_ring_B : SF := (sSeq (sAsg (.nm 1) (eDef history_steps_ 1 (aCons (eV 0) aNil)))
    (sSeq (sAsg (.tp [(.nm 5), (.nm 6)]) (eDef whole_steps_ 1 (aCons (eV 1) aNil)))
    (sSeq (sAsg (.nm 2) (eLc (.nm 7) (iSeq (eB gIxA (eV 0) (eC (.int 1)))) bYes (eC (.int 0)) [7]))
    (sSeq (sAsg (.nm 3) (eLc (.nm 7) (iSeq (eB gIxA (eV 0) (eC (.int 1)))) bYes (eC .non) [7]))
    (sSeq (sAsg (.nm 4) (eDef go_down_ 3 (aCons (eV 6) (aCons (eV 2) (aCons (eV 3) aNil)))))
    (sSeq (sIf (eT (eB gIs (eV 4) (eC .non))) (sRet (eTup (aCons (eC (.str "world")) (aCons (eCall gTuple (aCons (eLc (.nm 8) (iSeq (eV 2)) bYes (eDef ratio_ 2 (aCons (eV 8) (aCons (eV 5) aNil))) [8]) aNil)) aNil)))) sNil)
    (sRet (eTup (aCons (eC (.str "ring")) (aCons (eDef ring_behind_ 3 (aCons (eV 1) (aCons (eV 3) (aCons (eV 4) aNil)))) aNil))))))))))
noncomputable def world_or_ring_ : FA := runF 9 world_or_ring_B
noncomputable def ring_of_B : SF := (sSeq (sAsg (.tp [(.nm 1), (.nm 2)]) (eDef world_or_ring_ 1 (aCons (eV 0) aNil)))
    (sRet (eIf (eT (eB gEq (eV 1) (eC (.str "ring")))) (eV 2) (eC .non))))
noncomputable def ring_of_ : FA := runF 3 ring_of_B
noncomputable def only_at_B : SF := (sRet (eLc (.nm 2) (iRg1 (aCons (eV 0) aNil)) bYes (eIf (eT (eB gEq (eV 2) (eV 1))) (eC (.int 0)) (eC .non)) [2]))
noncomputable def only_at_ : FA := runF 3 only_at_B
noncomputable def sums_parted_B : SF := (sRet (eCall gTuple (aCons (eLc (.nm 2) (iSeq (eV 0)) bYes (eIf (eT (eB gIs (eV 2) (eC .non))) (eC .non) (eDef ratio_ 2 (aCons (eV 2) (aCons (eV 1) aNil)))) [2]) aNil)))
noncomputable def sums_parted_ : FA := runF 3 sums_parted_B
noncomputable def steps_leaving_B : SF := (sSeq (sAsg (.nm 2) (eLc (.nm 6) (iRg1 (aCons (eV 1) aNil)) bYes (eLst aNil) [6]))
    (sSeq (sFor (.tp [(.nm 3), (.nm 4), (.nm 5)]) (iSeq (eV 0)) (sExpr (eMt isL gApp (eB gIxA (eV 2) (eV 3)) (aCons (eTup (aCons (eV 4) (aCons (eV 5) aNil))) aNil))))
    (sRet (eV 2))))
noncomputable def steps_leaving_ : FA := runF 7 steps_leaving_B
noncomputable def run_clever_B : SF := (sSeq (sAsg (.nm 3) (eDef only_at_ 2 (aCons (eV 1) (aCons (eV 2) aNil))))
    (sSeq (sAsg (.nm 4) (eDef steps_leaving_ 2 (aCons (eV 0) (aCons (eV 1) aNil))))
    (sSeq (sAsg (.nm 5) (eLst (aCons (eV 2) aNil)))
    (sSeq (sWhile (eT (eB gGt (eCall gLen (aCons (eV 5) aNil)) (eC (.int 0)))) (sSeq (sAsg (.nm 6) (eMt isL gPop (eV 5) (aCons (eC (.int 0)) aNil)))
    (sFor (.tp [(.nm 7), (.nm 8)]) (iSeq (eB gIxA (eV 4) (eV 6))) (sIf (bOr (eT (eB gIs (eB gIxA (eV 3) (eV 7)) (eC .non))) (eT (eB gLt (eB gAdd (eB gIxA (eV 3) (eV 6)) (eV 8)) (eB gIxA (eV 3) (eV 7))))) (sSeq (sSub gSetA (eV 3) (eV 7) (eB gAdd (eB gIxA (eV 3) (eV 6)) (eV 8)))
    (sIf (eT (eB (gIn true) (eV 7) (eV 5))) (sExpr (eMt isL gApp (eV 5) (aCons (eV 7) aNil))) sNil)) sNil))))
    (sRet (eV 3))))))
noncomputable def run_clever_ : FA := runF 9 run_clever_B
end K24
namespace AL
open PySem PySem.Spec PyProof.Rows L2 G Th
variable [TT]
section
variable {X : Cx} {pos : Pos} {es : List Expr} {e : Expr} {f : EF}
end
end AL
namespace K30
open PySem PySem.Spec PyProof.Rows L2 G Th AL
open K37 (common_divisor_ common_divisor_B ratio_ ratio_B added_ added_B less_ less_B parted_ parted_B is_below_ is_below_B drift_of_ drift_of_B moves_into_ moves_into_B history_moves_ history_moves_B)
open K19 (history_steps_ history_steps_B feedL_ feedL_B drawL_ drawL_B fracL_ fracL_B fieldL_ fieldL_B ratesL_ ratesL_B openL_ openL_B drawnL_ drawnL_B)
open K24 (common_unit_ common_unit_B whole_steps_ whole_steps_B go_over_ go_over_B go_down_ go_down_B ring_behind_ ring_behind_B world_or_ring_ world_or_ring_B ring_of_ ring_of_B only_at_ only_at_B sums_parted_ sums_parted_B steps_leaving_ steps_leaving_B run_clever_ run_clever_B)
noncomputable def is_number_B : SF := (sRet (eAnd (eU (gIsi "int") (eV 0)) (eNot (eU (gIsi "bool") (eV 0)))))
noncomputable def is_number_ : FA := runF 1 is_number_B
noncomputable def is_fraction_B : SF := (sSeq (sIf (bOr (bNot (eT (eU (gIsi "tuple") (eV 0)))) (eT (eB gNe (eCall gLen (aCons (eV 0) aNil)) (eC (.int 2))))) (sRet (eC (.bl false))) sNil)
    (sSeq (sAsg (.tp [(.nm 1), (.nm 2)]) (eV 0))
    (sRet (eAnd (eDef is_number_ 1 (aCons (eV 1) aNil)) (eAnd (eDef is_number_ 1 (aCons (eV 2) aNil)) (eAnd (eB gGt (eV 2) (eC (.int 0))) (eB gEq (eDef common_divisor_ 2 (aCons (eV 1) (aCons (eV 2) aNil))) (eC (.int 1)))))))))
noncomputable def is_fraction_ : FA := runF 3 is_fraction_B
noncomputable def are_fractions_B : SF := (sRet (eAnd (eU (gIsi "tuple") (eV 0)) (eCall gAll (aCons (eLc (.nm 1) (iSeq (eV 0)) bYes (eDef is_fraction_ 1 (aCons (eV 1) aNil)) [1]) aNil))))
noncomputable def are_fractions_ : FA := runF 2 are_fractions_B
noncomputable def world_bars_B : SF := (sSeq (sFor (.tp [(.nm 2), (.nm 3)]) (iEn (aCons (eDef history_steps_ 1 (aCons (eV 0) aNil)) aNil)) (sSeq (sAsg (.tp [(.nm 4), (.nm 5), (.nm 6)]) (eV 3))
    (sIf (eT (eDef is_below_ 2 (aCons (eDef added_ 2 (aCons (eB gIxA (eV 1) (eV 4)) (aCons (eV 6) aNil))) (aCons (eB gIxA (eV 1) (eV 5)) aNil)))) (sRet (eV 2)) sNil)))
    (sRet (eC .non)))
noncomputable def world_bars_ : FA := runF 7 world_bars_B
end K30
namespace AL
open PySem PySem.Spec PyProof.Rows L2 G Th
variable [TT]
section
variable {K : PySem.W.Frag} {S : Sto} {Q : Val → Sto → Prop}
end
end AL
namespace K26
open PySem PySem.Spec PyProof.Rows L2 G Th AL
open K37 (common_divisor_ common_divisor_B ratio_ ratio_B less_ less_B parted_ parted_B drift_of_ drift_of_B moves_into_ moves_into_B history_moves_ history_moves_B)
open K19 (history_steps_ history_steps_B feedL_ feedL_B drawL_ drawL_B fracL_ fracL_B fieldL_ fieldL_B ratesL_ ratesL_B openL_ openL_B drawnL_ drawnL_B barredL_ barredL_B scaledL_ scaledL_B stepsL_ stepsL_B)
open K24 (common_unit_ common_unit_B whole_steps_ whole_steps_B go_over_ go_over_B go_down_ go_down_B ring_behind_ ring_behind_B world_or_ring_ world_or_ring_B ring_of_ ring_of_B)
end K26
namespace AL
open PySem PySem.Spec PyProof.Rows L2 G Th
variable [TT]

def thenX (y : Val) (S : Sto) (h : Val → Sto → Option (Val × Sto)) : Option (Val × Sto) := match isX y with
  | some _ => some (y, S)
  | none => match h y S with
    | some (v, S') => (match isX v with | none => some (v, S') | some _ => none)
    | none => none
def eBX (g : Val → Val → Sto → Option (Val × Sto)) (f f2 : EF) : EF := fun ρ S => (f ρ S).bind fun q => thenX q.1 q.2 fun y S => (f2 ρ S).bind fun r => g y r.1 r.2
theorem thenX_cases {y v : Val} {S S' : Sto} {h : Val → Sto → Option (Val × Sto)} (e : thenX y S h = some (v, S')) : ((∃ c vs, isX y = some (c, vs)) ∧ v = y ∧ S' = S) ∨ (isX y = none ∧ h y S = some (v, S') ∧ isX v = none) := by
  unfold thenX at e
  split at e
  · next cv hx =>
    cases e
    exact .inl ⟨⟨cv.1, cv.2, hx⟩, rfl, rfl⟩
  · next hx =>
    split at e
    · next v1 S1 e1 =>
      split at e
      · next hv => cases e; exact .inr ⟨hx, e1, hv⟩
      · cases e
    · cases e
section
variable {X : Cx} {W : WX} {e e1 e2 : Expr} {f f1 f2 : EF} {pos : Pos}
theorem aixX (h : AEX X W e f) (h2 : AE X e2 f2) (hs : PlainIx e2) : AEX X W (.Subscript e e2 pos) (eBX gIx f f2) := by
  refine pe_w (pe_ix ix_seq h h2 hs) fun σ H Q z => ?_
  obtain ⟨m, ρ, S, v, S', R, rr, ee, q⟩ := z
  obtain ⟨⟨y, S2⟩, a2, ee⟩ := Option.bind_eq_some_iff.mp ee
  refine ⟨m, ρ, S, y, S2, R, rr, a2, ?_⟩
  rcases thenX_cases ee with ⟨⟨c, vs, hx⟩, rfl, rfl⟩ | ⟨hx, ev, hv⟩
  · exact (PX.yes hx).mpr ((PX.yes hx).mp q)
  · obtain ⟨⟨w, S3⟩, a3, ev⟩ := Option.bind_eq_some_iff.mp ev
    refine (PX.no hx).mpr fun m2 u2 H2 E2 R2 r2 => ?_
    refine ⟨m2, ρ, S2, w, S3, R2, rr.kp (E2.kp R), a3, fun m3 u3 H3 E3 R3 r3 => ?_⟩
    exact oIx m3 S3 H3 y w v S' u2 u3 Q R3 (r2.kp (E3.kp R2)) r3 ev fun m4 u4 H4 E4 R4 r4 => (PX.no hv).mp q m4 u4 H4 ((E2.trans E3).trans E4) R4 r4
end
section
variable {ρ : Rho} {S : Sto} {Q : Val → Sto → Prop} {f f1 f2 : EF}
theorem wThen {y : Val} {h : Val → Sto → Option (Val × Sto)} (z : Xs y (Wp (h y S) fun v S' => isX v = none ∧ Q v S') (Q y S)) : Wp (thenX y S h) Q := by
  rcases z with ⟨hx, v, S', e, hv, q⟩ | ⟨c, vs, hx, q⟩
  · exact ⟨v, S', by unfold thenX; rw [hx]; simp only [e, hv], q⟩
  · exact ⟨y, S, by unfold thenX; rw [hx], q⟩
theorem wBX {g : Val → Val → Sto → Option (Val × Sto)} (z : Wp (f ρ S) fun y S2 => Xs y (Wp (f2 ρ S2) fun w S3 => Wp (g y w S3) fun v S4 => isX v = none ∧ Q v S4) (Q y S2)) : Wp (eBX g f f2 ρ S) Q := by
  obtain ⟨y, S2, e2, z⟩ := z
  unfold eBX
  rw [e2, Option.bind_some]
  refine wThen ?_
  rcases z with ⟨hx, w, S3, e3, z⟩ | ⟨c, vs, hx, z⟩
  · refine .inl ⟨hx, ?_⟩
    rw [e3, Option.bind_some]
    exact z
  · exact .inr ⟨c, vs, hx, z⟩
end
end AL
namespace G
open PySem PySem.Spec PyProof.Rows L2 LamX
end G
namespace G
open PySem PySem.Spec PyProof.Rows L2 LamX
theorem fly_up {B h h' : Heap} {l : List Env} {e : Addr} {Z : Obj → Prop} (x : HandSPX.FlyingZ B l e Z h) (k : ∀ b o, h.get? b = some o → h'.get? b = some o) : HandSPX.FlyingZ B l e Z h' := by
  obtain ⟨st, nb, ff, oe, vs, T, oT, ts, q1, q2, q3, q4, q5, q6, q7, q8⟩ := x
  exact ⟨fun b o e => k b o (st b o e), nb, ff.of_keeps fun b o e _ => ⟨o, k b o e, rfl⟩, oe, vs, T, oT, ts, k _ _ q1, q2, q3, q4, q5, q6, k _ _ q7, q8⟩

def TestsY (X : Cx) (test : Expr) (ok : Value → Prop) : Prop := ∀ (a : Addr) (pn : List (Addr × Obj)) (σ : L2.St) (H : Hp) (s : Shared) (cls : Value) (Q : Bool → Shared → Prop) (E E' : Value → Shared → Prop),
  Inv (X.suite a pn) [] σ H s → PySem.W.Looks (model X.prog X.w) s.heap (typeOf (.ref a)) cls → ok cls → (∀ h', (∀ b o, s.heap.get? b = some o → h'.get? b = some o) → Q true { s with heap := h' }) →
    wpAny (model X.prog X.w) (X.A.mark (some (.ref a))) (eval test X.env) (fun c s₁ => wpAny (model X.prog X.w) (X.A.mark (some (.ref a))) (excMatches (.ref a) c) Q E' s₁) E s
def wFst (ok : Value → Prop) (i : Nat) (ts : Addr → Value → Option Addr → TS) (D : Ends) : WX := fun cls d σ H => ok cls ∧ ∀ a, H a = none →
  ts a cls d { nx := fun σ' H' => D.nx (σ'.set i none) H', rt := D.rt, bk := fun σ' H' => D.bk (σ'.set i none) H', ct := fun σ' H' => D.ct (σ'.set i none) H' } (σ.set i (some (.ref a))) H
theorem ps_try_fst {X : Cx} {n : Str} {i : Nat} {test : Expr} {body suite : List Stmt} {b₀ : Stmt} {more : List ExceptHandler} {pos pos' : Pos} {tb : WX → TS} {ts : Addr → Value → Option Addr → TS} {ok : Value → Prop}
    (hs : X.stack = X.env :: X.outer) (hf : X.env.frame = some X.env.locals) (hN : X.N.Nodup) (hi : X.N[i]? = some n) (hln : X.env.kindOf n = some .local) (ht : TestsY X test ok)
    (hb : ∀ (W : WX) (pn : List (Addr × Obj)) (xe : Value → Shared → Prop), Takes (X.tr pn xe) W → PassesOwn (model X.prog X.w) X.A X.env xe → PSs (X.tr pn xe) body (tb W))
    (hsu : ∀ (a : Addr) (oe : Obj) (cls : Value) (d : Option Addr) (pn : List (Addr × Obj)), Zc cls d oe → (∃ vs, oe.data = .fields vs) → PSs (X.suite a ((a, oe) :: pn)) (b₀ :: suite) (ts a cls d)) :
    PS X (.Try body (.ExceptHandler (some test) (some n) (b₀ :: suite) pos' :: more) [] [] pos) (fun D σ H => tb (wFst ok i ts D) D σ H) := by
  constructor
  intro pins s σ H D I hyp
  have okX := I.ok
  have fr : X.A.frames = some (X.env :: X.outer) := by rw [okX.frames, hs]
  refine wpAny_Try_except (wpAny_mono ((hb (wFst ok i ts D) (X.pn ++ pins) (fun e s₁ => wpAny (model X.prog X.w) X.A (noteFrame e X.env) (fun _ s₂ => wpAny (model X.prog X.w) X.A (setFlight e none) (fun _ s₃ =>
    wpAny (model X.prog X.w) X.A (handleBy e X.env (.ExceptHandler (some test) (some n) (b₀ :: suite) pos' :: more)) (SP X pins D) X.xe s₃) X.xe s₂) X.xe s₁) ?_ PassesOwn.looking).run [] s σ H D (I.toTry _) hyp) ?_ fun e s1 z => z)
  · rintro u s' ⟨a, B, sI, pins', σ', H', cls, d, rfl, J0, nb, up, sky, na, os, ag, yes, sui⟩
    have J : Inv X pins σ' H' sI := J0.ofTry okX
    show wpAny (model X.prog X.w) X.A (noteFrame (.ref a) X.env) _ _ _
    refine Sky.land Zc.steady fr hf (by rw [← hs]; exact sky) fun h3 fly up3 => ?_
    have J3 : Inv X pins σ' H' { s' with heap := h3 } := J.landed nb fly.1 (up.trans up3) os ag
    obtain ⟨oe, vs, at3, z3, dat3⟩ := fly.there
    have far : a ∉ frs (X.env :: X.outer) := by
      intro hm
      obtain ⟨_, o', e', hnf⟩ := fly.2.2.1.mem hm
      rw [at3] at e'
      cases e'
      exact hnf _ dat3
    have nL : a ≠ X.env.locals := fun z => far (List.mem_filterMap.mpr ⟨X.env, List.mem_cons_self, by rw [hf, z]⟩)
    have nF : a ∉ X.fs := by
      intro hm
      obtain ⟨e, he, q⟩ := List.mem_filterMap.mp hm
      exact far (List.mem_filterMap.mpr ⟨e, List.mem_cons_of_mem _ he, q⟩)
    refine wpAny_handleBy_cons (codeAny_handlers_test (ht a _ σ' H' { s' with heap := h3 } cls _ _ _ (J3.suite at3 dat3 na nL nF) (fun A Q E s k q => wpAny_typeOf_ref (k _ _ at3) (by rw [z3.1]; exact q)) yes ?_)) (by intro q; cases q)
    intro h4 k4
    refine codeAny_handlers_suite_as (HandSPX.lands_againZ (fly_up fly k4) fun h5 fly5 up5 => ?_)
    have J5 : Inv X pins σ' H' { s' with heap := h5 } := J.landed nb fly5.1 (((up.trans up3).trans (.of_keeps k4)).trans up5) os ag
    obtain ⟨oe5, vs5, at5, z5, dat5⟩ := fly5.there
    refine store_ok (X := X.suite a ((a, oe5) :: (X.pn ++ pins))) (v := .ref a) (J5.suite at5 dat5 na nL nF) hN hi (.inl hln) rfl (fun s6 S6 => ?_) (.inr hln)
    refine wpAny_mono ((hsu a oe5 cls d (X.pn ++ pins) z5 ⟨_, dat5⟩).run [] s6 _ H' _ S6 (sui a na)) ?_ fun _ _ z => False.elim z
    intro f s7 q
    have fin : ∀ {σ7 : L2.St} {H7 : Hp} {Q : Shared → Prop}, Inv (X.suite a ((a, oe5) :: (X.pn ++ pins))) [] σ7 H7 s7 → (∀ s8, Inv X pins (σ7.set i none) H7 s8 → Q s8) →
        wpAny (model X.prog X.w) X.A (do bindName X.env n .none; unbindBehindTheSuite X.env n pos') (fun _ s8 => Q s8) X.xe s7 := fun S7 hq => gone_ok (S7.unsuite okX) hN hi hln hq
    match f, q with
    | .next, ⟨σ7, H7, S7, q7⟩ => exact fin S7 fun s8 J8 => ⟨_, _, J8, q7⟩
    | .brk, ⟨σ7, H7, S7, q7⟩ => exact fin S7 fun s8 J8 => ⟨_, _, J8, q7⟩
    | .cont, ⟨σ7, H7, S7, q7⟩ => exact fin S7 fun s8 J8 => ⟨_, _, J8, q7⟩
    | .ret u, ⟨v7, σ7, H7, S7, r7, q7⟩ => exact fin S7 fun s8 J8 => ⟨_, _, _, J8, r7, q7⟩
  · intro f s1 q
    match f, q with
    | .next, ⟨σ', H', J, q⟩ => exact wpAny_execs_nil ⟨σ', H', J.ofTry okX, q⟩
    | .brk, ⟨σ', H', J, q⟩ => exact ⟨σ', H', J.ofTry okX, q⟩
    | .cont, ⟨σ', H', J, q⟩ => exact ⟨σ', H', J.ofTry okX, q⟩
    | .ret u, ⟨v, σ', H', J, r, q⟩ => exact ⟨v, σ', H', J.ofTry okX, r, q⟩
theorem tests_name {X : Cx} {x : Str} {c : Value} {np : Pos} (hc : Names X x c) : TestsY X (.Name x np) (fun cls => PySem.W.exmOne X.K cls c = some true) := by
  intro a pn σ H s cls Q E E' I LT yes q
  have go : wpAny (model X.prog X.w) (X.A.mark (some (.ref a))) (excMatches (.ref a) c) Q E' s := (PySem.W.exm_one (M := model X.prog X.w) I.kIn LT yes).here (q s.heap fun _ _ e => e)
  obtain ⟨hg, hdbg, hm | ⟨hm, hv, hnn⟩⟩ := hc
  · exact ld_glob (X := X.suite a pn) I hg hm go hdbg
  · exact ld_blt (X := X.suite a pn) I hg hm hv go hnn hdbg
end G
namespace AL
open PySem PySem.Spec PyProof.Rows L2 G Th LamX
variable [TT]
end AL
namespace AL
open PySem PySem.Spec PyProof.Rows L2 G Th LamX
variable [TT]

structure KnE (K : PySem.W.Frag) (mg : Str → Option Value) (c : Str) : Prop where
  ex : ∃ D : Addr, mg c = some (.ref D) ∧ PySem.W.findIn K (.ref D) "__getattribute__" = some (some (.builtin "BaseException.__getattribute__")) ∧ PySem.W.findIn K (.ref D) "__getattr__" = some none ∧ PySem.W.subIn K (.ref D) (.type "BaseException") = some true ∧ PySem.W.hasDictIn K D = true ∧
    PySem.W.findIn K (.ref D) "__class__" = some (some (.builtin "object.__class__")) ∧ PySem.W.specialIn K (.builtin "object.__class__") "__get__" = some (some (.builtin "getset_descriptor.__get__")) ∧ PySem.W.takesIn K (.builtin "object.__class__") = some true ∧ PySem.W.mroIn K D (.type "object") = some true ∧
    ∀ n ∈ xfs c, PySem.W.findIn K (.ref D) n = some none
section
variable {X : Cx} {a D dd : Addr} {oe : Obj} {pn : List (Addr × Obj)}
open Classical in
noncomputable def eXf (i : Nat) (xv : Val) (v : Option Val) : EF := fun ρ S => if ρ[i]? = some (some xv) then v.map (·, S) else none
variable {c e : Str} {i : Nat} {vs : List Val} {p p1 p2 pos : Pos}
theorem axf {j : Nat} {n : Str} {v : Option Val} (kc : KnE X.K X.mg c) (hm : X.mg c = some (.ref D)) (hz : Zc (.ref D) (some dd) oe) (hf : ∃ vs, oe.data = .fields vs) (hN : X.N[i]? = some e) (hv : Vis X.env.scope e) (hn : (xfs c)[j]? = some n) (hj : vs[j]? = v)
    (hd : (e == ("__debug__" : Str)) = false := by decide) (hcd : (e == ("__classdict__" : Str)) = false := by decide) (hb : attributeBase (.Name e p1) n X.env (eval (.Name e p1) X.env) = eval (.Name e p1) X.env := by rfl) :
    AE (X.suite a ((a, oe) :: pn)) (.Attribute (.Name e p1) n pos) (eXf i (.exc a dd c vs) v) := by
  obtain ⟨D', hm', k1, k2, k3, k4, _, _, _, _, k9⟩ := kc.ex
  rw [hm] at hm'
  cases hm'
  have h1 : PE (X.suite a ((a, oe) :: pn)) (.Name e p1) _ := pe_var (X := X.suite a ((a, oe) :: pn)) (i := i) hN hv hd hcd
  refine pe_w (pe_xf ⟨k1, k2, k3, k4⟩ (k9 n (List.mem_of_getElem? hn)) hz hf h1 hb) fun σ H Q h => ?_
  obtain ⟨m, ρ, S, w, S', R, r, ee, q⟩ := h
  unfold eXf at ee
  split at ee
  · next h0 =>
    obtain ⟨u, hu, ru⟩ := r.at_ i _ h0
    rw [← hj] at ee
    cases hvj : vs[j]? with
    | none => rw [hvj] at ee; cases ee
    | some vj =>
      rw [hvj] at ee
      cases ee
      cases ru with
      | exc hdd hl rv =>
        obtain ⟨uj, h1, h2⟩ := rv.get hvj
        exact ⟨_, hu, rfl, rfl, dd, _, uj, rfl, hdd, hl j n uj hn h1, q m _ H (.refl _ _) R h2⟩
  · cases ee
end
def clrR (i : Nat) : Res → Res
  | .nx ρ S => .nx (ρ.set i none) S
  | .bk ρ S => .bk (ρ.set i none) S
  | .ct ρ S => .ct (ρ.set i none) S
  | r => r
open Classical in
noncomputable def sTryE (cs : List Str) (i : Nat) (g : SF) (h : Str → List Val → Val → SF) : SF := fun ρ S => match g ρ S with
  | .rt v S' => match isX v with
    | none => .rt v S'
    | some (c, vs) => if z : (c ∈ cs ∧ vs.length = (xfs c).length) ∧ ∃ r, ∀ xv, clrR i (h c vs xv (ρ.set i (some xv)) S') = r then z.2.choose else .stuck
  | r => r
theorem us_of {K : PySem.W.Frag} {H : Hp} {m : List Addr} {f : Str → Option V} : ∀ {ns : List Str} {vs : List Val}, vs.length = ns.length → (∀ (i : Nat) (n : Str) (v : Val), ns[i]? = some n → vs[i]? = some v → ∃ u, f n = some u ∧ VR K H m u v) →
    ∃ us, VRs K H m us vs ∧ ∀ (i : Nat) (n : Str) (u : V), ns[i]? = some n → us[i]? = some u → f n = some u
  | [], [], _, _ => ⟨[], .nil, fun i n u h => by simp at h⟩
  | [], _ :: _, h, _ => by simp at h
  | _ :: _, [], h, _ => by simp at h
  | n :: ns, v :: vs, hl, h => by
    obtain ⟨us, h1, h2⟩ := us_of (ns := ns) (vs := vs) (by simpa using hl) fun i n v a b => h (i + 1) n v a b
    obtain ⟨u, h3, h4⟩ := h 0 n v rfl rfl
    refine ⟨u :: us, .cons h4 h1, fun i n' u' a b => ?_⟩
    cases i with
    | zero => cases a; cases b; exact h3
    | succ i => exact h2 i n' u' a b
theorem Post.clr {K : PySem.W.Frag} {m : List Addr} {H : Hp} {D : Ends} {r : Res} {i : Nat} (h : Post K m H D (clrR i r)) :
    Post K m H { nx := fun σ' H' => D.nx (σ'.set i none) H', rt := D.rt, bk := fun σ' H' => D.bk (σ'.set i none) H', ct := fun σ' H' => D.ct (σ'.set i none) H' } r := by
  cases r with
  | stuck => exact h
  | nx ρ S => exact fun m' σ' H' E R q => h m' _ H' E R (q.unset i none)
  | rt v S => exact h
  | bk ρ S => exact fun m' σ' H' E R q => h m' _ H' E R (q.unset i none)
  | ct ρ S => exact fun m' σ' H' E R q => h m' _ H' E R (q.unset i none)
theorem astryE {X : Cx} {n : Str} {i : Nat} {test : Expr} {st b₀ : Stmt} {suite : List Stmt} {more : List ExceptHandler} {pos pos' : Pos} {g : SF} {h : Str → List Val → Val → SF} {cs : List Str} {ok : Value → Prop}
    (hs : X.stack = X.env :: X.outer) (hf : X.env.frame = some X.env.locals) (hN : X.N.Nodup) (hi : X.N[i]? = some n) (hln : X.env.kindOf n = some .local) (ht : TestsY X test ok) (hok : ∀ c ∈ cs, ∃ D, X.mg c = some (.ref D) ∧ ok (.ref D))
    (hb : ∀ (W : WX) (pn : List (Addr × Obj)) (xe : Value → Shared → Prop), Takes (X.tr pn xe) W → AXw (X.tr pn xe) W st g)
    (hsu : ∀ (a : Addr) (oe : Obj) (D dd : Addr) (pn : List (Addr × Obj)) (c : Str) (vs : List Val), c ∈ cs → X.mg c = some (.ref D) → Zc (.ref D) (some dd) oe → (∃ vs, oe.data = .fields vs) → ASs (X.suite a ((a, oe) :: pn)) (b₀ :: suite) (h c vs (.exc a dd c vs))) :
    AS X (.Try [st] (.ExceptHandler (some test) (some n) (b₀ :: suite) pos' :: more) [] [] pos) (sTryE cs i g h) := by
  refine ps_w (ps_try_fst (ts := fun a cls d D σ H => ∃ c vs dd, c ∈ cs ∧ X.mg c = some cls ∧ d = some dd ∧ tS X.K (h c vs (.exc a dd c vs)) D σ H) (tb := fun W => tXs X.K X.mg W g) hs hf hN hi hln ht (fun W pn xe tk _ => pss_one (hb W pn xe tk)) ?_) fun D σ H z => ?_
  · intro a oe cls d pn hz hd
    refine ⟨fun pins s σ H D I q => ?_⟩
    obtain ⟨c, vs, dd, hc, hm, rfl, q⟩ := q
    obtain ⟨C, hC, _⟩ := hok c hc
    rw [hC] at hm
    cases hm
    exact (hsu a oe C dd pn c vs hc hC hz hd).run pins s σ H D I q
  · obtain ⟨m, ρ, S, R, r, q⟩ := z
    refine ⟨m, ρ, S, R, r, ?_⟩
    unfold sTryE at q
    cases e : g ρ S with
    | nx ρ1 S1 => rw [e] at q; exact q
    | stuck => rw [e] at q; exact q
    | bk ρ1 S1 => rw [e] at q; exact q
    | ct ρ1 S1 => rw [e] at q; exact q
    | rt v S1 =>
      rw [e] at q
      show PX _ _ _ _ _ _ _ _
      dsimp only at q
      cases hx : isX v with
      | none =>
        rw [hx] at q
        exact (PX.no hx).mpr q
      | some cv =>
        obtain ⟨c, vs⟩ := cv
        rw [hx] at q
        dsimp only at q
        split at q
        · next z =>
          obtain ⟨C, hC, hy⟩ := hok c z.1.1
          refine (PX.yes hx).mpr fun m1 H1 cls1 d E1 R1 x1 => ?_
          have hcl := x1.cl
          rw [hC] at hcl
          cases hcl
          obtain ⟨dd, fs, rfl, hdd, hfl⟩ := x1.fl
          obtain ⟨us, ru, hlk⟩ := us_of z.1.2 hfl
          refine ⟨hy, fun a _ => ⟨c, vs, dd, z.1.1, hC, rfl, m1, ρ.set i (some (.exc a dd c vs)), S1, R1, (r.kp (E1.kp R)).set (.exc hdd hlk ru) i, ?_⟩⟩
          refine Post.clr ?_
          rw [z.2.choose_spec (.exc a dd c vs)]
          exact q.ext E1
        · exact q.elim
section
variable {ρ : Rho} {S : Sto} {N : Rho → Sto → Prop} {R : Val → Sto → Prop} {Q : Val → Sto → Prop} {g : SF} {h : Str → List Val → Val → SF} {cs : List Str} {i : Nat} {fb : EF}
omit [TT] in
theorem ws_tryE (z : Ws (g ρ S) N fun v S' => (isX v = none ∧ R v S') ∨ ∃ c vs r, isX v = some (c, vs) ∧ c ∈ cs ∧ vs.length = (xfs c).length ∧ (∀ xv, clrR i (h c vs xv (ρ.set i (some xv)) S') = r) ∧ Ws r N R) : Ws (sTryE cs i g h ρ S) N R := by
  obtain ⟨z⟩ := z
  unfold sTryE
  cases e : g ρ S with
  | nx ρ1 S1 => rw [e] at z; exact ⟨z⟩
  | stuck => rw [e] at z; exact z.elim
  | bk ρ1 S1 => rw [e] at z; exact z.elim
  | ct ρ1 S1 => rw [e] at z; exact z.elim
  | rt v S1 =>
    rw [e] at z
    dsimp only
    rcases z with ⟨hx, z⟩ | ⟨c, vs, r, hx, hc, hl, hr, z⟩
    · rw [hx]
      exact ⟨z⟩
    · rw [hx]
      dsimp only
      have zz : (c ∈ cs ∧ vs.length = (xfs c).length) ∧ ∃ r, ∀ xv, clrR i (h c vs xv (ρ.set i (some xv)) S1) = r := ⟨⟨hc, hl⟩, r, hr⟩
      rw [dif_pos zz]
      have : zz.2.choose = r := (zz.2.choose_spec .non).symm.trans (hr .non)
      rw [this]
      exact z
omit [TT] in
theorem wXf {xv v : Val} (h : ρ[i]? = some (some xv)) (q : Q v S) : Wp (eXf i xv (some v) ρ S) Q := ⟨_, _, if_pos h, q⟩
end
end AL
namespace AL
open PySem PySem.Spec PyProof.Rows L2 G Th LamX
variable [TT]
end AL
namespace K22
open PySem PySem.Spec PyProof.Rows L2 G Th AL
open K37 (common_divisor_ common_divisor_B ratio_ ratio_B less_ less_B parted_ parted_B drift_of_ drift_of_B moves_into_ moves_into_B history_moves_ history_moves_B)
open K19 (history_steps_ history_steps_B feedL_ feedL_B drawL_ drawL_B fracL_ fracL_B fieldL_ fieldL_B ratesL_ ratesL_B openL_ openL_B drawnL_ drawnL_B barredL_ barredL_B scaledL_ scaledL_B stepsL_ stepsL_B)
open K24 (common_unit_ common_unit_B whole_steps_ whole_steps_B go_over_ go_over_B go_down_ go_down_B ring_behind_ ring_behind_B world_or_ring_ world_or_ring_B ring_of_ ring_of_B only_at_ only_at_B sums_parted_ sums_parted_B steps_leaving_ steps_leaving_B run_clever_ run_clever_B)

noncomputable def bar_number_B : SF := (sIf (bNot (eT (eCh gLe gLt (eC (.int 0)) (eV 1) (eCall gLen (aCons (eB gIxA (eV 0) (eC (.int 1))) aNil))))) (sRaise "NoNumber" (aCons (eV 1) aNil)) sNil)
noncomputable def bar_number_ : FA := runF 2 bar_number_B
noncomputable def bar_ring_B : SF := (sSeq (sAsg (.nm 1) (eDef ring_of_ 1 (aCons (eV 0) aNil)))
    (sIf (eT (eB gIsN (eV 1) (eC .non))) (sRaise "NoWorld" (aCons (eV 1) aNil)) sNil))
noncomputable def bar_ring_ : FA := runF 2 bar_ring_B
noncomputable def reach_clever_B : SF := (sSeq (sExprX (eDef bar_number_ 2 (aCons (eV 0) (aCons (eV 1) aNil))))
    (sSeq (sExprX (eDef bar_ring_ 1 (aCons (eV 0) aNil)))
    (sSeq (sAsg (.tp [(.nm 2), (.nm 3)]) (eDef whole_steps_ 1 (aCons (eDef history_steps_ 1 (aCons (eV 0) aNil)) aNil)))
    (sRetN (eDef sums_parted_ 2 (aCons (eDef run_clever_ 3 (aCons (eV 3) (aCons (eCall gLen (aCons (eB gIxA (eV 0) (eC (.int 1))) aNil)) (aCons (eV 1) aNil)))) (aCons (eV 2) aNil)))))))
noncomputable def reach_clever_ : FA := runF 4 reach_clever_B
noncomputable def reach_B : SF := (sSeq (sExprX (eDef bar_number_ 2 (aCons (eV 0) (aCons (eV 1) aNil))))
    (sSeq (sExprX (eDef bar_number_ 2 (aCons (eV 0) (aCons (eV 2) aNil))))
    (sRet (eBX gIx (eDef reach_clever_ 2 (aCons (eV 0) (aCons (eV 1) aNil))) (eV 2)))))
noncomputable def reach_ : FA := runF 3 reach_B
end K22
namespace AL
open PySem PySem.Spec PyProof.Rows L2 G Th
variable [TT]

def eGl (q : Str) : EF := fun _ S => some (.fn q (TT.cls q), S)
theorem aglF {X : Cx} {pos : Pos} {q : Str} (hg : Gl X q) (hm : X.mg q = some (.ref (TT.cls q))) (hd : (q == ("__debug__" : Str)) = false := by decide) : AE X (.Name q pos) (eGl q) := by
  refine pe_w (pe_glob (v := .ref (TT.cls q)) hg hm rfl hd) fun σ H Q h => ?_
  obtain ⟨m, ρ, S, w, S', R, r, e, z⟩ := h
  cases e
  exact z m _ H (.refl _ _) R (.fn _ _)

def eDefV (i : Nat) (Fs : List (Str × FA)) (n : Nat) (ga : AF) : EF := fun ρ S => match ρ[i]? with
  | some (some (.fn q a)) => if a = TT.cls q then match Fs.lookup q with
    | some F => (ga ρ S).bind fun p => if p.1.length = n then F p.1 p.2 else none
    | none => none
    else none
  | _ => none
section
variable {X : Cx} {W : WX} {i n : Nat} {x : Str} {p pos : Pos} {e : Expr} {es : List Expr} {ga : AF} {Fs : List (Str × FA)}
theorem look_mem {q : Str} {F : FA} : ∀ {Fs : List (Str × FA)}, Fs.lookup q = some F → (q, F) ∈ Fs
  | [], h => by cases h
  | (a, G) :: r, h => by
    rw [List.lookup_cons] at h
    split at h
    · next c =>
      cases h
      rw [beq_iff_eq.mp c]
      exact List.mem_cons_self
    · exact List.mem_cons_of_mem _ (look_mem h)
theorem acdV (D : ∀ z ∈ Fs, X.mg z.1 = some (.ref (TT.cls z.1)) ∧ ∃ k ps, Room k X.A ∧ ps.length = n ∧ DefX X.prog X.w X.K X.mg X.base k z.1 ps z.2) (g : X.A.guards = some []) (hN : X.N[i]? = some x) (hv : Vis X.env.scope x) (tk : Takes X W) (ha : AA X (e :: es) ga)
    (hdb : (x == ("__debug__" : Str)) = false := by decide) (hcd : (x == ("__classdict__" : Str)) = false := by decide)
    (he : starEach (e :: es) X.env = (false, eval e X.env) :: starEach es X.env := by rfl) (hpl : (backTo pos (starEach es X.env)).any (·.1) = false := by rfl) : AEX X W (.Call (.Name x p) (e :: es) [] pos) (eDefV i Fs n ga) := by
  refine ⟨fun pins s σ H Q I h => ?_⟩
  obtain ⟨m, ρ, S, v, S', R, r, ev, q⟩ := h
  unfold eDefV at ev
  split at ev
  · next y a hy =>
    split at ev
    · next ea =>
      subst ea
      split at ev
      · next F hF =>
        obtain ⟨hm, k, ps, hr, hl, f, fd, hFX, hb, hm2, hk⟩ := D _ (look_mem hF)
        subst hl
        dsimp only at hm hm2 hFX
        rw [hm] at hm2
        cases hm2
        obtain ⟨u, h1, h2⟩ := r.at_ i _ hy
        cases h2
        obtain ⟨⟨x1, S1⟩, e1, ev⟩ := Option.bind_eq_some_iff.mp ev
        dsimp only at ev
        split at ev
        · next hl =>
          refine wpAny_Call_Name_kw (thn ((pe_var (pos := p) hN hv hdb hcd).run pins s σ H (fun v H1 => v = .ref (TT.cls y) ∧ H1 = H) I ⟨_, h1, rfl, rfl⟩) fun u s1 ⟨v1, H1, I1, r1, q1⟩ => ?_)
          obtain ⟨e3, e4⟩ := q1
          subst e4
          subst e3
          cases r1
          refine PySem.W.callWith_K (h₀ := X.base) I.ok.mod.kin hk (thn (ha.run pos pins s1 σ H1 (fun us H1 => spX X.K X.mg ps.length F us H1 Q (WE W σ)) I1 ⟨m, ρ, S, x1, S1, R, r, e1, fun m1 us H1 E1 R1 r1 => ⟨by rw [r1.len]; exact hl, m1, S1, x1, v, S', R1, r1, ev, q.ext E1⟩⟩) ?_) he hpl
          rintro us s2 ⟨vs, H2, I2, r2, q2⟩
          exact ⟨I2.kIn, run_x hFX g hr hb tk I2 r2 q2⟩
        · cases ev
      · cases ev
    · cases ev
  · cases ev
end
section
variable {S : Sto} {ρ : Rho} {i n : Nat} {ga : AF} {Fs : List (Str × FA)}
theorem wGl {q : Str} {Q : Val → Sto → Prop} (h : Q (.fn q (TT.cls q)) S) : Wp (eGl q ρ S) Q := ⟨_, _, rfl, h⟩
theorem wDefV {q : Str} {F : FA} {Q : Val → Sto → Prop} (h : ρ[i]? = some (some (.fn q (TT.cls q)))) (hF : Fs.lookup q = some F) (z : Wp (ga ρ S) fun vs S1 => Sd (vs.length = n) (Wp (F vs S1) Q)) : Wp (eDefV i Fs n ga ρ S) Q := by
  have e : eDefV i Fs n ga ρ S = (ga ρ S).bind fun p => if p.1.length = n then F p.1 p.2 else none := by
    unfold eDefV
    rw [h]
    dsimp only
    rw [if_pos rfl, hF]
  rw [e]
  exact Wp.bind (z.imp fun x S1 h => by
    show Wp (if x.length = n then F x S1 else none) Q
    rw [if_pos h.1]
    exact h.2)
end
end AL
namespace K27
open PySem PySem.Spec PyProof.Rows L2 G Th AL
open K37 (common_divisor_ common_divisor_B ratio_ ratio_B added_ added_B less_ less_B parted_ parted_B is_below_ is_below_B drift_of_ drift_of_B moves_into_ moves_into_B history_moves_ history_moves_B)
open K19 (history_steps_ history_steps_B feedL_ feedL_B drawL_ drawL_B fracL_ fracL_B fieldL_ fieldL_B ratesL_ ratesL_B openL_ openL_B drawnL_ drawnL_B barredL_ barredL_B)
open K24 (common_unit_ common_unit_B whole_steps_ whole_steps_B go_over_ go_over_B go_down_ go_down_B ring_behind_ ring_behind_B world_or_ring_ world_or_ring_B ring_of_ ring_of_B sums_parted_ sums_parted_B only_at_ only_at_B steps_leaving_ steps_leaving_B run_clever_ run_clever_B)
open K30 (is_number_ is_number_B is_fraction_ is_fraction_B are_fractions_ are_fractions_B world_bars_ world_bars_B)
open K22 (bar_number_ bar_number_B bar_ring_ bar_ring_B reach_clever_ reach_clever_B reach_ reach_B)
variable [AL.TT]
noncomputable def are_numbers_B : SF := (sRet (eAnd (eU (gIsi "tuple") (eV 0)) (eCall gAll (aCons (eLc (.nm 1) (iSeq (eV 0)) bYes (eDef is_number_ 1 (aCons (eV 1) aNil)) [1]) aNil))))
noncomputable def are_numbers_ : FA := runF 2 are_numbers_B
noncomputable def sum_along_B : SF := (sSeq (sAsg (.nm 2) (eC (.tup [.int 0, .int 1])))
    (sSeq (sFor (.nm 3) (iSeq (eV 1)) (sAsg (.nm 2) (eDef added_ 2 (aCons (eV 2) (aCons (eB gIxA (eB gIxA (eV 0) (eV 3)) (eC (.int 2))) aNil)))))
    (sRet (eV 2))))
noncomputable def sum_along_ : FA := runF 4 sum_along_B
noncomputable def lets_ring_B : SF := (sSeq (sIf (bOr (bNot (eT (eDef are_numbers_ 1 (aCons (eV 1) aNil)))) (eT (eB gEq (eCall gLen (aCons (eV 1) aNil)) (eC (.int 0))))) (sRaise "NoPaper" (aCons (eC (.str "shape")) (aCons (eU gNeg (eC (.int 1))) aNil))) sNil)
    (sSeq (sAsg (.nm 2) (eDef history_steps_ 1 (aCons (eV 0) aNil)))
    (sSeq (sFor (.tp [(.nm 5), (.nm 6)]) (iEn (aCons (eV 1) aNil)) (sIf (bNot (eT (eCh gLe gLt (eC (.int 0)) (eV 6) (eCall gLen (aCons (eV 2) aNil))))) (sRaise "NoPaper" (aCons (eC (.str "step")) (aCons (eV 5) aNil))) sNil))
    (sSeq (sAsg (.nm 3) (eB gIxA (eB gIxA (eV 2) (eB gIxA (eV 1) (eU gNeg (eC (.int 1))))) (eC (.int 1))))
    (sSeq (sFor (.tp [(.nm 5), (.nm 6)]) (iEn (aCons (eV 1) aNil)) (sSeq (sIf (eT (eB gNe (eB gIxA (eB gIxA (eV 2) (eV 6)) (eC (.int 0))) (eV 3))) (sRaise "NoPaper" (aCons (eC (.str "from")) (aCons (eV 5) aNil))) sNil)
    (sAsg (.nm 3) (eB gIxA (eB gIxA (eV 2) (eV 6)) (eC (.int 1))))))
    (sSeq (sAsg (.nm 4) (eDef sum_along_ 2 (aCons (eV 2) (aCons (eV 1) aNil))))
    (sSeq (sIf (bNot (eT (eDef is_below_ 2 (aCons (eV 4) (aCons (eC (.tup [.int 0, .int 1])) aNil))))) (sRaise "NoPaper" (aCons (eC (.str "sum")) (aCons (eU gNeg (eC (.int 1))) aNil))) sNil)
    (sRetN (eV 4)))))))))
noncomputable def lets_ring_ : FA := runF 7 lets_ring_B
noncomputable def lets_world_B : SF := (sSeq (sIf (bNot (eT (eDef are_fractions_ 1 (aCons (eV 1) aNil)))) (sRaise "NoPaper" (aCons (eC (.str "shape")) (aCons (eU gNeg (eC (.int 1))) aNil))) sNil)
    (sSeq (sIf (eT (eB gNe (eCall gLen (aCons (eV 1) aNil)) (eCall gLen (aCons (eB gIxA (eV 0) (eC (.int 1))) aNil)))) (sRaise "NoPaper" (aCons (eC (.str "many")) (aCons (eU gNeg (eC (.int 1))) aNil))) sNil)
    (sSeq (sAsg (.nm 2) (eDef world_bars_ 2 (aCons (eV 0) (aCons (eV 1) aNil))))
    (sSeq (sIf (eT (eB gIsN (eV 2) (eC .non))) (sRaise "NoPaper" (aCons (eC (.str "step")) (aCons (eV 2) aNil))) sNil)
    (sRetN (eCall gLen (aCons (eV 1) aNil)))))))
noncomputable def lets_world_ : FA := runF 3 lets_world_B
noncomputable def letL_B : SF := (sSeq (sAsg (.nm 3) (eC .non))
    (sSeq (sTry (sAsgX (.nm 3) (eDefV 0 [("lets_ring", lets_ring_), ("lets_world", lets_world_)] 2 (aCons (eV 1) (aCons (eV 2) aNil)))) "NoPaper" (sAsg (.nm 3) (eC .non)))
    (sRet (eV 3))))
noncomputable def letL_ : FA := runF 4 letL_B
noncomputable def barringL_S_NoWorld (vs : List Val) (xv : Val) : SF := (sAsg (.nm 1) (eXf 2 xv vs[0]?))
noncomputable def barringL_H (c : Str) (vs : List Val) (xv : Val) : SF := if c = "NoWorld" then barringL_S_NoWorld vs xv else sStuck
noncomputable def barringL_B : SF := (sSeq (sAsg (.nm 1) (eC .non))
    (sSeq (sTryE ["NoWorld"] 2 (sExprX (eDef reach_ 3 (aCons (eV 0) (aCons (eC (.int 0)) (aCons (eB gSub (eCall gLen (aCons (eB gIxA (eV 0) (eC (.int 1))) aNil)) (eC (.int 1))) aNil))))) barringL_H)
    (sRet (eV 1))))
noncomputable def barringL_ : FA := runF 3 barringL_B
noncomputable def rightL_B : SF := (sSeq (sAsg (.tp [(.nm 2), (.nm 3)]) (eDef world_or_ring_ 1 (aCons (eV 0) aNil)))
    (sSeq (sPar [4, 5] (aCons (eDef ring_of_ 1 (aCons (eV 0) aNil)) (aCons (eDef barringL_ 1 (aCons (eV 0) aNil)) aNil)))
    (sSeq (sIf (eT (eB gEq (eV 2) (eC (.str "world")))) (sSeq (sAsg (.nm 6) (eCall gTuple (aCons (eLc (.nm 8) (iSeq (eV 3)) bYes (eDef fracL_ 2 (aCons (eB gAdd (eB gMul (eB gIxA (eV 8) (eC (.int 0))) (eC (.int 3))) (eB gMul (eC (.int 7)) (eB gIxA (eV 8) (eC (.int 1))))) (aCons (eB gMul (eC (.int 3)) (eB gIxA (eV 8) (eC (.int 1)))) aNil))) [8]) aNil)))
    (sSeq (sIf (bOr (eT (eB gIsN (eV 4) (eC .non))) (bOr (eT (eB gIsN (eV 5) (eC .non))) (eT (eB gIsN (eDef letL_ 3 (aCons (eGl "lets_ring") (aCons (eV 0) (aCons (eTup (aCons (eC (.int 0)) (aCons (eC (.int 1)) aNil))) aNil)))) (eC .non))))) (sRet (eC (.bl false))) sNil)
    (sRet (eB gEq (eLc (.nm 7) (iSeq (eTup (aCons (eV 3) (aCons (eV 6) aNil)))) bYes (eDef letL_ 3 (aCons (eGl "lets_world") (aCons (eV 0) (aCons (eV 7) aNil)))) [7]) (eB gRep (eLst (aCons (eCall gLen (aCons (eV 3) aNil)) aNil)) (eC (.int 2))))))) sNil)
    (sSeq (sIf (bOr (eT (eB gNe (eV 2) (eC (.str "ring")))) (eT (eB gIsN (eDef letL_ 3 (aCons (eGl "lets_world") (aCons (eV 0) (aCons (eV 1) aNil)))) (eC .non)))) (sRet (eC (.bl false))) sNil)
    (sRet (eB (gInD true) (eC .non) (eLc (.nm 7) (iSeq (eTup (aCons (eV 3) (aCons (eV 4) (aCons (eV 5) aNil))))) (eT (eB gIsN (eV 7) (eC .non))) (eDef letL_ 3 (aCons (eGl "lets_ring") (aCons (eV 0) (aCons (eV 7) aNil)))) [7])))))))
noncomputable def rightL_ : FA := runF 9 rightL_B
noncomputable def law_B : SF := (sSeq (sAsg (.nm 1) (eDef feedL_ 1 (aCons (eV 0) aNil)))
    (sSeq (sFor (.nm 2) (iRg1 (aCons (eC (.int 3)) aNil)) (sSeq (sAsg (.tp [(.nm 5), (.nm 6)]) (eDef drawnL_ 3 (aCons (eV 1) (aCons (eC (.int 4)) (aCons (eB gAdd (eC (.int 2)) (eDef drawL_ 2 (aCons (eV 1) (aCons (eC (.int 13)) aNil)))) aNil)))))
    (sSeq (sIf (bOr (eT (eB gNe (eB gIxA (eDef world_or_ring_ 1 (aCons (eV 5) aNil)) (eC (.int 0))) (eC (.str "world")))) (eT (eB gNe (eDef letL_ 3 (aCons (eGl "lets_world") (aCons (eV 5) (aCons (eV 6) aNil)))) (eCall gLen (aCons (eV 6) aNil))))) (sRet (eC (.bl false))) sNil)
    (sSeq (sAsg (.nm 3) (eV 5))
    (sFor (.nm 4) (iRg1 (aCons (eC (.int 3)) aNil)) (sSeq (sAsg (.nm 3) (eDef barredL_ 2 (aCons (eV 1) (aCons (eV 3) aNil))))
    (sSeq (sIf (bNot (eT (eDef rightL_ 2 (aCons (eV 3) (aCons (eV 6) aNil))))) (sRet (eC (.bl false))) sNil)
    (sIf (bAnd (eT (eB gEq (eB gIxA (eDef world_or_ring_ 1 (aCons (eV 3) aNil)) (eC (.int 0))) (eC (.str "ring")))) (bOr (eT (eB gIs (eDef ring_of_ 1 (aCons (eV 3) aNil)) (eC .non))) (eT (eB gIs (eDef barringL_ 1 (aCons (eV 3) aNil)) (eC .non))))) (sRet (eC (.bl false))) sNil))))))))
    (sRet (eC (.bl true)))))
noncomputable def law_ : FA := runF 7 law_B
end K27
namespace K27
open PySem PySem.Spec PyProof.Rows L2 G Th AL
open K37 (common_divisor_ common_divisor_B ratio_ ratio_B added_ added_B less_ less_B parted_ parted_B is_below_ is_below_B drift_of_ drift_of_B moves_into_ moves_into_B history_moves_ history_moves_B)
open K19 (history_steps_ history_steps_B feedL_ feedL_B drawL_ drawL_B fracL_ fracL_B fieldL_ fieldL_B ratesL_ ratesL_B openL_ openL_B drawnL_ drawnL_B barredL_ barredL_B)
open K24 (common_unit_ common_unit_B whole_steps_ whole_steps_B go_over_ go_over_B go_down_ go_down_B ring_behind_ ring_behind_B world_or_ring_ world_or_ring_B ring_of_ ring_of_B sums_parted_ sums_parted_B only_at_ only_at_B steps_leaving_ steps_leaving_B run_clever_ run_clever_B)
open K30 (is_number_ is_number_B is_fraction_ is_fraction_B are_fractions_ are_fractions_B world_bars_ world_bars_B)
open K22 (bar_number_ bar_number_B bar_ring_ bar_ring_B reach_clever_ reach_clever_B reach_ reach_B)
def topS (i : Nat) : Stmt := PySem.Challenge.pw_ledclocks_k27_whole_world_or_ring.main.body.getD i (.Pass ⟨0, 0, 0, 0⟩)
section
variable {P : Program} {w : World} {K : PySem.W.Frag} {mg : Str → Option Value} {base : Heap}
variable [AL.TT]
def ss_i_NoNumber : {s : Stmt // (clsB (topS 31)).getD 0 (.Pass ⟨0, 0, 0, 0⟩) = s} := by
  refine ⟨?l, ?h⟩
  case h =>
    conv => lhs; whnf
abbrev st_i_NoNumber : Stmt := ss_i_NoNumber.1
theorem sc_i_NoNumber : FnScope ["self", "number"] ["self", "number"] (defScope st_i_NoNumber) := ⟨rfl, rfl, rfl, by decide +kernel, rfl, by decide +kernel, by decide +kernel⟩
theorem kn_NoNumber {C fI : Addr} {fd : FuncData} (T : OexL K C) (iC : PySem.W.findIn K (.ref C) "__init__" = some (some (.ref fI))) (tI : PySem.W.typeIn K (.ref fI) = some (.type "function")) (hm : mg "NoNumber" = some (.ref C)) (F : Fun K "__init__" "NoNumber.__init__" st_i_NoNumber fI fd) (hb : Binds K fd ["self", "number"] []) (n0 : PySem.W.findIn K (.ref C) "number" = some none) : KnX P w K mg base "NoNumber" :=
  ⟨C, fI, fd, T, iC, tI, hm, .inl ⟨"number", rfl, init1 F sc_i_NoNumber T n0 rfl (by first | exact Or.inl rfl | exact Or.inr (Or.inl rfl) | exact Or.inr (Or.inr rfl)) (by first | exact Or.inl rfl | exact Or.inr (Or.inl rfl) | exact Or.inr (Or.inr rfl)) (by decide) (by decide), hb⟩⟩
def ss_i_NoPaper : {s : Stmt // (clsB (topS 29)).getD 0 (.Pass ⟨0, 0, 0, 0⟩) = s} := by
  refine ⟨?l, ?h⟩
  case h =>
    conv => lhs; whnf
abbrev st_i_NoPaper : Stmt := ss_i_NoPaper.1
theorem sc_i_NoPaper : FnScope ["self", "word", "at"] ["self", "word", "at"] (defScope st_i_NoPaper) := ⟨rfl, rfl, rfl, by decide +kernel, rfl, by decide +kernel, by decide +kernel⟩
theorem kn_NoPaper {C fI : Addr} {fd : FuncData} (T : OexC K C) (iC : PySem.W.findIn K (.ref C) "__init__" = some (some (.ref fI))) (tI : PySem.W.typeIn K (.ref fI) = some (.type "function")) (hm : mg "NoPaper" = some (.ref C)) (F : Fun K "__init__" "NoPaper.__init__" st_i_NoPaper fI fd) (hb : Binds K fd ["self", "word", "at"] []) (n0 : PySem.W.findIn K (.ref C) "word" = some none) (n1 : PySem.W.findIn K (.ref C) "at" = some none) : KnX P w K mg base "NoPaper" :=
  ⟨C, fI, fd, T, iC, tI, hm, .inr ⟨"word", "at", rfl, by decide, init2 F sc_i_NoPaper T n0 n1 rfl (by first | exact Or.inl rfl | exact Or.inr (Or.inl rfl) | exact Or.inr (Or.inr rfl)) (by first | exact Or.inl rfl | exact Or.inr (Or.inl rfl) | exact Or.inr (Or.inr rfl)) (by first | exact Or.inl rfl | exact Or.inr (Or.inl rfl) | exact Or.inr (Or.inr rfl)) (by decide) (by decide) (by decide) (by decide), hb⟩⟩
def ss_i_NoWorld : {s : Stmt // (clsB (topS 30)).getD 0 (.Pass ⟨0, 0, 0, 0⟩) = s} := by
  refine ⟨?l, ?h⟩
  case h =>
    conv => lhs; whnf
abbrev st_i_NoWorld : Stmt := ss_i_NoWorld.1
theorem sc_i_NoWorld : FnScope ["self", "ring"] ["self", "ring"] (defScope st_i_NoWorld) := ⟨rfl, rfl, rfl, by decide +kernel, rfl, by decide +kernel, by decide +kernel⟩
theorem kn_NoWorld {C fI : Addr} {fd : FuncData} (T : OexC K C) (iC : PySem.W.findIn K (.ref C) "__init__" = some (some (.ref fI))) (tI : PySem.W.typeIn K (.ref fI) = some (.type "function")) (hm : mg "NoWorld" = some (.ref C)) (F : Fun K "__init__" "NoWorld.__init__" st_i_NoWorld fI fd) (hb : Binds K fd ["self", "ring"] []) (n0 : PySem.W.findIn K (.ref C) "ring" = some none) : KnX P w K mg base "NoWorld" :=
  ⟨C, fI, fd, T, iC, tI, hm, .inl ⟨"ring", rfl, init1 F sc_i_NoWorld T n0 rfl (by first | exact Or.inl rfl | exact Or.inr (Or.inl rfl) | exact Or.inr (Or.inr rfl)) (by first | exact Or.inl rfl | exact Or.inr (Or.inl rfl) | exact Or.inr (Or.inr rfl)) (by decide) (by decide), hb⟩⟩
def ss_is_number_ : {s : Stmt // topS 1 = s} := by
  refine ⟨?l, ?h⟩
  case h =>
    conv => lhs; whnf
abbrev st_is_number_ : Stmt := ss_is_number_.1
theorem sc_is_number_ : FnScope ["thing"] ["thing"] (defScope st_is_number_) := ⟨rfl, rfl, rfl, by decide +kernel, rfl, by decide +kernel, by decide +kernel⟩
theorem ok_is_number_ {f : Addr} {fd : FuncData} (F : Fun K "is_number" "is_number" st_is_number_ f fd) (hb : Binds K fd ["thing"] []) (hm : mg "is_number" = some (.ref f)) (m_isinstance : mg "isinstance" = none) (m_int : mg "int" = none) (m_bool : mg "bool" = none) : Def P w K mg base 1 "is_number" ["thing"] is_number_ :=
  fn_a F sc_is_number_ hb hm (g := is_number_B) fun cdv A outer s H E hg hr => (as1 (asr (aand (aisi (by rfl) m_isinstance (by rfl) m_int (by decide +kernel) (av 0)) (ae1 (anot (aisi (by rfl) m_isinstance (by rfl) m_bool (by decide +kernel) (av 0)))))))
def ss_are_numbers_ : {s : Stmt // topS 2 = s} := by
  refine ⟨?l, ?h⟩
  case h =>
    conv => lhs; whnf
abbrev st_are_numbers_ : Stmt := ss_are_numbers_.1
abbrev sc_are_numbers_N : List Str := ["thing", "number"]
abbrev sc_are_numbers_S : Scope := defScope st_are_numbers_
theorem sc_are_numbers_ : FnScope ["thing", "number"] ["thing"] (defScope st_are_numbers_) := ⟨rfl, rfl, rfl, by decide +kernel, rfl, by decide +kernel, by decide +kernel⟩
theorem ok_are_numbers_ {f : Addr} {fd : FuncData} (F : Fun K "are_numbers" "are_numbers" st_are_numbers_ f fd) (hb : Binds K fd ["thing"] []) (hm : mg "are_numbers" = some (.ref f)) (d_is_number_ : Def P w K mg base 1 "is_number" ["thing"] is_number_) (m_isinstance : mg "isinstance" = none) (m_tuple : mg "tuple" = none) (m_all : mg "all" = none) : Def P w K mg base 2 "are_numbers" ["thing"] are_numbers_ :=
  fn_a F sc_are_numbers_ hb hm (g := are_numbers_B) fun cdv A outer s H E hg hr => (as1 (asr (aand (aisi (by rfl) m_isinstance (by rfl) m_tuple (by decide +kernel) (av 0)) (ae1 (acb (cr_all rfl) cAll (by rfl) m_all (by decide +kernel) (aac (alc (own := [("number", 1)]) rfl sc_are_numbers_.nd (ais (av 0)) (blkOk_by (own := [("number", 1)]) (N := sc_are_numbers_N) (sc := sc_are_numbers_S) (by decide +kernel)) (by simp [Pat.slots, Pat.slotss]) (fun _ _ _ _ _ => (agn (i := 1) sc_are_numbers_.nd rfl (.inl rfl))) (fun _ _ _ _ _ => ats0) (fun _ _ _ _ _ => (acd d_is_number_ hg (hr.mono (by decide)) (by rfl) (aac (av 1) aan)))) aan))))))
def ss_common_divisor_ : {s : Stmt // topS 6 = s} := by
  refine ⟨?l, ?h⟩
  case h =>
    conv => lhs; whnf
abbrev st_common_divisor_ : Stmt := ss_common_divisor_.1
theorem sc_common_divisor_ : FnScope ["a", "b"] ["a", "b"] (defScope st_common_divisor_) := ⟨rfl, rfl, rfl, by decide +kernel, rfl, by decide +kernel, by decide +kernel⟩
theorem ok_common_divisor_ {f : Addr} {fd : FuncData} (F : Fun K "common_divisor" "common_divisor" st_common_divisor_ f fd) (hb : Binds K fd ["a", "b"] []) (hm : mg "common_divisor" = some (.ref f)) (m_abs : mg "abs" = none) : Def P w K mg base 1 "common_divisor" ["a", "b"] common_divisor_ :=
  fn_a F sc_common_divisor_ hb hm (g := common_divisor_B) fun cdv A outer s H E hg hr => (asq (asw PassesOwn.never (atc (op_neA hr.units) oNe (av 1) ai (nomark _)) (as1 (asp2' (ps_par (i := 0) (j := 1) (by rfl) sc_common_divisor_.nd rfl rfl (by decide) rfl rfl (aac (av 1) (aac (aop op_modN oMod (av 0) (av 1)) aan)) (by rfl)))))
    (as1 (asr (acb call_abs cAbs (by rfl) m_abs boot_abs (aac (av 0) aan)))))
def ss_is_fraction_ : {s : Stmt // topS 5 = s} := by
  refine ⟨?l, ?h⟩
  case h =>
    conv => lhs; whnf
abbrev st_is_fraction_ : Stmt := ss_is_fraction_.1
theorem sc_is_fraction_ : FnScope ["thing", "a", "b"] ["thing"] (defScope st_is_fraction_) := ⟨rfl, rfl, rfl, by decide +kernel, rfl, by decide +kernel, by decide +kernel⟩
theorem ok_is_fraction_ {f : Addr} {fd : FuncData} (F : Fun K "is_fraction" "is_fraction" st_is_fraction_ f fd) (hb : Binds K fd ["thing"] []) (hm : mg "is_fraction" = some (.ref f)) (d_is_number_ : Def P w K mg base 1 "is_number" ["thing"] is_number_) (d_common_divisor_ : Def P w K mg base 1 "common_divisor" ["a", "b"] common_divisor_) (m_isinstance : mg "isinstance" = none) (m_tuple : mg "tuple" = none) (m_len : mg "len" = none) : Def P w K mg base 2 "is_fraction" ["thing"] is_fraction_ :=
  fn_a F sc_is_fraction_ hb hm (g := is_fraction_B) fun cdv A outer s H E hg hr => (asq (asi (atw (awo (atn (atv (aisi (by rfl) m_isinstance (by rfl) m_tuple (by decide +kernel) (av 0)))) (awo1 (atc (op_neA hr.units) oNe (acb call_lenA cLen (by rfl) m_len PySem.boot_len (aac (av 0) aan)) ai (nomark _))))) (as1 (asr abl)) asn)
    (asq (asa (av 0) (agt rfl (agl (agn (i := 1) sc_is_fraction_.nd rfl (.inl rfl)) (agl (agn (i := 2) sc_is_fraction_.nd rfl (.inl rfl)) agl0))))
    (as1 (asr (aand (acd d_is_number_ hg (hr.mono (by decide)) (by rfl) (aac (av 1) aan)) (aand (acd d_is_number_ hg (hr.mono (by decide)) (by rfl) (aac (av 2) aan)) (aand (acm op_gt oGt (av 2) ai (nomark _)) (ae1 (acm (op_eqA hr.units) oEq (acd d_common_divisor_ hg (hr.mono (by decide)) (by rfl) (aac (av 1) (aac (av 2) aan))) ai (nomark _))))))))))
def ss_ratio_ : {s : Stmt // topS 7 = s} := by
  refine ⟨?l, ?h⟩
  case h =>
    conv => lhs; whnf
abbrev st_ratio_ : Stmt := ss_ratio_.1
theorem sc_ratio_ : FnScope ["a", "b", "divisor"] ["a", "b"] (defScope st_ratio_) := ⟨rfl, rfl, rfl, by decide +kernel, rfl, by decide +kernel, by decide +kernel⟩
theorem ok_ratio_ {f : Addr} {fd : FuncData} (F : Fun K "ratio" "ratio" st_ratio_ f fd) (hb : Binds K fd ["a", "b"] []) (hm : mg "ratio" = some (.ref f)) (d_common_divisor_ : Def P w K mg base 1 "common_divisor" ["a", "b"] common_divisor_) : Def P w K mg base 2 "ratio" ["a", "b"] ratio_ :=
  fn_a F sc_ratio_ hb hm (g := ratio_B) fun cdv A outer s H E hg hr => (asq (asi (atc op_lt oLt (av 1) ai (nomark _)) (as1 (asp2' (ps_par (i := 0) (j := 1) (by rfl) sc_ratio_.nd rfl rfl (by decide) rfl rfl (aac (aun un_neg oNeg (av 0)) (aac (aun un_neg oNeg (av 1)) aan)) (by rfl)))) asn)
    (asq (ass (i := 2) sc_ratio_.nd rfl (.inl rfl) (acd d_common_divisor_ hg (hr.mono (by decide)) (by rfl) (aac (av 0) (aac (av 1) aan))))
    (as1 (asr (atup (aac (aop op_fdivW oDiv (av 0) (av 2)) (aac (aop op_fdivW oDiv (av 1) (av 2)) aan)))))))
def ss_added_ : {s : Stmt // topS 8 = s} := by
  refine ⟨?l, ?h⟩
  case h =>
    conv => lhs; whnf
abbrev st_added_ : Stmt := ss_added_.1
theorem sc_added_ : FnScope ["one", "other"] ["one", "other"] (defScope st_added_) := ⟨rfl, rfl, rfl, by decide +kernel, rfl, by decide +kernel, by decide +kernel⟩
theorem ok_added_ {f : Addr} {fd : FuncData} (F : Fun K "added" "added" st_added_ f fd) (hb : Binds K fd ["one", "other"] []) (hm : mg "added" = some (.ref f)) (d_ratio_ : Def P w K mg base 2 "ratio" ["a", "b"] ratio_) : Def P w K mg base 3 "added" ["one", "other"] added_ :=
  fn_a F sc_added_ hb hm (g := added_B) fun cdv A outer s H E hg hr => (as1 (asr (acd d_ratio_ hg (hr.mono (by decide)) (by rfl) (aac (aop op_addA oAdd (aop op_mulW oMul (aixA (hu_of hr) (av 0) ai (fun _ _ => rfl) (fun _ _ => rfl)) (aixA (hu_of hr) (av 1) ai (fun _ _ => rfl) (fun _ _ => rfl))) (aop op_mulW oMul (aixA (hu_of hr) (av 1) ai (fun _ _ => rfl) (fun _ _ => rfl)) (aixA (hu_of hr) (av 0) ai (fun _ _ => rfl) (fun _ _ => rfl)))) (aac (aop op_mulW oMul (aixA (hu_of hr) (av 0) ai (fun _ _ => rfl) (fun _ _ => rfl)) (aixA (hu_of hr) (av 1) ai (fun _ _ => rfl) (fun _ _ => rfl))) aan)))))
def ss_less_ : {s : Stmt // topS 9 = s} := by
  refine ⟨?l, ?h⟩
  case h =>
    conv => lhs; whnf
abbrev st_less_ : Stmt := ss_less_.1
theorem sc_less_ : FnScope ["one", "other"] ["one", "other"] (defScope st_less_) := ⟨rfl, rfl, rfl, by decide +kernel, rfl, by decide +kernel, by decide +kernel⟩
theorem ok_less_ {f : Addr} {fd : FuncData} (F : Fun K "less" "less" st_less_ f fd) (hb : Binds K fd ["one", "other"] []) (hm : mg "less" = some (.ref f)) (d_ratio_ : Def P w K mg base 2 "ratio" ["a", "b"] ratio_) : Def P w K mg base 3 "less" ["one", "other"] less_ :=
  fn_a F sc_less_ hb hm (g := less_B) fun cdv A outer s H E hg hr => (as1 (asr (acd d_ratio_ hg (hr.mono (by decide)) (by rfl) (aac (aop op_sub oSub (aop op_mulW oMul (aixA (hu_of hr) (av 0) ai (fun _ _ => rfl) (fun _ _ => rfl)) (aixA (hu_of hr) (av 1) ai (fun _ _ => rfl) (fun _ _ => rfl))) (aop op_mulW oMul (aixA (hu_of hr) (av 1) ai (fun _ _ => rfl) (fun _ _ => rfl)) (aixA (hu_of hr) (av 0) ai (fun _ _ => rfl) (fun _ _ => rfl)))) (aac (aop op_mulW oMul (aixA (hu_of hr) (av 0) ai (fun _ _ => rfl) (fun _ _ => rfl)) (aixA (hu_of hr) (av 1) ai (fun _ _ => rfl) (fun _ _ => rfl))) aan)))))
def ss_parted_ : {s : Stmt // topS 10 = s} := by
  refine ⟨?l, ?h⟩
  case h =>
    conv => lhs; whnf
abbrev st_parted_ : Stmt := ss_parted_.1
theorem sc_parted_ : FnScope ["one", "other"] ["one", "other"] (defScope st_parted_) := ⟨rfl, rfl, rfl, by decide +kernel, rfl, by decide +kernel, by decide +kernel⟩
theorem ok_parted_ {f : Addr} {fd : FuncData} (F : Fun K "parted" "parted" st_parted_ f fd) (hb : Binds K fd ["one", "other"] []) (hm : mg "parted" = some (.ref f)) (d_ratio_ : Def P w K mg base 2 "ratio" ["a", "b"] ratio_) : Def P w K mg base 3 "parted" ["one", "other"] parted_ :=
  fn_a F sc_parted_ hb hm (g := parted_B) fun cdv A outer s H E hg hr => (as1 (asr (acd d_ratio_ hg (hr.mono (by decide)) (by rfl) (aac (aop op_mulW oMul (aixA (hu_of hr) (av 0) ai (fun _ _ => rfl) (fun _ _ => rfl)) (aixA (hu_of hr) (av 1) ai (fun _ _ => rfl) (fun _ _ => rfl))) (aac (aop op_mulW oMul (aixA (hu_of hr) (av 0) ai (fun _ _ => rfl) (fun _ _ => rfl)) (aixA (hu_of hr) (av 1) ai (fun _ _ => rfl) (fun _ _ => rfl))) aan)))))
def ss_is_below_ : {s : Stmt // topS 11 = s} := by
  refine ⟨?l, ?h⟩
  case h =>
    conv => lhs; whnf
abbrev st_is_below_ : Stmt := ss_is_below_.1
theorem sc_is_below_ : FnScope ["one", "other"] ["one", "other"] (defScope st_is_below_) := ⟨rfl, rfl, rfl, by decide +kernel, rfl, by decide +kernel, by decide +kernel⟩
theorem ok_is_below_ {f : Addr} {fd : FuncData} (F : Fun K "is_below" "is_below" st_is_below_ f fd) (hb : Binds K fd ["one", "other"] []) (hm : mg "is_below" = some (.ref f)) : Def P w K mg base 1 "is_below" ["one", "other"] is_below_ :=
  fn_a F sc_is_below_ hb hm (g := is_below_B) fun cdv A outer s H E hg hr => (as1 (asr (acm op_lt oLt (aop op_mulW oMul (aixA (hu_of hr) (av 0) ai (fun _ _ => rfl) (fun _ _ => rfl)) (aixA (hu_of hr) (av 1) ai (fun _ _ => rfl) (fun _ _ => rfl))) (aop op_mulW oMul (aixA (hu_of hr) (av 1) ai (fun _ _ => rfl) (fun _ _ => rfl)) (aixA (hu_of hr) (av 0) ai (fun _ _ => rfl) (fun _ _ => rfl))) (nomark _))))
def ss_common_unit_ : {s : Stmt // topS 12 = s} := by
  refine ⟨?l, ?h⟩
  case h =>
    conv => lhs; whnf
abbrev st_common_unit_ : Stmt := ss_common_unit_.1
theorem sc_common_unit_ : FnScope ["fractions", "unit", "fraction"] ["fractions"] (defScope st_common_unit_) := ⟨rfl, rfl, rfl, by decide +kernel, rfl, by decide +kernel, by decide +kernel⟩
theorem ok_common_unit_ {f : Addr} {fd : FuncData} (F : Fun K "common_unit" "common_unit" st_common_unit_ f fd) (hb : Binds K fd ["fractions"] []) (hm : mg "common_unit" = some (.ref f)) (d_common_divisor_ : Def P w K mg base 1 "common_divisor" ["a", "b"] common_divisor_) : Def P w K mg base 2 "common_unit" ["fractions"] common_unit_ :=
  fn_a F sc_common_unit_ hb hm (g := common_unit_B) fun cdv A outer s H E hg hr => (asq (ass (i := 1) sc_common_unit_.nd rfl (.inl rfl) ai)
    (asq (asf PassesOwn.never rfl (ais (av 0)) (agn (i := 2) sc_common_unit_.nd rfl (.inl rfl)) (as1 (ass (i := 1) sc_common_unit_.nd rfl (.inl rfl) (aop op_mulW oMul (aop op_fdivW oDiv (av 1) (acd d_common_divisor_ hg (hr.mono (by decide)) (by rfl) (aac (av 1) (aac (aixA (hu_of hr) (av 2) ai (fun _ _ => rfl) (fun _ _ => rfl)) aan)))) (aixA (hu_of hr) (av 2) ai (fun _ _ => rfl) (fun _ _ => rfl))))))
    (as1 (asr (av 1)))))
def ss_drift_of_ : {s : Stmt // topS 14 = s} := by
  refine ⟨?l, ?h⟩
  case h =>
    conv => lhs; whnf
abbrev st_drift_of_ : Stmt := ss_drift_of_.1
theorem sc_drift_of_ : FnScope ["field", "name", "house", "slow", "fast"] ["field", "name"] (defScope st_drift_of_) := ⟨rfl, rfl, rfl, by decide +kernel, rfl, by decide +kernel, by decide +kernel⟩
theorem ok_drift_of_ {f : Addr} {fd : FuncData} (F : Fun K "drift_of" "drift_of" st_drift_of_ f fd) (hb : Binds K fd ["field", "name"] []) (hm : mg "drift_of" = some (.ref f)) : Def P w K mg base 1 "drift_of" ["field", "name"] drift_of_ :=
  fn_a F sc_drift_of_ hb hm (g := drift_of_B) fun cdv A outer s H E hg hr => (asq (asf PassesOwn.never rfl (ais (aixA (hu_of hr) (av 0) ai (fun _ _ => rfl) (fun _ _ => rfl))) (agt rfl (agl (agn (i := 2) sc_drift_of_.nd rfl (.inl rfl)) (agl (agn (i := 3) sc_drift_of_.nd rfl (.inl rfl)) (agl (agn (i := 4) sc_drift_of_.nd rfl (.inl rfl)) agl0)))) (as1 (asi (atc (op_eqA hr.units) oEq (av 2) (av 1) (nomark _)) (as1 (asr (atup (aac (av 3) (aac (av 4) aan))))) asn)))
    (as1 (asr an)))
def ss_moves_into_ : {s : Stmt // topS 15 = s} := by
  refine ⟨?l, ?h⟩
  case h =>
    conv => lhs; whnf
abbrev st_moves_into_ : Stmt := ss_moves_into_.1
theorem sc_moves_into_ : FnScope ["field", "events", "last", "event", "moves", "name", "stamp", "deed", "gone", "sent", "slow", "fast"] ["field", "events", "last", "event"] (defScope st_moves_into_) := ⟨rfl, rfl, rfl, by decide +kernel, rfl, by decide +kernel, by decide +kernel⟩
theorem ok_moves_into_ {f : Addr} {fd : FuncData} (F : Fun K "moves_into" "moves_into" st_moves_into_ f fd) (hb : Binds K fd ["field", "events", "last", "event"] []) (hm : mg "moves_into" = some (.ref f)) (d_drift_of_ : Def P w K mg base 1 "drift_of" ["field", "name"] drift_of_) (d_less_ : Def P w K mg base 3 "less" ["one", "other"] less_) (d_parted_ : Def P w K mg base 3 "parted" ["one", "other"] parted_) : Def P w K mg base 4 "moves_into" ["field", "events", "last", "event"] moves_into_ :=
  fn_a F sc_moves_into_ hb hm (g := moves_into_B) fun cdv A outer s H E hg hr => (asq (asa (av 3) (agt rfl (agl (agn (i := 5) sc_moves_into_.nd rfl (.inl rfl)) (agl (agn (i := 6) sc_moves_into_.nd rfl (.inl rfl)) (agl (agn (i := 7) sc_moves_into_.nd rfl (.inl rfl)) agl0)))))
    (asq (ass (i := 4) sc_moves_into_.nd rfl (.inl rfl) (alst aan))
    (asq (asi (atc op_notN oIsN (av 2) an (nomark _)) (asq (asa (acd d_drift_of_ hg (hr.mono (by decide)) (by rfl) (aac (av 0) (aac (av 5) aan))) (agt rfl (agl (agn (i := 10) sc_moves_into_.nd rfl (.inl rfl)) (agl (agn (i := 11) sc_moves_into_.nd rfl (.inl rfl)) agl0))))
    (asq (ass (i := 8) sc_moves_into_.nd rfl (.inl rfl) (acd d_less_ hg (hr.mono (by decide)) (by rfl) (aac (av 6) (aac (aixA (hu_of hr) (aixA (hu_of hr) (av 1) (av 2) (fun _ _ => rfl) (fun _ _ => rfl)) ai (fun _ _ => rfl) (fun _ _ => rfl)) aan))))
    (as1 (asx (am PySem.F.plainAttrs_list PySem.F.slot_list_append PySem.F.type_list_append mt_append mApp tyL (av 4) (aac (atup (aac (av 2) (aac (atup (aac (acd d_parted_ hg (hr.mono (by decide)) (by rfl) (aac (av 8) (aac (av 11) aan))) (aac (acd d_parted_ hg (hr.mono (by decide)) (by rfl) (aac (av 8) (aac (av 10) aan))) aan))) aan))) aan)))))) asn)
    (asq (asi (atc (op_eqA hr.units) oEq (aixA (hu_of hr) (av 7) ai (fun _ _ => rfl) (fun _ _ => rfl)) astr (nomark _)) (asq (ass (i := 9) sc_moves_into_.nd rfl (.inl rfl) (aixA (hu_of hr) (aixA (hu_of hr) (av 1) (aixA (hu_of hr) (av 7) ai (fun _ _ => rfl) (fun _ _ => rfl)) (fun _ _ => rfl) (fun _ _ => rfl)) ai (fun _ _ => rfl) (fun _ _ => rfl)))
    (as1 (asx (am PySem.F.plainAttrs_list PySem.F.slot_list_append PySem.F.type_list_append mt_append mApp tyL (av 4) (aac (atup (aac (aixA (hu_of hr) (av 7) ai (fun _ _ => rfl) (fun _ _ => rfl)) (aac (asl sl_A oSl (aixA (hu_of hr) (aixA (hu_of hr) (av 0) ai (fun _ _ => rfl) (fun _ _ => rfl)) (aixA (hu_of hr) (av 9) ai (fun _ _ => rfl) (fun _ _ => rfl)) (fun _ _ => rfl) (fun _ _ => rfl)) (aos ai) aon) aan))) aan))))) asn)
    (as1 (asr (av 4)))))))
def ss_history_moves_ : {s : Stmt // topS 16 = s} := by
  refine ⟨?l, ?h⟩
  case h =>
    conv => lhs; whnf
abbrev st_history_moves_ : Stmt := ss_history_moves_.1
theorem sc_history_moves_ : FnScope ["history", "last_at", "rows", "field", "events", "number", "event"] ["history"] (defScope st_history_moves_) := ⟨rfl, rfl, rfl, by decide +kernel, rfl, by decide +kernel, by decide +kernel⟩
theorem ok_history_moves_ {f : Addr} {fd : FuncData} (F : Fun K "history_moves" "history_moves" st_history_moves_ f fd) (hb : Binds K fd ["history"] []) (hm : mg "history_moves" = some (.ref f)) (d_moves_into_ : Def P w K mg base 4 "moves_into" ["field", "events", "last", "event"] moves_into_) (m_enumerate : mg "enumerate" = none) : Def P w K mg base 5 "history_moves" ["history"] history_moves_ :=
  fn_a F sc_history_moves_ hb hm (g := history_moves_B) fun cdv A outer s H E hg hr => (asq (asa (av 0) (agt rfl (agl (agn (i := 3) sc_history_moves_.nd rfl (.inl rfl)) (agl (agn (i := 4) sc_history_moves_.nd rfl (.inl rfl)) agl0))))
    (asq (ass (i := 1) sc_history_moves_.nd rfl (.inl rfl) adic)
    (asq (ass (i := 2) sc_history_moves_.nd rfl (.inl rfl) (alst aan))
    (asq (asf PassesOwn.never rfl (aie (by rfl) m_enumerate (aac (av 4) aan)) (agt rfl (agl (agn (i := 5) sc_history_moves_.nd rfl (.inl rfl)) (agl (agn (i := 6) sc_history_moves_.nd rfl (.inl rfl)) agl0))) (asq (asx (am PySem.F.plainAttrs_list PySem.F.slot_list_append PySem.F.type_list_append mt_append mApp tyL (av 2) (aac (acd d_moves_into_ hg (hr.mono (by decide)) (by rfl) (aac (av 3) (aac (av 4) (aac (aget1 (hu_of hr) (av 1) (aixA (hu_of hr) (av 6) ai (fun _ _ => rfl) (fun _ _ => rfl)) ⟨rfl, rfl, rfl, rfl⟩) (aac (av 6) aan))))) aan)))
    (as1 (asuA (hu_of hr) (av 5) (av 1) (aixA (hu_of hr) (av 6) ai (fun _ _ => rfl) (fun _ _ => rfl))))))
    (as1 (asr (av 2)))))))
def ss_history_steps_ : {s : Stmt // topS 18 = s} := by
  refine ⟨?l, ?h⟩
  case h =>
    conv => lhs; whnf
abbrev st_history_steps_ : Stmt := ss_history_steps_.1
theorem sc_history_steps_ : FnScope ["history", "steps", "y", "moves", "x", "bounds", "least", "most"] ["history"] (defScope st_history_steps_) := ⟨rfl, rfl, rfl, by decide +kernel, rfl, by decide +kernel, by decide +kernel⟩
theorem ok_history_steps_ {f : Addr} {fd : FuncData} (F : Fun K "history_steps" "history_steps" st_history_steps_ f fd) (hb : Binds K fd ["history"] []) (hm : mg "history_steps" = some (.ref f)) (d_history_moves_ : Def P w K mg base 5 "history_moves" ["history"] history_moves_) (d_less_ : Def P w K mg base 3 "less" ["one", "other"] less_) (c_NOUGHT : Cst K mg "NOUGHT" (.tup [.int 0, .int 1])) (m_enumerate : mg "enumerate" = none) (m_tuple : mg "tuple" = none) : Def P w K mg base 6 "history_steps" ["history"] history_steps_ :=
  fn_a F sc_history_steps_ hb hm (g := history_steps_B) fun cdv A outer s H E hg hr => (asq (ass (i := 1) sc_history_steps_.nd rfl (.inl rfl) (alst aan))
    (asq (asf PassesOwn.never rfl (aie (by rfl) m_enumerate (aac (acd d_history_moves_ hg (hr.mono (by decide)) (by rfl) (aac (av 0) aan)) aan)) (agt rfl (agl (agn (i := 2) sc_history_steps_.nd rfl (.inl rfl)) (agl (agn (i := 3) sc_history_steps_.nd rfl (.inl rfl)) agl0))) (as1 (asf PassesOwn.never rfl (ais (av 3)) (agt rfl (agl (agn (i := 4) sc_history_steps_.nd rfl (.inl rfl)) (agl (agn (i := 5) sc_history_steps_.nd rfl (.inl rfl)) agl0))) (asq (asa (av 5) (agt rfl (agl (agn (i := 6) sc_history_steps_.nd rfl (.inl rfl)) (agl (agn (i := 7) sc_history_steps_.nd rfl (.inl rfl)) agl0))))
    (asq (asi (atc op_notN oIsN (av 7) an (nomark _)) (as1 (asx (am PySem.F.plainAttrs_list PySem.F.slot_list_append PySem.F.type_list_append mt_append mApp tyL (av 1) (aac (atup (aac (av 4) (aac (av 2) (aac (av 7) aan)))) aan)))) asn)
    (as1 (asx (am PySem.F.plainAttrs_list PySem.F.slot_list_append PySem.F.type_list_append mt_append mApp tyL (av 1) (aac (atup (aac (av 2) (aac (av 4) (aac (acd d_less_ hg (hr.mono (by decide)) (by rfl) (aac (aglb c_NOUGHT (by rfl)) (aac (av 6) aan))) aan)))) aan)))))))))
    (as1 (asr (act call_tuple_of cTuple (by rfl) m_tuple (by decide +kernel) (aac (av 1) aan))))))
def ss_whole_steps_ : {s : Stmt // topS 19 = s} := by
  refine ⟨?l, ?h⟩
  case h =>
    conv => lhs; whnf
abbrev st_whole_steps_ : Stmt := ss_whole_steps_.1
abbrev sc_whole_steps_N : List Str := ["steps", "unit", "x", "y", "w"]
abbrev sc_whole_steps_S : Scope := defScope st_whole_steps_
theorem sc_whole_steps_ : FnScope ["steps", "unit", "x", "y", "w"] ["steps"] (defScope st_whole_steps_) := ⟨rfl, rfl, rfl, by decide +kernel, rfl, by decide +kernel, by decide +kernel⟩
theorem ok_whole_steps_ {f : Addr} {fd : FuncData} (F : Fun K "whole_steps" "whole_steps" st_whole_steps_ f fd) (hb : Binds K fd ["steps"] []) (hm : mg "whole_steps" = some (.ref f)) (d_common_unit_ : Def P w K mg base 2 "common_unit" ["fractions"] common_unit_) : Def P w K mg base 3 "whole_steps" ["steps"] whole_steps_ :=
  fn_a F sc_whole_steps_ hb hm (g := whole_steps_B) fun cdv A outer s H E hg hr => (asq (ass (i := 1) sc_whole_steps_.nd rfl (.inr rfl) (acd d_common_unit_ hg (hr.mono (by decide)) (by rfl) (aac (alc (own := [("x", 2), ("y", 3), ("w", 4)]) rfl sc_whole_steps_.nd (ais (av 0)) (blkOk_by (own := [("x", 2), ("y", 3), ("w", 4)]) (N := sc_whole_steps_N) (sc := sc_whole_steps_S) (by decide +kernel)) (by simp [Pat.slots, Pat.slotss]) (fun _ _ _ _ _ => (agt rfl (agl (agn (i := 2) sc_whole_steps_.nd rfl (.inl rfl)) (agl (agn (i := 3) sc_whole_steps_.nd rfl (.inl rfl)) (agl (agn (i := 4) sc_whole_steps_.nd rfl (.inl rfl)) agl0))))) (fun _ _ _ _ _ => ats0) (fun _ _ _ _ _ => (av 4))) aan)))
    (as1 (asr (atup (aac (av 1) (aac (alc (own := [("x", 2), ("y", 3), ("w", 4)]) rfl sc_whole_steps_.nd (ais (av 0)) (blkOk_by (own := [("x", 2), ("y", 3), ("w", 4)]) (N := sc_whole_steps_N) (sc := sc_whole_steps_S) (by decide +kernel)) (by simp [Pat.slots, Pat.slotss]) (fun _ _ _ _ _ => (agt rfl (agl (agn (i := 2) sc_whole_steps_.nd rfl (.inl rfl)) (agl (agn (i := 3) sc_whole_steps_.nd rfl (.inl rfl)) (agl (agn (i := 4) sc_whole_steps_.nd rfl (.inl rfl)) agl0))))) (fun _ _ _ _ _ => ats0) (fun _ _ _ _ _ => (atup (aac (av 2) (aac (av 3) (aac (aop op_mulW oMul (aixA (hu_of hr) (av 4) ai (fun _ _ => rfl) (fun _ _ => rfl)) (aop op_fdivW oDiv (av 1) (aixA (hu_of hr) (av 4) ai (fun _ _ => rfl) (fun _ _ => rfl)))) aan)))))) aan))))))
def ss_go_over_ : {s : Stmt // topS 24 = s} := by
  refine ⟨?l, ?h⟩
  case h =>
    conv => lhs; whnf
abbrev st_go_over_ : Stmt := ss_go_over_.1
theorem sc_go_over_ : FnScope ["whole", "moments", "came_by", "turned", "number", "step", "x", "y", "w"] ["whole", "moments", "came_by"] (defScope st_go_over_) := ⟨rfl, rfl, rfl, by decide +kernel, rfl, by decide +kernel, by decide +kernel⟩
theorem ok_go_over_ {f : Addr} {fd : FuncData} (F : Fun K "go_over" "go_over" st_go_over_ f fd) (hb : Binds K fd ["whole", "moments", "came_by"] []) (hm : mg "go_over" = some (.ref f)) (m_enumerate : mg "enumerate" = none) : Def P w K mg base 1 "go_over" ["whole", "moments", "came_by"] go_over_ :=
  fn_a F sc_go_over_ hb hm (g := go_over_B) fun cdv A outer s H E hg hr => (asq (ass (i := 3) sc_go_over_.nd rfl (.inl rfl) an)
    (asq (asf PassesOwn.never rfl (aie (by rfl) m_enumerate (aac (av 0) aan)) (agt rfl (agl (agn (i := 4) sc_go_over_.nd rfl (.inl rfl)) (agl (agn (i := 5) sc_go_over_.nd rfl (.inl rfl)) agl0))) (asq (asa (av 5) (agt rfl (agl (agn (i := 6) sc_go_over_.nd rfl (.inl rfl)) (agl (agn (i := 7) sc_go_over_.nd rfl (.inl rfl)) (agl (agn (i := 8) sc_go_over_.nd rfl (.inl rfl)) agl0)))))
    (as1 (asi (atw (aw (atc op_notN oIsN (aixA (hu_of hr) (av 1) (av 6) (fun _ _ => rfl) (fun _ _ => rfl)) an (nomark _)) (aw1 (atw (awo (atc op_isN oIs (aixA (hu_of hr) (av 1) (av 7) (fun _ _ => rfl) (fun _ _ => rfl)) an (nomark _)) (awo1 (atc op_lt oLt (aop op_addA oAdd (aixA (hu_of hr) (av 1) (av 6) (fun _ _ => rfl) (fun _ _ => rfl)) (av 8)) (aixA (hu_of hr) (av 1) (av 7) (fun _ _ => rfl) (fun _ _ => rfl)) (nomark _)))))))) (asq (asuA (hu_of hr) (aop op_addA oAdd (aixA (hu_of hr) (av 1) (av 6) (fun _ _ => rfl) (fun _ _ => rfl)) (av 8)) (av 1) (av 7))
    (asq (asuA (hu_of hr) (av 4) (av 2) (av 7))
    (as1 (ass (i := 3) sc_go_over_.nd rfl (.inl rfl) (av 7))))) asn))))
    (as1 (asr (av 3)))))
def ss_go_down_ : {s : Stmt // topS 23 = s} := by
  refine ⟨?l, ?h⟩
  case h =>
    conv => lhs; whnf
abbrev st_go_down_ : Stmt := ss_go_down_.1
theorem sc_go_down_ : FnScope ["whole", "moments", "came_by", "turned", "rounds"] ["whole", "moments", "came_by"] (defScope st_go_down_) := ⟨rfl, rfl, rfl, by decide +kernel, rfl, by decide +kernel, by decide +kernel⟩
theorem ok_go_down_ {f : Addr} {fd : FuncData} (F : Fun K "go_down" "go_down" st_go_down_ f fd) (hb : Binds K fd ["whole", "moments", "came_by"] []) (hm : mg "go_down" = some (.ref f)) (d_go_over_ : Def P w K mg base 1 "go_over" ["whole", "moments", "came_by"] go_over_) (m_len : mg "len" = none) : Def P w K mg base 2 "go_down" ["whole", "moments", "came_by"] go_down_ :=
  fn_a F sc_go_down_ hb hm (g := go_down_B) fun cdv A outer s H E hg hr => (asq (ass (i := 3) sc_go_down_.nd rfl (.inl rfl) (acd d_go_over_ hg (hr.mono (by decide)) (by rfl) (aac (av 0) (aac (av 1) (aac (av 2) aan)))))
    (asq (ass (i := 4) sc_go_down_.nd rfl (.inl rfl) ai)
    (asq (asw PassesOwn.never (atw (aw (atc op_notN oIsN (av 3) an (nomark _)) (aw1 (atc op_le oLe (av 4) (acb call_lenA cLen (by rfl) m_len PySem.boot_len (aac (av 1) aan)) (nomark _))))) (asq (ass (i := 3) sc_go_down_.nd rfl (.inl rfl) (acd d_go_over_ hg (hr.mono (by decide)) (by rfl) (aac (av 0) (aac (av 1) (aac (av 2) aan)))))
    (as1 (asaug (i := 4) sc_go_down_.nd rfl (.inl rfl) ai))))
    (as1 (asr (av 3))))))
def ss_ring_behind_ : {s : Stmt // topS 25 = s} := by
  refine ⟨?l, ?h⟩
  case h =>
    conv => lhs; whnf
abbrev st_ring_behind_ : Stmt := ss_ring_behind_.1
theorem sc_ring_behind_ : FnScope ["steps", "came_by", "event", "at", "back", "ring"] ["steps", "came_by", "event"] (defScope st_ring_behind_) := ⟨rfl, rfl, rfl, by decide +kernel, rfl, by decide +kernel, by decide +kernel⟩
theorem ok_ring_behind_ {f : Addr} {fd : FuncData} (F : Fun K "ring_behind" "ring_behind" st_ring_behind_ f fd) (hb : Binds K fd ["steps", "came_by", "event"] []) (hm : mg "ring_behind" = some (.ref f)) (m_tuple : mg "tuple" = none) : Def P w K mg base 1 "ring_behind" ["steps", "came_by", "event"] ring_behind_ :=
  fn_a F sc_ring_behind_ hb hm (g := ring_behind_B) fun cdv A outer s H E hg hr => (asq (ass (i := 3) sc_ring_behind_.nd rfl (.inl rfl) (av 2))
    (asq (asf PassesOwn.never rfl (ais (av 1)) (agn (i := 4) sc_ring_behind_.nd rfl (.inl rfl)) (as1 (ass (i := 3) sc_ring_behind_.nd rfl (.inl rfl) (aixA (hu_of hr) (aixA (hu_of hr) (av 0) (aixA (hu_of hr) (av 1) (av 3) (fun _ _ => rfl) (fun _ _ => rfl)) (fun _ _ => rfl) (fun _ _ => rfl)) ai (fun _ _ => rfl) (fun _ _ => rfl)))))
    (asq (ass (i := 5) sc_ring_behind_.nd rfl (.inl rfl) (alst (aac (aixA (hu_of hr) (av 1) (av 3) (fun _ _ => rfl) (fun _ _ => rfl)) aan)))
    (asq (asw PassesOwn.never (atc (op_neA hr.units) oNe (aixA (hu_of hr) (aixA (hu_of hr) (av 0) (aixA (hu_of hr) (av 5) (aun un_neg oNeg ai) (fun _ _ => rfl) (fun _ _ => rfl)) (fun _ _ => rfl) (fun _ _ => rfl)) ai (fun _ _ => rfl) (fun _ _ => rfl)) (av 3) (nomark _)) (as1 (asx (am PySem.F.plainAttrs_list PySem.F.slot_list_append PySem.F.type_list_append mt_append mApp tyL (av 5) (aac (aixA (hu_of hr) (av 1) (aixA (hu_of hr) (aixA (hu_of hr) (av 0) (aixA (hu_of hr) (av 5) (aun un_neg oNeg ai) (fun _ _ => rfl) (fun _ _ => rfl)) (fun _ _ => rfl) (fun _ _ => rfl)) ai (fun _ _ => rfl) (fun _ _ => rfl)) (fun _ _ => rfl) (fun _ _ => rfl)) aan)))))
    (as1 (asr (act call_tuple_of cTuple (by rfl) m_tuple (by decide +kernel) (aac (arev (av 5)) aan))))))))
def ss_world_or_ring_ : {s : Stmt // topS 22 = s} := by
  refine ⟨?l, ?h⟩
  case h =>
    conv => lhs; whnf
abbrev st_world_or_ring_ : Stmt := ss_world_or_ring_.1
abbrev sc_world_or_ring_N : List Str := ["history", "steps", "moments", "came_by", "turned", "unit", "whole", "event", "moment"]
abbrev sc_world_or_ring_S : Scope := defScope st_world_or_ring_
theorem sc_world_or_ring_ : FnScope ["history", "steps", "moments", "came_by", "turned", "unit", "whole", "event", "moment"] ["history"] (defScope st_world_or_ring_) := ⟨rfl, rfl, rfl, by decide +kernel, rfl, by decide +kernel, by decide +kernel⟩
theorem ok_world_or_ring_ {f : Addr} {fd : FuncData} (F : Fun K "world_or_ring" "world_or_ring" st_world_or_ring_ f fd) (hb : Binds K fd ["history"] []) (hm : mg "world_or_ring" = some (.ref f)) (d_history_steps_ : Def P w K mg base 6 "history_steps" ["history"] history_steps_) (d_whole_steps_ : Def P w K mg base 3 "whole_steps" ["steps"] whole_steps_) (d_go_down_ : Def P w K mg base 2 "go_down" ["whole", "moments", "came_by"] go_down_) (d_ring_behind_ : Def P w K mg base 1 "ring_behind" ["steps", "came_by", "event"] ring_behind_) (d_ratio_ : Def P w K mg base 2 "ratio" ["a", "b"] ratio_) (m_tuple : mg "tuple" = none) : Def P w K mg base 7 "world_or_ring" ["history"] world_or_ring_ :=
  fn_a F sc_world_or_ring_ hb hm (g := world_or_ring_B) fun cdv A outer s H E hg hr => (asq (ass (i := 1) sc_world_or_ring_.nd rfl (.inl rfl) (acd d_history_steps_ hg (hr.mono (by decide)) (by rfl) (aac (av 0) aan)))
    (asq (asa (acd d_whole_steps_ hg (hr.mono (by decide)) (by rfl) (aac (av 1) aan)) (agt rfl (agl (agn (i := 5) sc_world_or_ring_.nd rfl (.inr rfl)) (agl (agn (i := 6) sc_world_or_ring_.nd rfl (.inl rfl)) agl0))))
    (asq (aslc (own := [("event", 7)]) (i := 2) rfl sc_world_or_ring_.nd rfl rfl (sw_true rfl rfl rfl (by decide +kernel)) (ais (aixA (hu_of hr) (av 0) ai (fun _ _ => rfl) (fun _ _ => rfl))) (blkOk_by (own := [("event", 7)]) (N := sc_world_or_ring_N) (sc := sc_world_or_ring_S) (by decide +kernel)) (by simp [Pat.slots, Pat.slotss]) (fun _ _ _ _ _ => (agn (i := 7) sc_world_or_ring_.nd rfl (.inl rfl))) (fun _ _ _ _ _ => ats0) (fun _ _ _ _ _ => ai))
    (asq (aslc (own := [("event", 7)]) (i := 3) rfl sc_world_or_ring_.nd rfl rfl (sw_true rfl rfl rfl (by decide +kernel)) (ais (aixA (hu_of hr) (av 0) ai (fun _ _ => rfl) (fun _ _ => rfl))) (blkOk_by (own := [("event", 7)]) (N := sc_world_or_ring_N) (sc := sc_world_or_ring_S) (by decide +kernel)) (by simp [Pat.slots, Pat.slotss]) (fun _ _ _ _ _ => (agn (i := 7) sc_world_or_ring_.nd rfl (.inl rfl))) (fun _ _ _ _ _ => ats0) (fun _ _ _ _ _ => an))
    (asq (ass (i := 4) sc_world_or_ring_.nd rfl (.inl rfl) (acd d_go_down_ hg (hr.mono (by decide)) (by rfl) (aac (av 6) (aac (av 2) (aac (av 3) aan)))))
    (asq (asi (atc op_isN oIs (av 4) an (nomark _)) (as1 (asr (atup (aac astr (aac (act call_tuple_of cTuple (by rfl) m_tuple (by decide +kernel) (aac (alc (own := [("moment", 8)]) rfl sc_world_or_ring_.nd (ais (av 2)) (blkOk_by (own := [("moment", 8)]) (N := sc_world_or_ring_N) (sc := sc_world_or_ring_S) (by decide +kernel)) (by simp [Pat.slots, Pat.slotss]) (fun _ _ _ _ _ => (agn (i := 8) sc_world_or_ring_.nd rfl (.inl rfl))) (fun _ _ _ _ _ => ats0) (fun _ _ _ _ _ => (acd d_ratio_ hg (hr.mono (by decide)) (by rfl) (aac (av 8) (aac (av 5) aan))))) aan)) aan))))) asn)
    (as1 (asr (atup (aac astr (aac (acd d_ring_behind_ hg (hr.mono (by decide)) (by rfl) (aac (av 1) (aac (av 3) (aac (av 4) aan)))) aan)))))))))))
def ss_ring_of_ : {s : Stmt // topS 21 = s} := by
  refine ⟨?l, ?h⟩
  case h =>
    conv => lhs; whnf
abbrev st_ring_of_ : Stmt := ss_ring_of_.1
theorem sc_ring_of_ : FnScope ["history", "kind", "told"] ["history"] (defScope st_ring_of_) := ⟨rfl, rfl, rfl, by decide +kernel, rfl, by decide +kernel, by decide +kernel⟩
theorem ok_ring_of_ {f : Addr} {fd : FuncData} (F : Fun K "ring_of" "ring_of" st_ring_of_ f fd) (hb : Binds K fd ["history"] []) (hm : mg "ring_of" = some (.ref f)) (d_world_or_ring_ : Def P w K mg base 7 "world_or_ring" ["history"] world_or_ring_) : Def P w K mg base 8 "ring_of" ["history"] ring_of_ :=
  fn_a F sc_ring_of_ hb hm (g := ring_of_B) fun cdv A outer s H E hg hr => (asq (asa (acd d_world_or_ring_ hg (hr.mono (by decide)) (by rfl) (aac (av 0) aan)) (agt rfl (agl (agn (i := 1) sc_ring_of_.nd rfl (.inl rfl)) (agl (agn (i := 2) sc_ring_of_.nd rfl (.inl rfl)) agl0))))
    (as1 (asr (aif (atc (op_eqA hr.units) oEq (av 1) astr (nomark _)) (av 2) an))))
def ss_bar_number_ : {s : Stmt // topS 33 = s} := by
  refine ⟨?l, ?h⟩
  case h =>
    conv => lhs; whnf
abbrev st_bar_number_ : Stmt := ss_bar_number_.1
theorem sc_bar_number_ : FnScope ["history", "number"] ["history", "number"] (defScope st_bar_number_) := ⟨rfl, rfl, rfl, by decide +kernel, rfl, by decide +kernel, by decide +kernel⟩
theorem ok_bar_number_ {f : Addr} {fd : FuncData} (F : Fun K "bar_number" "bar_number" st_bar_number_ f fd) (hb : Binds K fd ["history", "number"] []) (hm : mg "bar_number" = some (.ref f)) (x_NoNumber : KnX P w K mg base "NoNumber") (m_len : mg "len" = none) : DefX P w K mg base 3 "bar_number" ["history", "number"] bar_number_ :=
  ⟨f, fd, fn_aX F sc_bar_number_ (g := bar_number_B) fun cdv A outer s H Ek hg hr tk pw => (xs1 (xsi (atn (atch op_le oLe op_lt oLt ai (av 1) (acb call_lenA cLen (by rfl) m_len PySem.boot_len (aac (aixA (hu_of hr) (av 0) ai (fun _ _ => rfl) (fun _ _ => rfl)) aan)))) (xs1 (asraise tk x_NoNumber (hr.mono (by decide)) rfl (by rfl) (aac (av 1) aan))) xsn)), hb, hm, F.kp⟩
def ss_bar_ring_ : {s : Stmt // topS 35 = s} := by
  refine ⟨?l, ?h⟩
  case h =>
    conv => lhs; whnf
abbrev st_bar_ring_ : Stmt := ss_bar_ring_.1
theorem sc_bar_ring_ : FnScope ["history", "ring"] ["history"] (defScope st_bar_ring_) := ⟨rfl, rfl, rfl, by decide +kernel, rfl, by decide +kernel, by decide +kernel⟩
theorem ok_bar_ring_ {f : Addr} {fd : FuncData} (F : Fun K "bar_ring" "bar_ring" st_bar_ring_ f fd) (hb : Binds K fd ["history"] []) (hm : mg "bar_ring" = some (.ref f)) (d_ring_of_ : Def P w K mg base 8 "ring_of" ["history"] ring_of_) (x_NoWorld : KnX P w K mg base "NoWorld") : DefX P w K mg base 9 "bar_ring" ["history"] bar_ring_ :=
  ⟨f, fd, fn_aX F sc_bar_ring_ (g := bar_ring_B) fun cdv A outer s H Ek hg hr tk pw => (xsq (xl (ass (i := 1) sc_bar_ring_.nd rfl (.inl rfl) (acd d_ring_of_ hg (hr.mono (by decide)) (by rfl) (aac (av 0) aan))) nr_asg)
    (xs1 (xsi (atc op_notN oIsN (av 1) an (nomark _)) (xs1 (asraise tk x_NoWorld (hr.mono (by decide)) rfl (by rfl) (aac (av 1) aan))) xsn))), hb, hm, F.kp⟩
def ss_sums_parted_ : {s : Stmt // topS 41 = s} := by
  refine ⟨?l, ?h⟩
  case h =>
    conv => lhs; whnf
abbrev st_sums_parted_ : Stmt := ss_sums_parted_.1
abbrev sc_sums_parted_N : List Str := ["sums", "unit", "each"]
abbrev sc_sums_parted_S : Scope := defScope st_sums_parted_
theorem sc_sums_parted_ : FnScope ["sums", "unit", "each"] ["sums", "unit"] (defScope st_sums_parted_) := ⟨rfl, rfl, rfl, by decide +kernel, rfl, by decide +kernel, by decide +kernel⟩
theorem ok_sums_parted_ {f : Addr} {fd : FuncData} (F : Fun K "sums_parted" "sums_parted" st_sums_parted_ f fd) (hb : Binds K fd ["sums", "unit"] []) (hm : mg "sums_parted" = some (.ref f)) (d_ratio_ : Def P w K mg base 2 "ratio" ["a", "b"] ratio_) (m_tuple : mg "tuple" = none) : Def P w K mg base 3 "sums_parted" ["sums", "unit"] sums_parted_ :=
  fn_a F sc_sums_parted_ hb hm (g := sums_parted_B) fun cdv A outer s H E hg hr => (as1 (asr (act call_tuple_of cTuple (by rfl) m_tuple (by decide +kernel) (aac (alc (own := [("each", 2)]) rfl sc_sums_parted_.nd (ais (av 0)) (blkOk_by (own := [("each", 2)]) (N := sc_sums_parted_N) (sc := sc_sums_parted_S) (by decide +kernel)) (by simp [Pat.slots, Pat.slotss]) (fun _ _ _ _ _ => (agn (i := 2) sc_sums_parted_.nd rfl (.inl rfl))) (fun _ _ _ _ _ => ats0) (fun _ _ _ _ _ => (aif (atc op_isN oIs (av 2) an (nomark _)) an (acd d_ratio_ hg (hr.mono (by decide)) (by rfl) (aac (av 2) (aac (av 1) aan)))))) aan))))
def ss_only_at_ : {s : Stmt // topS 39 = s} := by
  refine ⟨?l, ?h⟩
  case h =>
    conv => lhs; whnf
abbrev st_only_at_ : Stmt := ss_only_at_.1
abbrev sc_only_at_N : List Str := ["many", "x", "number"]
abbrev sc_only_at_S : Scope := defScope st_only_at_
theorem sc_only_at_ : FnScope ["many", "x", "number"] ["many", "x"] (defScope st_only_at_) := ⟨rfl, rfl, rfl, by decide +kernel, rfl, by decide +kernel, by decide +kernel⟩
theorem ok_only_at_ {f : Addr} {fd : FuncData} (F : Fun K "only_at" "only_at" st_only_at_ f fd) (hb : Binds K fd ["many", "x"] []) (hm : mg "only_at" = some (.ref f)) (m_range : mg "range" = none) : Def P w K mg base 1 "only_at" ["many", "x"] only_at_ :=
  fn_a F sc_only_at_ hb hm (g := only_at_B) fun cdv A outer s H E hg hr => (as1 (asr (alc (own := [("number", 2)]) rfl sc_only_at_.nd (air1 (by rfl) m_range (aac (av 0) aan)) (blkOk_by (own := [("number", 2)]) (N := sc_only_at_N) (sc := sc_only_at_S) (by decide +kernel)) (by simp [Pat.slots, Pat.slotss]) (fun _ _ _ _ _ => (agn (i := 2) sc_only_at_.nd rfl (.inl rfl))) (fun _ _ _ _ _ => ats0) (fun _ _ _ _ _ => (aif (atc (op_eqA hr.units) oEq (av 2) (av 1) (nomark _)) ai an)))))
def ss_steps_leaving_ : {s : Stmt // topS 40 = s} := by
  refine ⟨?l, ?h⟩
  case h =>
    conv => lhs; whnf
abbrev st_steps_leaving_ : Stmt := ss_steps_leaving_.1
abbrev sc_steps_leaving_N : List Str := ["whole", "many", "leaving", "x", "y", "w", "number"]
abbrev sc_steps_leaving_S : Scope := defScope st_steps_leaving_
theorem sc_steps_leaving_ : FnScope ["whole", "many", "leaving", "x", "y", "w", "number"] ["whole", "many"] (defScope st_steps_leaving_) := ⟨rfl, rfl, rfl, by decide +kernel, rfl, by decide +kernel, by decide +kernel⟩
theorem ok_steps_leaving_ {f : Addr} {fd : FuncData} (F : Fun K "steps_leaving" "steps_leaving" st_steps_leaving_ f fd) (hb : Binds K fd ["whole", "many"] []) (hm : mg "steps_leaving" = some (.ref f)) (m_range : mg "range" = none) : Def P w K mg base 1 "steps_leaving" ["whole", "many"] steps_leaving_ :=
  fn_a F sc_steps_leaving_ hb hm (g := steps_leaving_B) fun cdv A outer s H E hg hr => (asq (aslc (own := [("number", 6)]) (i := 2) rfl sc_steps_leaving_.nd rfl rfl (sw_true rfl rfl rfl (by decide +kernel)) (air1 (by rfl) m_range (aac (av 1) aan)) (blkOk_by (own := [("number", 6)]) (N := sc_steps_leaving_N) (sc := sc_steps_leaving_S) (by decide +kernel)) (by simp [Pat.slots, Pat.slotss]) (fun _ _ _ _ _ => (agn (i := 6) sc_steps_leaving_.nd rfl (.inl rfl))) (fun _ _ _ _ _ => ats0) (fun _ _ _ _ _ => (alst aan)))
    (asq (asf PassesOwn.never rfl (ais (av 0)) (agt rfl (agl (agn (i := 3) sc_steps_leaving_.nd rfl (.inl rfl)) (agl (agn (i := 4) sc_steps_leaving_.nd rfl (.inl rfl)) (agl (agn (i := 5) sc_steps_leaving_.nd rfl (.inl rfl)) agl0)))) (as1 (asx (am PySem.F.plainAttrs_list PySem.F.slot_list_append PySem.F.type_list_append mt_append mApp tyL (aixA (hu_of hr) (av 2) (av 3) (fun _ _ => rfl) (fun _ _ => rfl)) (aac (atup (aac (av 4) (aac (av 5) aan))) aan)))))
    (as1 (asr (av 2)))))
def ss_run_clever_ : {s : Stmt // topS 38 = s} := by
  refine ⟨?l, ?h⟩
  case h =>
    conv => lhs; whnf
abbrev st_run_clever_ : Stmt := ss_run_clever_.1
theorem sc_run_clever_ : FnScope ["whole", "many", "x", "sums", "leaving", "waiting", "at", "y", "w"] ["whole", "many", "x"] (defScope st_run_clever_) := ⟨rfl, rfl, rfl, by decide +kernel, rfl, by decide +kernel, by decide +kernel⟩
theorem ok_run_clever_ {f : Addr} {fd : FuncData} (F : Fun K "run_clever" "run_clever" st_run_clever_ f fd) (hb : Binds K fd ["whole", "many", "x"] []) (hm : mg "run_clever" = some (.ref f)) (d_only_at_ : Def P w K mg base 1 "only_at" ["many", "x"] only_at_) (d_steps_leaving_ : Def P w K mg base 1 "steps_leaving" ["whole", "many"] steps_leaving_) (m_len : mg "len" = none) : Def P w K mg base 2 "run_clever" ["whole", "many", "x"] run_clever_ :=
  fn_a F sc_run_clever_ hb hm (g := run_clever_B) fun cdv A outer s H E hg hr => (asq (ass (i := 3) sc_run_clever_.nd rfl (.inl rfl) (acd d_only_at_ hg (hr.mono (by decide)) (by rfl) (aac (av 1) (aac (av 2) aan))))
    (asq (ass (i := 4) sc_run_clever_.nd rfl (.inl rfl) (acd d_steps_leaving_ hg (hr.mono (by decide)) (by rfl) (aac (av 0) (aac (av 1) aan))))
    (asq (ass (i := 5) sc_run_clever_.nd rfl (.inl rfl) (alst (aac (av 2) aan)))
    (asq (asw PassesOwn.never (atc op_gt oGt (acb call_lenA cLen (by rfl) m_len PySem.boot_len (aac (av 5) aan)) ai (nomark _)) (asq (ass (i := 6) sc_run_clever_.nd rfl (.inl rfl) (am PySem.F.plainAttrs_list PySem.F.slot_list_pop PySem.F.type_list_pop mt_popAt mPop tyL (av 5) (aac ai aan)))
    (as1 (asf PassesOwn.never rfl (ais (aixA (hu_of hr) (av 4) (av 6) (fun _ _ => rfl) (fun _ _ => rfl))) (agt rfl (agl (agn (i := 7) sc_run_clever_.nd rfl (.inl rfl)) (agl (agn (i := 8) sc_run_clever_.nd rfl (.inl rfl)) agl0))) (as1 (asi (atw (awo (atc op_isN oIs (aixA (hu_of hr) (av 3) (av 7) (fun _ _ => rfl) (fun _ _ => rfl)) an (nomark _)) (awo1 (atc op_lt oLt (aop op_addA oAdd (aixA (hu_of hr) (av 3) (av 6) (fun _ _ => rfl) (fun _ _ => rfl)) (av 8)) (aixA (hu_of hr) (av 3) (av 7) (fun _ _ => rfl) (fun _ _ => rfl)) (nomark _))))) (asq (asuA (hu_of hr) (aop op_addA oAdd (aixA (hu_of hr) (av 3) (av 6) (fun _ _ => rfl) (fun _ _ => rfl)) (av 8)) (av 3) (av 7))
    (as1 (asi (atnin (hu_of hr) (av 7) (av 5)) (as1 (asx (am PySem.F.plainAttrs_list PySem.F.slot_list_append PySem.F.type_list_append mt_append mApp tyL (av 5) (aac (av 7) aan)))) asn))) asn))))))
    (as1 (asr (av 3)))))))
def ss_reach_clever_ : {s : Stmt // topS 36 = s} := by
  refine ⟨?l, ?h⟩
  case h =>
    conv => lhs; whnf
abbrev st_reach_clever_ : Stmt := ss_reach_clever_.1
theorem sc_reach_clever_ : FnScope ["history", "x", "unit", "whole"] ["history", "x"] (defScope st_reach_clever_) := ⟨rfl, rfl, rfl, by decide +kernel, rfl, by decide +kernel, by decide +kernel⟩
theorem ok_reach_clever_ {f : Addr} {fd : FuncData} (F : Fun K "reach_clever" "reach_clever" st_reach_clever_ f fd) (hb : Binds K fd ["history", "x"] []) (hm : mg "reach_clever" = some (.ref f)) (d_whole_steps_ : Def P w K mg base 3 "whole_steps" ["steps"] whole_steps_) (d_sums_parted_ : Def P w K mg base 3 "sums_parted" ["sums", "unit"] sums_parted_) (d_history_steps_ : Def P w K mg base 6 "history_steps" ["history"] history_steps_) (d_run_clever_ : Def P w K mg base 2 "run_clever" ["whole", "many", "x"] run_clever_) (d_bar_ring_ : DefX P w K mg base 9 "bar_ring" ["history"] bar_ring_) (d_bar_number_ : DefX P w K mg base 3 "bar_number" ["history", "number"] bar_number_) (m_len : mg "len" = none) : DefX P w K mg base 10 "reach_clever" ["history", "x"] reach_clever_ :=
  ⟨f, fd, fn_aX F sc_reach_clever_ (g := reach_clever_B) fun cdv A outer s H Ek hg hr tk pw => (xsq (xw (xsx (acdX d_bar_number_ hg (hr.mono (by decide)) (by rfl) tk (aac (av 0) (aac (av 1) aan)))))
    (xsq (xw (xsx (acdX d_bar_ring_ hg (hr.mono (by decide)) (by rfl) tk (aac (av 0) aan))))
    (xsq (xl (asa (acd d_whole_steps_ hg (hr.mono (by decide)) (by rfl) (aac (acd d_history_steps_ hg (hr.mono (by decide)) (by rfl) (aac (av 0) aan)) aan)) (agt rfl (agl (agn (i := 2) sc_reach_clever_.nd rfl (.inl rfl)) (agl (agn (i := 3) sc_reach_clever_.nd rfl (.inl rfl)) agl0)))) nr_asg)
    (xs1 (xsr (acd d_sums_parted_ hg (hr.mono (by decide)) (by rfl) (aac (acd d_run_clever_ hg (hr.mono (by decide)) (by rfl) (aac (av 3) (aac (acb call_lenA cLen (by rfl) m_len PySem.boot_len (aac (aixA (hu_of hr) (av 0) ai (fun _ _ => rfl) (fun _ _ => rfl)) aan)) (aac (av 1) aan)))) (aac (av 2) aan)))))))), hb, hm, F.kp⟩
def ss_reach_ : {s : Stmt // topS 37 = s} := by
  refine ⟨?l, ?h⟩
  case h =>
    conv => lhs; whnf
abbrev st_reach_ : Stmt := ss_reach_.1
theorem sc_reach_ : FnScope ["history", "x", "y"] ["history", "x", "y"] (defScope st_reach_) := ⟨rfl, rfl, rfl, by decide +kernel, rfl, by decide +kernel, by decide +kernel⟩
theorem ok_reach_ {f : Addr} {fd : FuncData} (F : Fun K "reach" "reach" st_reach_ f fd) (hb : Binds K fd ["history", "x", "y"] []) (hm : mg "reach" = some (.ref f)) (d_reach_clever_ : DefX P w K mg base 10 "reach_clever" ["history", "x"] reach_clever_) (d_bar_number_ : DefX P w K mg base 3 "bar_number" ["history", "number"] bar_number_) : DefX P w K mg base 11 "reach" ["history", "x", "y"] reach_ :=
  ⟨f, fd, fn_aX F sc_reach_ (g := reach_B) fun cdv A outer s H Ek hg hr tk pw => (xsq (xw (xsx (acdX d_bar_number_ hg (hr.mono (by decide)) (by rfl) tk (aac (av 0) (aac (av 1) aan)))))
    (xsq (xw (xsx (acdX d_bar_number_ hg (hr.mono (by decide)) (by rfl) tk (aac (av 0) (aac (av 2) aan)))))
    (xs1 (xw (xsrX (aixX (acdX d_reach_clever_ hg (hr.mono (by decide)) (by rfl) tk (aac (av 0) (aac (av 1) aan))) (av 2) (fun _ _ => rfl))))))), hb, hm, F.kp⟩
def ss_sum_along_ : {s : Stmt // topS 43 = s} := by
  refine ⟨?l, ?h⟩
  case h =>
    conv => lhs; whnf
abbrev st_sum_along_ : Stmt := ss_sum_along_.1
theorem sc_sum_along_ : FnScope ["steps", "numbers", "total", "number"] ["steps", "numbers"] (defScope st_sum_along_) := ⟨rfl, rfl, rfl, by decide +kernel, rfl, by decide +kernel, by decide +kernel⟩
theorem ok_sum_along_ {f : Addr} {fd : FuncData} (F : Fun K "sum_along" "sum_along" st_sum_along_ f fd) (hb : Binds K fd ["steps", "numbers"] []) (hm : mg "sum_along" = some (.ref f)) (d_added_ : Def P w K mg base 3 "added" ["one", "other"] added_) (c_NOUGHT : Cst K mg "NOUGHT" (.tup [.int 0, .int 1])) : Def P w K mg base 4 "sum_along" ["steps", "numbers"] sum_along_ :=
  fn_a F sc_sum_along_ hb hm (g := sum_along_B) fun cdv A outer s H E hg hr => (asq (ass (i := 2) sc_sum_along_.nd rfl (.inl rfl) (aglb c_NOUGHT (by rfl)))
    (asq (asf PassesOwn.never rfl (ais (av 1)) (agn (i := 3) sc_sum_along_.nd rfl (.inl rfl)) (as1 (ass (i := 2) sc_sum_along_.nd rfl (.inl rfl) (acd d_added_ hg (hr.mono (by decide)) (by rfl) (aac (av 2) (aac (aixA (hu_of hr) (aixA (hu_of hr) (av 0) (av 3) (fun _ _ => rfl) (fun _ _ => rfl)) ai (fun _ _ => rfl) (fun _ _ => rfl)) aan))))))
    (as1 (asr (av 2)))))
def ss_lets_ring_ : {s : Stmt // topS 45 = s} := by
  refine ⟨?l, ?h⟩
  case h =>
    conv => lhs; whnf
abbrev st_lets_ring_ : Stmt := ss_lets_ring_.1
theorem sc_lets_ring_ : FnScope ["history", "thing", "steps", "at", "total", "k", "number"] ["history", "thing"] (defScope st_lets_ring_) := ⟨rfl, rfl, rfl, by decide +kernel, rfl, by decide +kernel, by decide +kernel⟩
theorem ok_lets_ring_ {f : Addr} {fd : FuncData} (F : Fun K "lets_ring" "lets_ring" st_lets_ring_ f fd) (hb : Binds K fd ["history", "thing"] []) (hm : mg "lets_ring" = some (.ref f)) (d_history_steps_ : Def P w K mg base 6 "history_steps" ["history"] history_steps_) (d_sum_along_ : Def P w K mg base 4 "sum_along" ["steps", "numbers"] sum_along_) (d_is_below_ : Def P w K mg base 1 "is_below" ["one", "other"] is_below_) (d_are_numbers_ : Def P w K mg base 2 "are_numbers" ["thing"] are_numbers_) (x_NoPaper : KnX P w K mg base "NoPaper") (c_NOUGHT : Cst K mg "NOUGHT" (.tup [.int 0, .int 1])) (m_enumerate : mg "enumerate" = none) (m_len : mg "len" = none) : DefX P w K mg base 7 "lets_ring" ["history", "thing"] lets_ring_ :=
  ⟨f, fd, fn_aX F sc_lets_ring_ (g := lets_ring_B) fun cdv A outer s H Ek hg hr tk pw => (xsq (xsi (atw (awo (atn (atv (acd d_are_numbers_ hg (hr.mono (by decide)) (by rfl) (aac (av 1) aan)))) (awo1 (atc (op_eqA hr.units) oEq (acb call_lenA cLen (by rfl) m_len PySem.boot_len (aac (av 1) aan)) ai (nomark _))))) (xs1 (asraise tk x_NoPaper (hr.mono (by decide)) rfl (by rfl) (aac astr (aac (aun un_neg oNeg ai) aan)))) xsn)
    (xsq (xl (ass (i := 2) sc_lets_ring_.nd rfl (.inl rfl) (acd d_history_steps_ hg (hr.mono (by decide)) (by rfl) (aac (av 0) aan))) nr_asg)
    (xsq (xsf pw rfl (aie (by rfl) m_enumerate (aac (av 1) aan)) (agt rfl (agl (agn (i := 5) sc_lets_ring_.nd rfl (.inl rfl)) (agl (agn (i := 6) sc_lets_ring_.nd rfl (.inl rfl)) agl0))) (xs1 (xsi (atn (atch op_le oLe op_lt oLt ai (av 6) (acb call_lenA cLen (by rfl) m_len PySem.boot_len (aac (av 2) aan)))) (xs1 (asraise tk x_NoPaper (hr.mono (by decide)) rfl (by rfl) (aac astr (aac (av 5) aan)))) xsn)))
    (xsq (xl (ass (i := 3) sc_lets_ring_.nd rfl (.inl rfl) (aixA (hu_of hr) (aixA (hu_of hr) (av 2) (aixA (hu_of hr) (av 1) (aun un_neg oNeg ai) (fun _ _ => rfl) (fun _ _ => rfl)) (fun _ _ => rfl) (fun _ _ => rfl)) ai (fun _ _ => rfl) (fun _ _ => rfl))) nr_asg)
    (xsq (xsf pw rfl (aie (by rfl) m_enumerate (aac (av 1) aan)) (agt rfl (agl (agn (i := 5) sc_lets_ring_.nd rfl (.inl rfl)) (agl (agn (i := 6) sc_lets_ring_.nd rfl (.inl rfl)) agl0))) (xsq (xsi (atc (op_neA hr.units) oNe (aixA (hu_of hr) (aixA (hu_of hr) (av 2) (av 6) (fun _ _ => rfl) (fun _ _ => rfl)) ai (fun _ _ => rfl) (fun _ _ => rfl)) (av 3) (nomark _)) (xs1 (asraise tk x_NoPaper (hr.mono (by decide)) rfl (by rfl) (aac astr (aac (av 5) aan)))) xsn)
    (xs1 (xl (ass (i := 3) sc_lets_ring_.nd rfl (.inl rfl) (aixA (hu_of hr) (aixA (hu_of hr) (av 2) (av 6) (fun _ _ => rfl) (fun _ _ => rfl)) ai (fun _ _ => rfl) (fun _ _ => rfl))) nr_asg))))
    (xsq (xl (ass (i := 4) sc_lets_ring_.nd rfl (.inl rfl) (acd d_sum_along_ hg (hr.mono (by decide)) (by rfl) (aac (av 2) (aac (av 1) aan)))) nr_asg)
    (xsq (xsi (atn (atv (acd d_is_below_ hg (hr.mono (by decide)) (by rfl) (aac (av 4) (aac (aglb c_NOUGHT (by rfl)) aan))))) (xs1 (asraise tk x_NoPaper (hr.mono (by decide)) rfl (by rfl) (aac astr (aac (aun un_neg oNeg ai) aan)))) xsn)
    (xs1 (xsr (av 4)))))))))), hb, hm, F.kp⟩
def ss_are_fractions_ : {s : Stmt // topS 47 = s} := by
  refine ⟨?l, ?h⟩
  case h =>
    conv => lhs; whnf
abbrev st_are_fractions_ : Stmt := ss_are_fractions_.1
abbrev sc_are_fractions_N : List Str := ["thing", "each"]
abbrev sc_are_fractions_S : Scope := defScope st_are_fractions_
theorem sc_are_fractions_ : FnScope ["thing", "each"] ["thing"] (defScope st_are_fractions_) := ⟨rfl, rfl, rfl, by decide +kernel, rfl, by decide +kernel, by decide +kernel⟩
theorem ok_are_fractions_ {f : Addr} {fd : FuncData} (F : Fun K "are_fractions" "are_fractions" st_are_fractions_ f fd) (hb : Binds K fd ["thing"] []) (hm : mg "are_fractions" = some (.ref f)) (d_is_fraction_ : Def P w K mg base 2 "is_fraction" ["thing"] is_fraction_) (m_isinstance : mg "isinstance" = none) (m_tuple : mg "tuple" = none) (m_all : mg "all" = none) : Def P w K mg base 3 "are_fractions" ["thing"] are_fractions_ :=
  fn_a F sc_are_fractions_ hb hm (g := are_fractions_B) fun cdv A outer s H E hg hr => (as1 (asr (aand (aisi (by rfl) m_isinstance (by rfl) m_tuple (by decide +kernel) (av 0)) (ae1 (acb (cr_all rfl) cAll (by rfl) m_all (by decide +kernel) (aac (alc (own := [("each", 1)]) rfl sc_are_fractions_.nd (ais (av 0)) (blkOk_by (own := [("each", 1)]) (N := sc_are_fractions_N) (sc := sc_are_fractions_S) (by decide +kernel)) (by simp [Pat.slots, Pat.slotss]) (fun _ _ _ _ _ => (agn (i := 1) sc_are_fractions_.nd rfl (.inl rfl))) (fun _ _ _ _ _ => ats0) (fun _ _ _ _ _ => (acd d_is_fraction_ hg (hr.mono (by decide)) (by rfl) (aac (av 1) aan)))) aan))))))
def ss_world_bars_ : {s : Stmt // topS 48 = s} := by
  refine ⟨?l, ?h⟩
  case h =>
    conv => lhs; whnf
abbrev st_world_bars_ : Stmt := ss_world_bars_.1
theorem sc_world_bars_ : FnScope ["history", "world", "number", "step", "x", "y", "w"] ["history", "world"] (defScope st_world_bars_) := ⟨rfl, rfl, rfl, by decide +kernel, rfl, by decide +kernel, by decide +kernel⟩
theorem ok_world_bars_ {f : Addr} {fd : FuncData} (F : Fun K "world_bars" "world_bars" st_world_bars_ f fd) (hb : Binds K fd ["history", "world"] []) (hm : mg "world_bars" = some (.ref f)) (d_history_steps_ : Def P w K mg base 6 "history_steps" ["history"] history_steps_) (d_is_below_ : Def P w K mg base 1 "is_below" ["one", "other"] is_below_) (d_added_ : Def P w K mg base 3 "added" ["one", "other"] added_) (m_enumerate : mg "enumerate" = none) : Def P w K mg base 7 "world_bars" ["history", "world"] world_bars_ :=
  fn_a F sc_world_bars_ hb hm (g := world_bars_B) fun cdv A outer s H E hg hr => (asq (asf PassesOwn.never rfl (aie (by rfl) m_enumerate (aac (acd d_history_steps_ hg (hr.mono (by decide)) (by rfl) (aac (av 0) aan)) aan)) (agt rfl (agl (agn (i := 2) sc_world_bars_.nd rfl (.inl rfl)) (agl (agn (i := 3) sc_world_bars_.nd rfl (.inl rfl)) agl0))) (asq (asa (av 3) (agt rfl (agl (agn (i := 4) sc_world_bars_.nd rfl (.inl rfl)) (agl (agn (i := 5) sc_world_bars_.nd rfl (.inl rfl)) (agl (agn (i := 6) sc_world_bars_.nd rfl (.inl rfl)) agl0)))))
    (as1 (asi (atv (acd d_is_below_ hg (hr.mono (by decide)) (by rfl) (aac (acd d_added_ hg (hr.mono (by decide)) (by rfl) (aac (aixA (hu_of hr) (av 1) (av 4) (fun _ _ => rfl) (fun _ _ => rfl)) (aac (av 6) aan))) (aac (aixA (hu_of hr) (av 1) (av 5) (fun _ _ => rfl) (fun _ _ => rfl)) aan)))) (as1 (asr (av 2))) asn))))
    (as1 (asr an)))
def ss_lets_world_ : {s : Stmt // topS 50 = s} := by
  refine ⟨?l, ?h⟩
  case h =>
    conv => lhs; whnf
abbrev st_lets_world_ : Stmt := ss_lets_world_.1
theorem sc_lets_world_ : FnScope ["history", "thing", "barring"] ["history", "thing"] (defScope st_lets_world_) := ⟨rfl, rfl, rfl, by decide +kernel, rfl, by decide +kernel, by decide +kernel⟩
theorem ok_lets_world_ {f : Addr} {fd : FuncData} (F : Fun K "lets_world" "lets_world" st_lets_world_ f fd) (hb : Binds K fd ["history", "thing"] []) (hm : mg "lets_world" = some (.ref f)) (d_world_bars_ : Def P w K mg base 7 "world_bars" ["history", "world"] world_bars_) (d_are_fractions_ : Def P w K mg base 3 "are_fractions" ["thing"] are_fractions_) (x_NoPaper : KnX P w K mg base "NoPaper") (m_len : mg "len" = none) : DefX P w K mg base 8 "lets_world" ["history", "thing"] lets_world_ :=
  ⟨f, fd, fn_aX F sc_lets_world_ (g := lets_world_B) fun cdv A outer s H Ek hg hr tk pw => (xsq (xsi (atn (atv (acd d_are_fractions_ hg (hr.mono (by decide)) (by rfl) (aac (av 1) aan)))) (xs1 (asraise tk x_NoPaper (hr.mono (by decide)) rfl (by rfl) (aac astr (aac (aun un_neg oNeg ai) aan)))) xsn)
    (xsq (xsi (atc (op_neA hr.units) oNe (acb call_lenA cLen (by rfl) m_len PySem.boot_len (aac (av 1) aan)) (acb call_lenA cLen (by rfl) m_len PySem.boot_len (aac (aixA (hu_of hr) (av 0) ai (fun _ _ => rfl) (fun _ _ => rfl)) aan)) (nomark _)) (xs1 (asraise tk x_NoPaper (hr.mono (by decide)) rfl (by rfl) (aac astr (aac (aun un_neg oNeg ai) aan)))) xsn)
    (xsq (xl (ass (i := 2) sc_lets_world_.nd rfl (.inl rfl) (acd d_world_bars_ hg (hr.mono (by decide)) (by rfl) (aac (av 0) (aac (av 1) aan)))) nr_asg)
    (xsq (xsi (atc op_notN oIsN (av 2) an (nomark _)) (xs1 (asraise tk x_NoPaper (hr.mono (by decide)) rfl (by rfl) (aac astr (aac (av 2) aan)))) xsn)
    (xs1 (xsr (acb call_lenA cLen (by rfl) m_len PySem.boot_len (aac (av 1) aan)))))))), hb, hm, F.kp⟩
def ss_feedL_ : {s : Stmt // topS 52 = s} := by
  refine ⟨?l, ?h⟩
  case h =>
    conv => lhs; whnf
abbrev st_feedL_ : Stmt := ss_feedL_.1
theorem sc_feedL_ : FnScope ["_law_script"] ["_law_script"] (defScope st_feedL_) := ⟨rfl, rfl, rfl, by decide +kernel, rfl, by decide +kernel, by decide +kernel⟩
theorem ok_feedL_ {f : Addr} {fd : FuncData} (F : Fun K "_law_feed" "_law_feed" st_feedL_ f fd) (hb : Binds K fd ["_law_script"] []) (hm : mg "_law_feed" = some (.ref f)) (m_list : mg "list" = none) : Def P w K mg base 1 "_law_feed" ["_law_script"] feedL_ :=
  fn_a F sc_feedL_ hb hm (g := feedL_B) fun cdv A outer s H E hg hr => (as1 (asr (alst (aac (act call_list_of cList (by rfl) m_list (by decide +kernel) (aac (asl sl_A oSl (av 0) aon (aos ai)) aan)) (aac ai (aac ai (aac ai aan)))))))
def ss_drawL_ : {s : Stmt // topS 53 = s} := by
  refine ⟨?l, ?h⟩
  case h =>
    conv => lhs; whnf
abbrev st_drawL_ : Stmt := ss_drawL_.1
theorem sc_drawL_ : FnScope ["_law_feed_here", "_law_many", "_law_cell", "_law_mixed", "_law_figure"] ["_law_feed_here", "_law_many"] (defScope st_drawL_) := ⟨rfl, rfl, rfl, by decide +kernel, rfl, by decide +kernel, by decide +kernel⟩
theorem ok_drawL_ {f : Addr} {fd : FuncData} (F : Fun K "_law_draw" "_law_draw" st_drawL_ f fd) (hb : Binds K fd ["_law_feed_here", "_law_many"] []) (hm : mg "_law_draw" = some (.ref f)) (m_abs : mg "abs" = none) (m_len : mg "len" = none) (m_int : mg "int" = none) : Def P w K mg base 1 "_law_draw" ["_law_feed_here", "_law_many"] drawL_ :=
  fn_a F sc_drawL_ hb hm (g := drawL_B) fun cdv A outer s H E hg hr => (asq (asuA (hu_of hr) (aop op_addA oAdd (aixA (hu_of hr) (av 0) ai (fun _ _ => rfl) (fun _ _ => rfl)) ai) (av 0) ai)
    (asq (asw PassesOwn.never (atw (aw (atc (op_eqA hr.units) oEq (aixA (hu_of hr) (av 0) ai (fun _ _ => rfl) (fun _ _ => rfl)) ai (nomark _)) (aw1 (atc op_lt oLt (aixA (hu_of hr) (av 0) ai (fun _ _ => rfl) (fun _ _ => rfl)) (acb call_lenA cLen (by rfl) m_len PySem.boot_len (aac (aixA (hu_of hr) (av 0) ai (fun _ _ => rfl) (fun _ _ => rfl)) aan)) (nomark _))))) (asq (ass (i := 2) sc_drawL_.nd rfl (.inl rfl) (acb call_abs cAbs (by rfl) m_abs boot_abs (aac (aixA (hu_of hr) (aixA (hu_of hr) (av 0) ai (fun _ _ => rfl) (fun _ _ => rfl)) (aixA (hu_of hr) (av 0) ai (fun _ _ => rfl) (fun _ _ => rfl)) (fun _ _ => rfl) (fun _ _ => rfl)) aan)))
    (asq (asuA (hu_of hr) (aop op_mulS oMulS (av 2) (act call_int1 cInt (by rfl) m_int (by decide +kernel) (aac (acm op_ge oGe (av 2) (aop op_pow oPow ai ai) (nomark _)) aan))) (av 0) ai)
    (as1 (asuA (hu_of hr) (aop op_addA oAdd (aixA (hu_of hr) (av 0) ai (fun _ _ => rfl) (fun _ _ => rfl)) ai) (av 0) ai)))))
    (asq (asi (atc op_gt oGt (aixA (hu_of hr) (av 0) ai (fun _ _ => rfl) (fun _ _ => rfl)) ai (nomark _)) (asq (ass (i := 4) sc_drawL_.nd rfl (.inl rfl) (aop op_modN oMod (aixA (hu_of hr) (av 0) ai (fun _ _ => rfl) (fun _ _ => rfl)) (av 1)))
    (asq (asuA (hu_of hr) (aop op_fdivW oDiv (aixA (hu_of hr) (av 0) ai (fun _ _ => rfl) (fun _ _ => rfl)) (av 1)) (av 0) ai)
    (as1 (asr (av 4))))) asn)
    (asq (ass (i := 2) sc_drawL_.nd rfl (.inl rfl) (aif (atc (op_neA hr.units) oNe (aixA (hu_of hr) (av 0) ai (fun _ _ => rfl) (fun _ _ => rfl)) (alst aan) (nomark _)) (aixA (hu_of hr) (aixA (hu_of hr) (av 0) ai (fun _ _ => rfl) (fun _ _ => rfl)) (aop op_modN oMod (aixA (hu_of hr) (av 0) ai (fun _ _ => rfl) (fun _ _ => rfl)) (acb call_lenA cLen (by rfl) m_len PySem.boot_len (aac (aixA (hu_of hr) (av 0) ai (fun _ _ => rfl) (fun _ _ => rfl)) aan))) (fun _ _ => rfl) (fun _ _ => rfl)) ai))
    (asq (ass (i := 3) sc_drawL_.nd rfl (.inl rfl) (aop op_modN oMod (aop op_pow oPow (aop op_addA oAdd (aop op_addA oAdd (aop op_modN oMod (av 2) ai) (aop op_mulW oMul (aop op_mulW oMul ai (aixA (hu_of hr) (av 0) ai (fun _ _ => rfl) (fun _ _ => rfl))) (aop op_addA oAdd (aixA (hu_of hr) (av 0) ai (fun _ _ => rfl) (fun _ _ => rfl)) ai))) ai) ai) ai))
    (as1 (asr (aop op_modN oMod (aop op_fdivW oDiv (aop op_modN oMod (aop op_pow oPow (aop op_addA oAdd (av 3) (aop op_mulW oMul ai (aixA (hu_of hr) (av 0) ai (fun _ _ => rfl) (fun _ _ => rfl)))) ai) ai) ai) (av 1)))))))))
def ss_fracL_ : {s : Stmt // topS 54 = s} := by
  refine ⟨?l, ?h⟩
  case h =>
    conv => lhs; whnf
abbrev st_fracL_ : Stmt := ss_fracL_.1
theorem sc_fracL_ : FnScope ["_law_top", "_law_bottom", "_law_one", "_law_other"] ["_law_top", "_law_bottom"] (defScope st_fracL_) := ⟨rfl, rfl, rfl, by decide +kernel, rfl, by decide +kernel, by decide +kernel⟩
theorem ok_fracL_ {f : Addr} {fd : FuncData} (F : Fun K "_law_frac" "_law_frac" st_fracL_ f fd) (hb : Binds K fd ["_law_top", "_law_bottom"] []) (hm : mg "_law_frac" = some (.ref f)) (m_abs : mg "abs" = none) : Def P w K mg base 1 "_law_frac" ["_law_top", "_law_bottom"] fracL_ :=
  fn_a F sc_fracL_ hb hm (g := fracL_B) fun cdv A outer s H E hg hr => (asq (asa (aif (atc op_gt oGt (av 1) ai (nomark _)) (atup (aac (av 0) (aac (av 1) aan))) (atup (aac (aop op_sub oSub ai (av 0)) (aac (aop op_sub oSub ai (av 1)) aan)))) (agt rfl (agl (agn (i := 0) sc_fracL_.nd rfl (.inl rfl)) (agl (agn (i := 1) sc_fracL_.nd rfl (.inl rfl)) agl0))))
    (asq (asp2' (ps_par (i := 2) (j := 3) (by rfl) sc_fracL_.nd rfl rfl (by decide) rfl rfl (aac (acb call_abs cAbs (by rfl) m_abs boot_abs (aac (av 0) aan)) (aac (av 1) aan)) (by rfl)))
    (asq (asw PassesOwn.never (atc op_gt oGt (av 3) ai (nomark _)) (as1 (asp2' (ps_par (i := 2) (j := 3) (by rfl) sc_fracL_.nd rfl rfl (by decide) rfl rfl (aac (av 3) (aac (aop op_modN oMod (av 2) (av 3)) aan)) (by rfl)))))
    (as1 (asr (atup (aac (aop op_fdivW oDiv (av 0) (av 2)) (aac (aop op_fdivW oDiv (av 1) (av 2)) aan))))))))
def ss_fieldL_ : {s : Stmt // topS 55 = s} := by
  refine ⟨?l, ?h⟩
  case h =>
    conv => lhs; whnf
abbrev st_fieldL_ : Stmt := ss_fieldL_.1
abbrev sc_fieldL_N : List Str := ["_law_feed_here", "_law_most", "_law_pool", "_law_names", "_law_name", "_law_k", "_law_source", "_law_homes", "_law_links", "_law_slow", "_law_one", "_law_rest", "_law_least", "_law_more", "_law_end"]
abbrev sc_fieldL_S : Scope := defScope st_fieldL_
theorem sc_fieldL_ : FnScope ["_law_feed_here", "_law_most", "_law_pool", "_law_names", "_law_name", "_law_k", "_law_source", "_law_homes", "_law_links", "_law_slow", "_law_one", "_law_rest", "_law_least", "_law_more", "_law_end"] ["_law_feed_here", "_law_most"] (defScope st_fieldL_) := ⟨rfl, rfl, rfl, by decide +kernel, rfl, by decide +kernel, by decide +kernel⟩
theorem ok_fieldL_ {f : Addr} {fd : FuncData} (F : Fun K "_law_field" "_law_field" st_fieldL_ f fd) (hb : Binds K fd ["_law_feed_here", "_law_most"] []) (hm : mg "_law_field" = some (.ref f)) (d_drawL_ : Def P w K mg base 1 "_law_draw" ["_law_feed_here", "_law_many"] drawL_) (d_fracL_ : Def P w K mg base 1 "_law_frac" ["_law_top", "_law_bottom"] fracL_) (m_sorted : mg "sorted" = none) (m_range : mg "range" = none) (m_tuple : mg "tuple" = none) (m_int : mg "int" = none) (m_len : mg "len" = none) : Def P w K mg base 2 "_law_field" ["_law_feed_here", "_law_most"] fieldL_ :=
  fn_a F sc_fieldL_ hb hm (g := fieldL_B) fun cdv A outer s H E hg hr => (asq (ass (i := 2) sc_fieldL_.nd rfl (.inr rfl) (alst (aac astr (aac astr (aac astr (aac astr (aac astr (aac astr aan))))))))
    (asq (ass (i := 3) sc_fieldL_.nd rfl (.inl rfl) (acb (call_sortedA rfl) cSorted (by rfl) m_sorted (by decide +kernel) (aac (alc (own := [("_law_k", 5)]) rfl sc_fieldL_.nd (air1 (by rfl) m_range (aac (aop op_addA oAdd ai (acd d_drawL_ hg (hr.mono (by decide)) (by rfl) (aac (av 0) (aac (av 1) aan)))) aan)) (blkOk_by (own := [("_law_k", 5)]) (N := sc_fieldL_N) (sc := sc_fieldL_S) (by decide +kernel)) (by simp [Pat.slots, Pat.slotss]) (fun _ _ _ _ _ => (agn (i := 5) sc_fieldL_.nd rfl (.inl rfl))) (fun _ _ _ _ _ => ats0) (fun _ _ _ _ _ => (am PySem.F.plainAttrs_list PySem.F.slot_list_pop PySem.F.type_list_pop mt_popAt mPop tyL (av 2) (aac (acd d_drawL_ hg (hr.mono (by decide)) (by rfl) (aac (av 0) (aac (acb call_lenA cLen (by rfl) m_len PySem.boot_len (aac (av 2) aan)) aan))) aan)))) aan)))
    (asq (asp3 (ps_par3 (i := 6) (j := 7) (l := 8) (by rfl) sc_fieldL_.nd rfl rfl rfl (by decide) (by decide) (by decide) rfl rfl rfl (aac (aixA (hu_of hr) (av 3) (acd d_drawL_ hg (hr.mono (by decide)) (by rfl) (aac (av 0) (aac (acb call_lenA cLen (by rfl) m_len PySem.boot_len (aac (av 3) aan)) aan))) (fun _ _ => rfl) (fun _ _ => rfl)) (aac (alst aan) (aac (alst aan) aan))) (by rfl)))
    (asq (asf PassesOwn.never rfl (ais (av 3)) (agn (i := 4) sc_fieldL_.nd rfl (.inl rfl)) (asq (ass (i := 9) sc_fieldL_.nd rfl (.inl rfl) (aixA (hu_of hr) (alst (aac (atup (aac ai (aac ai aan))) (aac (atup (aac ai (aac ai aan))) (aac (atup (aac ai (aac ai aan))) aan)))) (aop op_mulW oMul (acd d_drawL_ hg (hr.mono (by decide)) (by rfl) (aac (av 0) (aac ai aan))) (act call_int1 cInt (by rfl) m_int (by decide +kernel) (aac (acm (op_neA hr.units) oNe (av 4) (av 6) (nomark _)) aan))) (fun _ _ => rfl) (fun _ _ => rfl)))
    (as1 (asx (am PySem.F.plainAttrs_list PySem.F.slot_list_append PySem.F.type_list_append mt_append mApp tyL (av 7) (aac (atup (aac (av 4) (aac (av 9) (aac (aixA (hu_of hr) (alst (aac (atup (aac ai (aac ai aan))) (aac (atup (aac ai (aac ai aan))) (aac (atup (aac ai (aac ai aan))) (aac (atup (aac ai (aac ai aan))) aan))))) (aop op_mulW oMul (acd d_drawL_ hg (hr.mono (by decide)) (by rfl) (aac (av 0) (aac ai aan))) (act call_int1 cInt (by rfl) m_int (by decide +kernel) (aac (acm (op_neA hr.units) oNe (av 4) (av 6) (nomark _)) aan))) (fun _ _ => rfl) (fun _ _ => rfl)) aan)))) aan))))))
    (asq (asf PassesOwn.never rfl (air1 (by rfl) m_range (aac (aop op_mulW oMul (acd d_drawL_ hg (hr.mono (by decide)) (by rfl) (aac (av 0) (aac ai aan))) (act call_int1 cInt (by rfl) m_int (by decide +kernel) (aac (acm op_gt oGt (acb call_lenA cLen (by rfl) m_len PySem.boot_len (aac (av 3) aan)) ai (nomark _)) aan))) aan)) (agn (i := 5) sc_fieldL_.nd rfl (.inl rfl)) (asq (ass (i := 10) sc_fieldL_.nd rfl (.inr rfl) (aixA (hu_of hr) (av 3) (acd d_drawL_ hg (hr.mono (by decide)) (by rfl) (aac (av 0) (aac (acb call_lenA cLen (by rfl) m_len PySem.boot_len (aac (av 3) aan)) aan))) (fun _ _ => rfl) (fun _ _ => rfl)))
    (asq (aslc (own := [("_law_name", 4)]) (i := 11) rfl sc_fieldL_.nd rfl rfl (sw_true rfl rfl rfl (by decide +kernel)) (ais (av 3)) (blkOk_by (own := [("_law_name", 4)]) (N := sc_fieldL_N) (sc := sc_fieldL_S) (by decide +kernel)) (by simp [Pat.slots, Pat.slotss]) (fun _ _ _ _ _ => (agn (i := 4) sc_fieldL_.nd rfl (.inl rfl))) (fun _ _ _ _ _ => (pts_one (atc (op_neA hr.units) oNe (av 4) (av 10) (nomark _)))) (fun _ _ _ _ _ => (av 4)))
    (asq (ass (i := 12) sc_fieldL_.nd rfl (.inl rfl) (acd d_drawL_ hg (hr.mono (by decide)) (by rfl) (aac (av 0) (aac ai aan))))
    (asq (ass (i := 13) sc_fieldL_.nd rfl (.inl rfl) (aixA (hu_of hr) (alst (aac ai (aac ai (aac ai (aac ai (aac an aan)))))) (acd d_drawL_ hg (hr.mono (by decide)) (by rfl) (aac (av 0) (aac ai aan))) (fun _ _ => rfl) (fun _ _ => rfl)))
    (asq (ass (i := 14) sc_fieldL_.nd rfl (.inl rfl) (aif (atc op_isN oIs (av 13) an (nomark _)) an (acd d_fracL_ hg (hr.mono (by decide)) (by rfl) (aac (aop op_addA oAdd (av 12) (av 13)) (aac ai aan)))))
    (as1 (asx (am PySem.F.plainAttrs_list PySem.F.slot_list_append PySem.F.type_list_append mt_append mApp tyL (av 8) (aac (atup (aac (av 10) (aac (aixA (hu_of hr) (av 11) (acd d_drawL_ hg (hr.mono (by decide)) (by rfl) (aac (av 0) (aac (acb call_lenA cLen (by rfl) m_len PySem.boot_len (aac (av 11) aan)) aan))) (fun _ _ => rfl) (fun _ _ => rfl)) (aac (acd d_fracL_ hg (hr.mono (by decide)) (by rfl) (aac (av 12) (aac ai aan))) (aac (av 14) aan))))) aan))))))))))
    (as1 (asr (atup (aac (act call_tuple_of cTuple (by rfl) m_tuple (by decide +kernel) (aac (av 7) aan)) (aac (act call_tuple_of cTuple (by rfl) m_tuple (by decide +kernel) (aac (av 8) aan)) (aac (av 6) aan)))))))))))
def ss_ratesL_ : {s : Stmt // topS 56 = s} := by
  refine ⟨?l, ?h⟩
  case h =>
    conv => lhs; whnf
abbrev st_ratesL_ : Stmt := ss_ratesL_.1
abbrev sc_ratesL_N : List Str := ["_law_field_here", "_law_name", "_law_slow", "_law_fast", "_law_house"]
abbrev sc_ratesL_S : Scope := defScope st_ratesL_
theorem sc_ratesL_ : FnScope ["_law_field_here", "_law_name", "_law_slow", "_law_fast", "_law_house"] ["_law_field_here", "_law_name"] (defScope st_ratesL_) := ⟨rfl, rfl, rfl, by decide +kernel, rfl, by decide +kernel, by decide +kernel⟩
theorem ok_ratesL_ {f : Addr} {fd : FuncData} (F : Fun K "_law_rates" "_law_rates" st_ratesL_ f fd) (hb : Binds K fd ["_law_field_here", "_law_name"] []) (hm : mg "_law_rates" = some (.ref f)) : Def P w K mg base 1 "_law_rates" ["_law_field_here", "_law_name"] ratesL_ :=
  fn_a F sc_ratesL_ hb hm (g := ratesL_B) fun cdv A outer s H E hg hr => (asq (asa (aixA (hu_of hr) (alc (own := [("_law_house", 4)]) rfl sc_ratesL_.nd (ais (aixA (hu_of hr) (av 0) ai (fun _ _ => rfl) (fun _ _ => rfl))) (blkOk_by (own := [("_law_house", 4)]) (N := sc_ratesL_N) (sc := sc_ratesL_S) (by decide +kernel)) (by simp [Pat.slots, Pat.slotss]) (fun _ _ _ _ _ => (agn (i := 4) sc_ratesL_.nd rfl (.inl rfl))) (fun _ _ _ _ _ => (pts_one (atc (op_eqA hr.units) oEq (aixA (hu_of hr) (av 4) ai (fun _ _ => rfl) (fun _ _ => rfl)) (av 1) (nomark _)))) (fun _ _ _ _ _ => (asl sl_A oSl (av 4) (aos ai) aon))) ai (fun _ _ => rfl) (fun _ _ => rfl)) (agt rfl (agl (agn (i := 2) sc_ratesL_.nd rfl (.inl rfl)) (agl (agn (i := 3) sc_ratesL_.nd rfl (.inl rfl)) agl0))))
    (as1 (asr (atup (aac (aop op_fdivW oDiv (aop op_mulW oMul (aixA (hu_of hr) (av 2) ai (fun _ _ => rfl) (fun _ _ => rfl)) ai) (aixA (hu_of hr) (av 2) ai (fun _ _ => rfl) (fun _ _ => rfl))) (aac (aop op_fdivW oDiv (aop op_mulW oMul (aixA (hu_of hr) (av 3) ai (fun _ _ => rfl) (fun _ _ => rfl)) ai) (aixA (hu_of hr) (av 3) ai (fun _ _ => rfl) (fun _ _ => rfl))) aan))))))
def ss_openL_ : {s : Stmt // topS 57 = s} := by
  refine ⟨?l, ?h⟩
  case h =>
    conv => lhs; whnf
abbrev st_openL_ : Stmt := ss_openL_.1
theorem sc_openL_ : FnScope ["_law_field_here", "_law_sends", "_law_name", "_law_now", "_law_found", "_law_number", "_law_link", "_law_then", "_law_least", "_law_end"] ["_law_field_here", "_law_sends", "_law_name", "_law_now"] (defScope st_openL_) := ⟨rfl, rfl, rfl, by decide +kernel, rfl, by decide +kernel, by decide +kernel⟩
theorem ok_openL_ {f : Addr} {fd : FuncData} (F : Fun K "_law_open" "_law_open" st_openL_ f fd) (hb : Binds K fd ["_law_field_here", "_law_sends", "_law_name", "_law_now"] []) (hm : mg "_law_open" = some (.ref f)) : Def P w K mg base 1 "_law_open" ["_law_field_here", "_law_sends", "_law_name", "_law_now"] openL_ :=
  fn_a F sc_openL_ hb hm (g := openL_B) fun cdv A outer s H E hg hr => (asq (ass (i := 4) sc_openL_.nd rfl (.inl rfl) (alst aan))
    (asq (asf PassesOwn.never rfl (ais (av 1)) (agt rfl (agl (agn (i := 5) sc_openL_.nd rfl (.inl rfl)) (agl (agn (i := 6) sc_openL_.nd rfl (.inl rfl)) (agl (agn (i := 7) sc_openL_.nd rfl (.inl rfl)) agl0)))) (asq (asa (asl sl_A oSl (aixA (hu_of hr) (aixA (hu_of hr) (av 0) ai (fun _ _ => rfl) (fun _ _ => rfl)) (av 6) (fun _ _ => rfl) (fun _ _ => rfl)) (aos ai) aon) (agt rfl (agl (agn (i := 8) sc_openL_.nd rfl (.inl rfl)) (agl (agn (i := 9) sc_openL_.nd rfl (.inl rfl)) agl0))))
    (as1 (asi (atw (aw (atc (op_eqA hr.units) oEq (aixA (hu_of hr) (aixA (hu_of hr) (aixA (hu_of hr) (av 0) ai (fun _ _ => rfl) (fun _ _ => rfl)) (av 6) (fun _ _ => rfl) (fun _ _ => rfl)) ai (fun _ _ => rfl) (fun _ _ => rfl)) (av 2) (nomark _)) (aw1 (atc op_ge oGe (aop op_mulW oMul (aop op_sub oSub (av 3) (av 7)) (aixA (hu_of hr) (av 8) ai (fun _ _ => rfl) (fun _ _ => rfl))) (aixA (hu_of hr) (av 8) ai (fun _ _ => rfl) (fun _ _ => rfl)) (nomark _))))) (as1 (asi (atw (awo (atc op_isN oIs (av 9) an (nomark _)) (awo1 (atc op_le oLe (aop op_mulW oMul (aop op_sub oSub (av 3) (av 7)) (aixA (hu_of hr) (av 9) ai (fun _ _ => rfl) (fun _ _ => rfl))) (aixA (hu_of hr) (av 9) ai (fun _ _ => rfl) (fun _ _ => rfl)) (nomark _))))) (as1 (asx (am PySem.F.plainAttrs_list PySem.F.slot_list_append PySem.F.type_list_append mt_append mApp tyL (av 4) (aac (av 5) aan)))) asn)) asn))))
    (as1 (asr (av 4)))))
def ss_drawnL_ : {s : Stmt // topS 58 = s} := by
  refine ⟨?l, ?h⟩
  case h =>
    conv => lhs; whnf
abbrev st_drawnL_ : Stmt := ss_drawnL_.1
abbrev sc_drawnL_N : List Str := ["_law_feed_here", "_law_most", "_law_many", "_law_field_here", "_law_k", "_law_now", "_law_clocks", "_law_sends", "_law_events", "_law_clocked", "_law_name", "_law_stamp", "_law_mails", "_law_own", "_law_deed", "_law_way", "_law_slow", "_law_fast", "_law_then", "_law_n", "_law_link"]
abbrev sc_drawnL_S : Scope := defScope st_drawnL_
theorem sc_drawnL_ : FnScope ["_law_feed_here", "_law_most", "_law_many", "_law_field_here", "_law_k", "_law_now", "_law_clocks", "_law_sends", "_law_events", "_law_clocked", "_law_name", "_law_stamp", "_law_mails", "_law_own", "_law_deed", "_law_way", "_law_slow", "_law_fast", "_law_then", "_law_n", "_law_link"] ["_law_feed_here", "_law_most", "_law_many"] (defScope st_drawnL_) := ⟨rfl, rfl, rfl, by decide +kernel, rfl, by decide +kernel, by decide +kernel⟩
theorem ok_drawnL_ {f : Addr} {fd : FuncData} (F : Fun K "_law_drawn" "_law_drawn" st_drawnL_ f fd) (hb : Binds K fd ["_law_feed_here", "_law_most", "_law_many"] []) (hm : mg "_law_drawn" = some (.ref f)) (d_fieldL_ : Def P w K mg base 2 "_law_field" ["_law_feed_here", "_law_most"] fieldL_) (d_openL_ : Def P w K mg base 1 "_law_open" ["_law_field_here", "_law_sends", "_law_name", "_law_now"] openL_) (d_drawL_ : Def P w K mg base 1 "_law_draw" ["_law_feed_here", "_law_many"] drawL_) (d_ratesL_ : Def P w K mg base 1 "_law_rates" ["_law_field_here", "_law_name"] ratesL_) (d_fracL_ : Def P w K mg base 1 "_law_frac" ["_law_top", "_law_bottom"] fracL_) (m_range : mg "range" = none) (m_tuple : mg "tuple" = none) (m_enumerate : mg "enumerate" = none) (m_len : mg "len" = none) : Def P w K mg base 3 "_law_drawn" ["_law_feed_here", "_law_most", "_law_many"] drawnL_ :=
  fn_a F sc_drawnL_ hb hm (g := drawnL_B) fun cdv A outer s H E hg hr => (asq (ass (i := 3) sc_drawnL_.nd rfl (.inl rfl) (acd d_fieldL_ hg (hr.mono (by decide)) (by rfl) (aac (av 0) (aac (av 1) aan))))
    (asq (asa (atup (aac ai (aac adic (aac (alst aan) (aac (alst aan) (aac (alst aan) aan)))))) (agt rfl (agl (agn (i := 5) sc_drawnL_.nd rfl (.inl rfl)) (agl (agn (i := 6) sc_drawnL_.nd rfl (.inl rfl)) (agl (agn (i := 7) sc_drawnL_.nd rfl (.inl rfl)) (agl (agn (i := 8) sc_drawnL_.nd rfl (.inl rfl)) (agl (agn (i := 9) sc_drawnL_.nd rfl (.inl rfl)) agl0)))))))
    (asq (asf PassesOwn.never rfl (air1 (by rfl) m_range (aac (av 2) aan)) (agn (i := 4) sc_drawnL_.nd rfl (.inl rfl)) (asq (ass (i := 5) sc_drawnL_.nd rfl (.inl rfl) (aop op_addA oAdd (av 5) (aixA (hu_of hr) (alst (aac ai (aac ai (aac ai (aac ai (aac ai aan)))))) (acd d_drawL_ hg (hr.mono (by decide)) (by rfl) (aac (av 0) (aac ai aan))) (fun _ _ => rfl) (fun _ _ => rfl))))
    (asq (ass (i := 10) sc_drawnL_.nd rfl (.inr rfl) (aixA (hu_of hr) (aixA (hu_of hr) (aixA (hu_of hr) (av 3) ai (fun _ _ => rfl) (fun _ _ => rfl)) (acd d_drawL_ hg (hr.mono (by decide)) (by rfl) (aac (av 0) (aac (acb call_lenA cLen (by rfl) m_len PySem.boot_len (aac (aixA (hu_of hr) (av 3) ai (fun _ _ => rfl) (fun _ _ => rfl)) aan)) aan))) (fun _ _ => rfl) (fun _ _ => rfl)) ai (fun _ _ => rfl) (fun _ _ => rfl)))
    (asq (ass (i := 11) sc_drawnL_.nd rfl (.inl rfl) (aop op_sub oSub (acd d_drawL_ hg (hr.mono (by decide)) (by rfl) (aac (av 0) (aac ai aan))) ai))
    (asq (asi (atin (hu_of hr) (av 10) (av 6)) (asq (asa (acd d_ratesL_ hg (hr.mono (by decide)) (by rfl) (aac (av 3) (aac (av 10) aan))) (agt rfl (agl (agn (i := 16) sc_drawnL_.nd rfl (.inl rfl)) (agl (agn (i := 17) sc_drawnL_.nd rfl (.inl rfl)) agl0))))
    (asq (asa (aixA (hu_of hr) (av 6) (av 10) (fun _ _ => rfl) (fun _ _ => rfl)) (agt rfl (agl (agn (i := 18) sc_drawnL_.nd rfl (.inl rfl)) (agl (agn (i := 11) sc_drawnL_.nd rfl (.inl rfl)) agl0))))
    (as1 (ass (i := 11) sc_drawnL_.nd rfl (.inl rfl) (aop op_addA oAdd (av 11) (aop op_mulW oMul (aop op_sub oSub (av 5) (av 18)) (aixA (hu_of hr) (alst (aac (av 16) (aac (av 17) (aac ai aan)))) (acd d_drawL_ hg (hr.mono (by decide)) (by rfl) (aac (av 0) (aac ai aan))) (fun _ _ => rfl) (fun _ _ => rfl)))))))) asn)
    (asq (asuA (hu_of hr) (atup (aac (av 5) (aac (av 11) aan))) (av 6) (av 10))
    (asq (ass (i := 12) sc_drawnL_.nd rfl (.inl rfl) (acd d_openL_ hg (hr.mono (by decide)) (by rfl) (aac (av 3) (aac (av 7) (aac (av 10) (aac (av 5) aan))))))
    (asq (aslc (own := [("_law_n", 19), ("_law_link", 20)]) (i := 13) rfl sc_drawnL_.nd rfl rfl (sw_true rfl rfl rfl (by decide +kernel)) (aie (by rfl) m_enumerate (aac (aixA (hu_of hr) (av 3) ai (fun _ _ => rfl) (fun _ _ => rfl)) aan)) (blkOk_by (own := [("_law_n", 19), ("_law_link", 20)]) (N := sc_drawnL_N) (sc := sc_drawnL_S) (by decide +kernel)) (by simp [Pat.slots, Pat.slotss]) (fun _ _ _ _ _ => (agt rfl (agl (agn (i := 19) sc_drawnL_.nd rfl (.inl rfl)) (agl (agn (i := 20) sc_drawnL_.nd rfl (.inl rfl)) agl0)))) (fun _ _ _ _ _ => (pts_one (atc (op_eqA hr.units) oEq (aixA (hu_of hr) (av 20) ai (fun _ _ => rfl) (fun _ _ => rfl)) (av 10) (nomark _)))) (fun _ _ _ _ _ => (av 19)))
    (asq (asp2' (ps_par (i := 14) (j := 15) (by rfl) sc_drawnL_.nd rfl rfl (by decide) rfl rfl (aac (atup (aac astr aan)) (aac (acd d_drawL_ hg (hr.mono (by decide)) (by rfl) (aac (av 0) (aac ai aan))) aan)) (by rfl)))
    (asq (asi (atw (aw (atc op_lt oLt (av 15) ai (nomark _)) (aw1 (atc (op_neA hr.units) oNe (av 12) (alst aan) (nomark _))))) (as1 (ass (i := 14) sc_drawnL_.nd rfl (.inl rfl) (atup (aac astr (aac (aixA (hu_of hr) (av 12) (acd d_drawL_ hg (hr.mono (by decide)) (by rfl) (aac (av 0) (aac (acb call_lenA cLen (by rfl) m_len PySem.boot_len (aac (av 12) aan)) aan))) (fun _ _ => rfl) (fun _ _ => rfl)) aan))))) (as1 (asi (atw (aw (atc op_lt oLt (av 15) ai (nomark _)) (aw1 (atc (op_neA hr.units) oNe (av 13) (alst aan) (nomark _))))) (asq (ass (i := 14) sc_drawnL_.nd rfl (.inl rfl) (atup (aac astr (aac (aixA (hu_of hr) (av 13) (acd d_drawL_ hg (hr.mono (by decide)) (by rfl) (aac (av 0) (aac (acb call_lenA cLen (by rfl) m_len PySem.boot_len (aac (av 13) aan)) aan))) (fun _ _ => rfl) (fun _ _ => rfl)) aan))))
    (as1 (asx (am PySem.F.plainAttrs_list PySem.F.slot_list_append PySem.F.type_list_append mt_append mApp tyL (av 7) (aac (atup (aac (av 4) (aac (aixA (hu_of hr) (av 14) ai (fun _ _ => rfl) (fun _ _ => rfl)) (aac (av 5) aan)))) aan))))) asn)))
    (asq (asx (am PySem.F.plainAttrs_list PySem.F.slot_list_append PySem.F.type_list_append mt_append mApp tyL (av 8) (aac (atup (aac (av 10) (aac (acd d_fracL_ hg (hr.mono (by decide)) (by rfl) (aac (av 11) (aac ai aan))) (aac (av 14) aan)))) aan)))
    (as1 (asx (am PySem.F.plainAttrs_list PySem.F.slot_list_append PySem.F.type_list_append mt_append mApp tyL (av 9) (aac (atup (aac (av 5) (aac ai aan))) aan)))))))))))))))
    (as1 (asr (atup (aac (atup (aac (av 3) (aac (act call_tuple_of cTuple (by rfl) m_tuple (by decide +kernel) (aac (av 8) aan)) aan))) (aac (act call_tuple_of cTuple (by rfl) m_tuple (by decide +kernel) (aac (av 9) aan)) aan))))))))
def ss_barredL_ : {s : Stmt // topS 59 = s} := by
  refine ⟨?l, ?h⟩
  case h =>
    conv => lhs; whnf
abbrev st_barredL_ : Stmt := ss_barredL_.1
theorem sc_barredL_ : FnScope ["_law_feed_here", "_law_history", "_law_links", "_law_field_here", "_law_events", "_law_way", "_law_at", "_law_more", "_law_found", "_law_n", "_law_one", "_law_other", "_law_least", "_law_end", "_law_name", "_law_stamp", "_law_deed"] ["_law_feed_here", "_law_history"] (defScope st_barredL_) := ⟨rfl, rfl, rfl, by decide +kernel, rfl, by decide +kernel, by decide +kernel⟩
theorem ok_barredL_ {f : Addr} {fd : FuncData} (F : Fun K "_law_barred" "_law_barred" st_barredL_ f fd) (hb : Binds K fd ["_law_feed_here", "_law_history"] []) (hm : mg "_law_barred" = some (.ref f)) (d_drawL_ : Def P w K mg base 1 "_law_draw" ["_law_feed_here", "_law_many"] drawL_) (d_fracL_ : Def P w K mg base 1 "_law_frac" ["_law_top", "_law_bottom"] fracL_) (m_list : mg "list" = none) (m_range : mg "range" = none) (m_max : mg "max" = none) (m_len : mg "len" = none) (m_tuple : mg "tuple" = none) : Def P w K mg base 2 "_law_barred" ["_law_feed_here", "_law_history"] barredL_ :=
  fn_a F sc_barredL_ hb hm (g := barredL_B) fun cdv A outer s H E hg hr => (asq (asa (av 1) (agt rfl (agl (agn (i := 3) sc_barredL_.nd rfl (.inl rfl)) (agl (agn (i := 4) sc_barredL_.nd rfl (.inl rfl)) agl0))))
    (asq (asp2' (ps_par (i := 5) (j := 6) (by rfl) sc_barredL_.nd rfl rfl (by decide) rfl rfl (aac (acd d_drawL_ hg (hr.mono (by decide)) (by rfl) (aac (av 0) (aac ai aan))) (aac (acd d_drawL_ hg (hr.mono (by decide)) (by rfl) (aac (av 0) (aac (acb (call_maxA rfl) cMaxA (by rfl) m_max (by decide +kernel) (aac ai (aac (acb call_lenA cLen (by rfl) m_len PySem.boot_len (aac (av 4) aan)) aan))) aan))) aan)) (by rfl)))
    (asq (asi (atw (aw (atc (op_eqA hr.units) oEq (av 5) ai (nomark _)) (aw1 (atc (op_neA hr.units) oNe (av 4) (atup aan) (nomark _))))) (asq (ass (i := 7) sc_barredL_.nd rfl (.inl rfl) (aop op_addA oAdd ai (acd d_drawL_ hg (hr.mono (by decide)) (by rfl) (aac (av 0) (aac ai aan)))))
    (asq (ass (i := 8) sc_barredL_.nd rfl (.inl rfl) (act call_list_of cList (by rfl) m_list (by decide +kernel) (aac (av 4) aan)))
    (asq (asf PassesOwn.never rfl (air2 (by rfl) m_range (aac (av 6) (aac (acb call_lenA cLen (by rfl) m_len PySem.boot_len (aac (av 4) aan)) aan))) (agn (i := 9) sc_barredL_.nd rfl (.inl rfl)) (asq (asa (aixA (hu_of hr) (av 4) (av 9) (fun _ _ => rfl) (fun _ _ => rfl)) (agt rfl (agl (agn (i := 14) sc_barredL_.nd rfl (.inl rfl)) (agl (agn (i := 15) sc_barredL_.nd rfl (.inl rfl)) (agl (agn (i := 16) sc_barredL_.nd rfl (.inl rfl)) agl0)))))
    (as1 (asi (atc (op_eqA hr.units) oEq (av 14) (aixA (hu_of hr) (aixA (hu_of hr) (av 4) (av 6) (fun _ _ => rfl) (fun _ _ => rfl)) ai (fun _ _ => rfl) (fun _ _ => rfl)) (nomark _)) (as1 (asuA (hu_of hr) (atup (aac (av 14) (aac (acd d_fracL_ hg (hr.mono (by decide)) (by rfl) (aac (aop op_addA oAdd (aop op_fdivW oDiv (aop op_mulW oMul (aixA (hu_of hr) (av 15) ai (fun _ _ => rfl) (fun _ _ => rfl)) ai) (aixA (hu_of hr) (av 15) ai (fun _ _ => rfl) (fun _ _ => rfl))) (av 7)) (aac ai aan))) (aac (av 16) aan)))) (av 8) (av 9))) asn))))
    (as1 (asr (atup (aac (av 3) (aac (act call_tuple_of cTuple (by rfl) m_tuple (by decide +kernel) (aac (av 8) aan)) aan)))))))) asn)
    (asq (ass (i := 2) sc_barredL_.nd rfl (.inl rfl) (alst aan))
    (asq (asf PassesOwn.never rfl (ais (aixA (hu_of hr) (av 3) ai (fun _ _ => rfl) (fun _ _ => rfl))) (agt rfl (agl (agn (i := 10) sc_barredL_.nd rfl (.inl rfl)) (agl (agn (i := 11) sc_barredL_.nd rfl (.inl rfl)) (agl (agn (i := 12) sc_barredL_.nd rfl (.inl rfl)) (agl (agn (i := 13) sc_barredL_.nd rfl (.inl rfl)) agl0))))) (as1 (asi (atc (op_eqA hr.units) oEq (av 5) ai (nomark _)) (as1 (asx (am PySem.F.plainAttrs_list PySem.F.slot_list_append PySem.F.type_list_append mt_append mApp tyL (av 2) (aac (atup (aac (av 10) (aac (av 11) (aac (acd d_fracL_ hg (hr.mono (by decide)) (by rfl) (aac (aop op_addA oAdd (aop op_fdivW oDiv (aop op_mulW oMul (aixA (hu_of hr) (av 12) ai (fun _ _ => rfl) (fun _ _ => rfl)) ai) (aixA (hu_of hr) (av 12) ai (fun _ _ => rfl) (fun _ _ => rfl))) ai) (aac ai aan))) (aac (aif (atc op_isN oIs (av 13) an (nomark _)) an (atup (aac ai (aac ai aan)))) aan))))) aan)))) (as1 (asx (am PySem.F.plainAttrs_list PySem.F.slot_list_append PySem.F.type_list_append mt_append mApp tyL (av 2) (aac (atup (aac (av 10) (aac (av 11) (aac (av 12) (aac (av 12) aan))))) aan)))))))
    (as1 (asr (atup (aac (atup (aac (aixA (hu_of hr) (av 3) ai (fun _ _ => rfl) (fun _ _ => rfl)) (aac (act call_tuple_of cTuple (by rfl) m_tuple (by decide +kernel) (aac (av 2) aan)) (aac (aixA (hu_of hr) (av 3) ai (fun _ _ => rfl) (fun _ _ => rfl)) aan)))) (aac (av 4) aan))))))))))
def ss_letL_ : {s : Stmt // topS 60 = s} := by
  refine ⟨?l, ?h⟩
  case h =>
    conv => lhs; whnf
abbrev st_letL_ : Stmt := ss_letL_.1
theorem sc_letL_ : FnScope ["_law_look", "_law_history", "_law_thing", "_law_found"] ["_law_look", "_law_history", "_law_thing"] (defScope st_letL_) := ⟨rfl, rfl, rfl, by decide +kernel, rfl, by decide +kernel, by decide +kernel⟩
theorem ok_letL_ {f : Addr} {fd : FuncData} (F : Fun K "_law_let" "_law_let" st_letL_ f fd) (hb : Binds K fd ["_law_look", "_law_history", "_law_thing"] []) (hm : mg "_law_let" = some (.ref f)) (d_lets_ring_ : DefX P w K mg base 7 "lets_ring" ["history", "thing"] lets_ring_) (d_lets_world_ : DefX P w K mg base 8 "lets_world" ["history", "thing"] lets_world_) (hV_lets_ring : mg "lets_ring" = some (.ref (AL.TT.cls "lets_ring"))) (hV_lets_world : mg "lets_world" = some (.ref (AL.TT.cls "lets_world"))) {v_NoPaper : Value} (cl_NoPaper : mg "NoPaper" = some v_NoPaper) (ex_NoPaper : PySem.W.exmOne K v_NoPaper v_NoPaper = some true) : Def P w K mg base 9 "_law_let" ["_law_look", "_law_history", "_law_thing"] letL_ :=
  fn_a F sc_letL_ hb hm (g := letL_B) fun cdv A outer s H E hg hr => (asq (ass (i := 3) sc_letL_.nd rfl (.inl rfl) an)
    (asq (astryX rfl rfl cl_NoPaper (by rfl) ex_NoPaper (fun W pn xe tk => (xss (i := 3) sc_letL_.nd rfl (.inl rfl) (acdV (i := 0) (fun z hz => by
    simp only [List.mem_cons, List.not_mem_nil, or_false] at hz
    rcases hz with rfl | rfl
    · exact ⟨hV_lets_ring, _, _, hr.mono (by decide), rfl, d_lets_ring_⟩
    · exact ⟨hV_lets_world, _, _, hr.mono (by decide), rfl, d_lets_world_⟩) hg rfl (by first | exact Or.inl rfl | exact Or.inr (Or.inl rfl) | exact Or.inr (Or.inr rfl)) tk (aac (av 1) (aac (av 2) aan))))) (fun a pn => (as1 (ass (i := 3) sc_letL_.nd rfl (.inl rfl) an))))
    (as1 (asr (av 3)))))
def ss_barringL_ : {s : Stmt // topS 61 = s} := by
  refine ⟨?l, ?h⟩
  case h =>
    conv => lhs; whnf
abbrev st_barringL_ : Stmt := ss_barringL_.1
theorem sc_barringL_ : FnScope ["_law_history", "_law_found", "e"] ["_law_history"] (defScope st_barringL_) := ⟨rfl, rfl, rfl, by decide +kernel, rfl, by decide +kernel, by decide +kernel⟩
theorem ok_barringL_ {f : Addr} {fd : FuncData} (F : Fun K "_law_barring" "_law_barring" st_barringL_ f fd) (hb : Binds K fd ["_law_history"] []) (hm : mg "_law_barring" = some (.ref f)) (d_reach_ : DefX P w K mg base 11 "reach" ["history", "x", "y"] reach_) {v_NoWorld : Value} (cl_NoWorld : mg "NoWorld" = some v_NoWorld) (hx_NoWorld : ∃ D, mg "NoWorld" = some (.ref D) ∧ PySem.W.exmOne K (.ref D) v_NoWorld = some true) (ke_NoWorld : KnE K mg "NoWorld") (m_len : mg "len" = none) : Def P w K mg base 12 "_law_barring" ["_law_history"] barringL_ :=
  fn_a F sc_barringL_ hb hm (g := barringL_B) fun cdv A outer s H E hg hr => (asq (ass (i := 1) sc_barringL_.nd rfl (.inl rfl) an)
    (asq (astryE rfl rfl sc_barringL_.nd rfl rfl (tests_name ⟨by rfl, by decide, .inl cl_NoWorld⟩) (fun c hc => by
    simp only [List.mem_cons, List.not_mem_nil, or_false] at hc; rcases hc with rfl
    · exact hx_NoWorld) (fun W pn xe tk => (xsx (acdX d_reach_ hg (hr.mono (by decide)) (by rfl) tk (aac (av 0) (aac ai (aac (aop op_sub oSub (acb call_lenA cLen (by rfl) m_len PySem.boot_len (aac (aixA (hu_of hr) (av 0) ai (fun _ _ => rfl) (fun _ _ => rfl)) aan)) ai) aan)))))) (fun a oe D dd pn c vs hc hm hz hf => by
    simp only [List.mem_cons, List.not_mem_nil, or_false] at hc; rcases hc with rfl
    · unfold barringL_H; rw [if_pos rfl]; exact (as1 (ass (i := 1) sc_barringL_.nd rfl (.inl rfl) (axf (j := 0) ke_NoWorld hm hz hf rfl (by first | exact Or.inl rfl | exact Or.inr (Or.inl rfl) | exact Or.inr (Or.inr rfl)) rfl rfl)))))
    (as1 (asr (av 1)))))
def ss_rightL_ : {s : Stmt // topS 62 = s} := by
  refine ⟨?l, ?h⟩
  case h =>
    conv => lhs; whnf
abbrev st_rightL_ : Stmt := ss_rightL_.1
abbrev sc_rightL_N : List Str := ["_law_history", "_law_clocked", "_law_word", "_law_thing", "_law_ring", "_law_barring_here", "_law_later", "_law_one", "_law_time"]
abbrev sc_rightL_S : Scope := defScope st_rightL_
theorem sc_rightL_ : FnScope ["_law_history", "_law_clocked", "_law_word", "_law_thing", "_law_ring", "_law_barring_here", "_law_later", "_law_one", "_law_time"] ["_law_history", "_law_clocked"] (defScope st_rightL_) := ⟨rfl, rfl, rfl, by decide +kernel, rfl, by decide +kernel, by decide +kernel⟩
theorem ok_rightL_ {f : Addr} {fd : FuncData} (F : Fun K "_law_right" "_law_right" st_rightL_ f fd) (hb : Binds K fd ["_law_history", "_law_clocked"] []) (hm : mg "_law_right" = some (.ref f)) (d_world_or_ring_ : Def P w K mg base 7 "world_or_ring" ["history"] world_or_ring_) (d_ring_of_ : Def P w K mg base 8 "ring_of" ["history"] ring_of_) (d_barringL_ : Def P w K mg base 12 "_law_barring" ["_law_history"] barringL_) (d_letL_ : Def P w K mg base 9 "_law_let" ["_law_look", "_law_history", "_law_thing"] letL_) (d_fracL_ : Def P w K mg base 1 "_law_frac" ["_law_top", "_law_bottom"] fracL_) (hV_lets_ring : mg "lets_ring" = some (.ref (AL.TT.cls "lets_ring"))) (hV_lets_world : mg "lets_world" = some (.ref (AL.TT.cls "lets_world"))) (m_tuple : mg "tuple" = none) (m_len : mg "len" = none) : Def P w K mg base 13 "_law_right" ["_law_history", "_law_clocked"] rightL_ :=
  fn_a F sc_rightL_ hb hm (g := rightL_B) fun cdv A outer s H E hg hr => (asq (asa (acd d_world_or_ring_ hg (hr.mono (by decide)) (by rfl) (aac (av 0) aan)) (agt rfl (agl (agn (i := 2) sc_rightL_.nd rfl (.inl rfl)) (agl (agn (i := 3) sc_rightL_.nd rfl (.inl rfl)) agl0))))
    (asq (asp2' (ps_par (i := 4) (j := 5) (by rfl) sc_rightL_.nd rfl rfl (by decide) rfl rfl (aac (acd d_ring_of_ hg (hr.mono (by decide)) (by rfl) (aac (av 0) aan)) (aac (acd d_barringL_ hg (hr.mono (by decide)) (by rfl) (aac (av 0) aan)) aan)) (by rfl)))
    (asq (asi (atc (op_eqA hr.units) oEq (av 2) astr (nomark _)) (asq (ass (i := 6) sc_rightL_.nd rfl (.inl rfl) (act call_tuple_of cTuple (by rfl) m_tuple (by decide +kernel) (aac (alc (own := [("_law_time", 8)]) rfl sc_rightL_.nd (ais (av 3)) (blkOk_by (own := [("_law_time", 8)]) (N := sc_rightL_N) (sc := sc_rightL_S) (by decide +kernel)) (by simp [Pat.slots, Pat.slotss]) (fun _ _ _ _ _ => (agn (i := 8) sc_rightL_.nd rfl (.inl rfl))) (fun _ _ _ _ _ => ats0) (fun _ _ _ _ _ => (acd d_fracL_ hg (hr.mono (by decide)) (by rfl) (aac (aop op_addA oAdd (aop op_mulW oMul (aixA (hu_of hr) (av 8) ai (fun _ _ => rfl) (fun _ _ => rfl)) ai) (aop op_mulW oMul ai (aixA (hu_of hr) (av 8) ai (fun _ _ => rfl) (fun _ _ => rfl)))) (aac (aop op_mulW oMul ai (aixA (hu_of hr) (av 8) ai (fun _ _ => rfl) (fun _ _ => rfl))) aan))))) aan)))
    (asq (asi (atw (awo (atc op_notN oIsN (av 4) an (nomark _)) (awo (atc op_notN oIsN (av 5) an (nomark _)) (awo1 (atc op_notN oIsN (acd d_letL_ hg (hr.mono (by decide)) (by rfl) (aac (aglF (by rfl) hV_lets_ring) (aac (av 0) (aac (atup (aac ai (aac ai aan))) aan)))) an (nomark _)))))) (as1 (asr abl)) asn)
    (as1 (asr (acm (op_eqA hr.units) oEq (alc (own := [("_law_one", 7)]) rfl sc_rightL_.nd (ais (atup (aac (av 3) (aac (av 6) aan)))) (blkOk_by (own := [("_law_one", 7)]) (N := sc_rightL_N) (sc := sc_rightL_S) (by decide +kernel)) (by simp [Pat.slots, Pat.slotss]) (fun _ _ _ _ _ => (agn (i := 7) sc_rightL_.nd rfl (.inl rfl))) (fun _ _ _ _ _ => ats0) (fun _ _ _ _ _ => (acd d_letL_ hg (hr.mono (by decide)) (by rfl) (aac (aglF (by rfl) hV_lets_world) (aac (av 0) (aac (av 7) aan)))))) (aop op_rep oRep (alst (aac (acb call_lenA cLen (by rfl) m_len PySem.boot_len (aac (av 3) aan)) aan)) ai) (nomark _)))))) asn)
    (asq (asi (atw (awo (atc (op_neA hr.units) oNe (av 2) astr (nomark _)) (awo1 (atc op_notN oIsN (acd d_letL_ hg (hr.mono (by decide)) (by rfl) (aac (aglF (by rfl) hV_lets_world) (aac (av 0) (aac (av 1) aan)))) an (nomark _))))) (as1 (asr abl)) asn)
    (as1 (asr (acm (op_notInD (hu65 hr)) oNInD an (alc (own := [("_law_one", 7)]) rfl sc_rightL_.nd (ais (atup (aac (av 3) (aac (av 4) (aac (av 5) aan))))) (blkOk_by (own := [("_law_one", 7)]) (N := sc_rightL_N) (sc := sc_rightL_S) (by decide +kernel)) (by simp [Pat.slots, Pat.slotss]) (fun _ _ _ _ _ => (agn (i := 7) sc_rightL_.nd rfl (.inl rfl))) (fun _ _ _ _ _ => (pts_one (atc op_notN oIsN (av 7) an (nomark _)))) (fun _ _ _ _ _ => (acd d_letL_ hg (hr.mono (by decide)) (by rfl) (aac (aglF (by rfl) hV_lets_ring) (aac (av 0) (aac (av 7) aan)))))) (by rfl))))))))
def ss_law_ : {s : Stmt // topS 63 = s} := by
  refine ⟨?l, ?h⟩
  case h =>
    conv => lhs; whnf
abbrev st_law_ : Stmt := ss_law_.1
theorem sc_law_ : FnScope ["_law_script", "_law_feed_here", "_law_turn", "_law_near", "_law_k", "_law_history", "_law_clocked"] ["_law_script"] (defScope st_law_) := ⟨rfl, rfl, rfl, by decide +kernel, rfl, by decide +kernel, by decide +kernel⟩
theorem ok_law_ {f : Addr} {fd : FuncData} (F : Fun K "law" "law" st_law_ f fd) (d_feedL_ : Def P w K mg base 1 "_law_feed" ["_law_script"] feedL_) (d_drawnL_ : Def P w K mg base 3 "_law_drawn" ["_law_feed_here", "_law_most", "_law_many"] drawnL_) (d_barredL_ : Def P w K mg base 2 "_law_barred" ["_law_feed_here", "_law_history"] barredL_) (d_drawL_ : Def P w K mg base 1 "_law_draw" ["_law_feed_here", "_law_many"] drawL_) (d_letL_ : Def P w K mg base 9 "_law_let" ["_law_look", "_law_history", "_law_thing"] letL_) (d_rightL_ : Def P w K mg base 13 "_law_right" ["_law_history", "_law_clocked"] rightL_) (d_world_or_ring_ : Def P w K mg base 7 "world_or_ring" ["history"] world_or_ring_) (d_ring_of_ : Def P w K mg base 8 "ring_of" ["history"] ring_of_) (d_barringL_ : Def P w K mg base 12 "_law_barring" ["_law_history"] barringL_) (hV_lets_world : mg "lets_world" = some (.ref (AL.TT.cls "lets_world"))) (m_range : mg "range" = none) (m_len : mg "len" = none) : FnG P w K mg base 14 f fd ["_law_script"] (spA K 1 law_) :=
  fn_aG F sc_law_ (g := law_B) fun cdv A outer s H E hg hr => (asq (ass (i := 1) sc_law_.nd rfl (.inl rfl) (acd d_feedL_ hg (hr.mono (by decide)) (by rfl) (aac (av 0) aan)))
    (asq (asf PassesOwn.never rfl (air1 (by rfl) m_range (aac ai aan)) (agn (i := 2) sc_law_.nd rfl (.inl rfl)) (asq (asa (acd d_drawnL_ hg (hr.mono (by decide)) (by rfl) (aac (av 1) (aac ai (aac (aop op_addA oAdd ai (acd d_drawL_ hg (hr.mono (by decide)) (by rfl) (aac (av 1) (aac ai aan)))) aan)))) (agt rfl (agl (agn (i := 5) sc_law_.nd rfl (.inl rfl)) (agl (agn (i := 6) sc_law_.nd rfl (.inl rfl)) agl0))))
    (asq (asi (atw (awo (atc (op_neA hr.units) oNe (aixA (hu_of hr) (acd d_world_or_ring_ hg (hr.mono (by decide)) (by rfl) (aac (av 5) aan)) ai (fun _ _ => rfl) (fun _ _ => rfl)) astr (nomark _)) (awo1 (atc (op_neA hr.units) oNe (acd d_letL_ hg (hr.mono (by decide)) (by rfl) (aac (aglF (by rfl) hV_lets_world) (aac (av 5) (aac (av 6) aan)))) (acb call_lenA cLen (by rfl) m_len PySem.boot_len (aac (av 6) aan)) (nomark _))))) (as1 (asr abl)) asn)
    (asq (ass (i := 3) sc_law_.nd rfl (.inl rfl) (av 5))
    (as1 (asf PassesOwn.never rfl (air1 (by rfl) m_range (aac ai aan)) (agn (i := 4) sc_law_.nd rfl (.inl rfl)) (asq (ass (i := 3) sc_law_.nd rfl (.inl rfl) (acd d_barredL_ hg (hr.mono (by decide)) (by rfl) (aac (av 1) (aac (av 3) aan))))
    (asq (asi (atn (atv (acd d_rightL_ hg (hr.mono (by decide)) (by rfl) (aac (av 3) (aac (av 6) aan))))) (as1 (asr abl)) asn)
    (as1 (asi (atw (aw (atc (op_eqA hr.units) oEq (aixA (hu_of hr) (acd d_world_or_ring_ hg (hr.mono (by decide)) (by rfl) (aac (av 3) aan)) ai (fun _ _ => rfl) (fun _ _ => rfl)) astr (nomark _)) (aw1 (atw (awo (atc op_isN oIs (acd d_ring_of_ hg (hr.mono (by decide)) (by rfl) (aac (av 3) aan)) an (nomark _)) (awo1 (atc op_isN oIs (acd d_barringL_ hg (hr.mono (by decide)) (by rfl) (aac (av 3) aan)) an (nomark _)))))))) (as1 (asr abl)) asn))))))))))
    (as1 (asr abl))))
end
end K27
namespace Fr

def mk (a b : Int) : Int × Int :=
  if b < 0 then ((-a) / ((Int.gcd a b : Nat) : Int), (-b) / ((Int.gcd a b : Nat) : Int)) else (a / ((Int.gcd a b : Nat) : Int), b / ((Int.gcd a b : Nat) : Int))
theorem gcd_pos {a b : Int} (h : b ≠ 0) : 0 < Int.gcd a b := Int.gcd_pos_of_ne_zero_right a h
theorem core {a b : Int} (h : 0 < b) : ∃ x y : Int, a / ((Int.gcd a b : Nat) : Int) = x ∧ b / ((Int.gcd a b : Nat) : Int) = y ∧ a = x * ((Int.gcd a b : Nat) : Int) ∧ b = y * ((Int.gcd a b : Nat) : Int) ∧ 0 < y ∧ Int.gcd x y = 1 := by
  have g0 : 0 < Int.gcd a b := gcd_pos (by omega)
  have gi : (0 : Int) < ((Int.gcd a b : Nat) : Int) := by omega
  have ea : a / ((Int.gcd a b : Nat) : Int) * ((Int.gcd a b : Nat) : Int) = a := Int.ediv_mul_cancel (Int.gcd_dvd_left ..)
  have eb : b / ((Int.gcd a b : Nat) : Int) * ((Int.gcd a b : Nat) : Int) = b := Int.ediv_mul_cancel (Int.gcd_dvd_right ..)
  refine ⟨_, _, rfl, rfl, ea.symm, eb.symm, ?_, ?_⟩
  · have : 0 < b / ((Int.gcd a b : Nat) : Int) * ((Int.gcd a b : Nat) : Int) := by rw [eb]; exact h
    exact Int.pos_of_mul_pos_left this gi
  · rw [Int.gcd_ediv_gcd_ediv_gcd g0]
theorem mk_all {a b : Int} (h : b ≠ 0) : ∃ x y : Int, mk a b = (x, y) ∧ 0 < y ∧ Int.gcd x y = 1 ∧ x * b = a * y ∧ x.natAbs ≤ a.natAbs ∧ y.natAbs ≤ b.natAbs := by
  have key : ∀ {a b : Int}, 0 < b → ∃ x y : Int, (a / ((Int.gcd a b : Nat) : Int), b / ((Int.gcd a b : Nat) : Int)) = (x, y) ∧ 0 < y ∧ Int.gcd x y = 1 ∧ x * b = a * y ∧ x.natAbs ≤ a.natAbs ∧ y.natAbs ≤ b.natAbs := by
    intro a b h
    obtain ⟨x, y, ex, ey, ea, eb, hy, hg⟩ := core (a := a) h
    have g0 : 0 < Int.gcd a b := gcd_pos (by omega)
    refine ⟨x, y, by rw [ex, ey], hy, hg, ?_, ?_, ?_⟩
    · generalize ((Int.gcd a b : Nat) : Int) = g at *
      subst ea eb
      rw [Int.mul_comm y g, ← Int.mul_assoc]
    · have := congrArg Int.natAbs ea
      rw [Int.natAbs_mul, Int.natAbs_natCast] at this
      rw [this]
      exact Nat.le_mul_of_pos_right _ g0
    · have := congrArg Int.natAbs eb
      rw [Int.natAbs_mul, Int.natAbs_natCast] at this
      rw [this]
      exact Nat.le_mul_of_pos_right _ g0
  unfold mk
  by_cases hb : b < 0
  · rw [if_pos hb]
    obtain ⟨x, y, e, hy, hg, hc, h1, h2⟩ := key (a := -a) (b := -b) (by omega)
    rw [Int.neg_gcd, Int.gcd_neg] at e
    refine ⟨x, y, e, hy, hg, ?_, by simpa using h1, by simpa using h2⟩
    rw [Int.mul_neg, Int.neg_mul] at hc
    exact Int.neg_inj.mp hc
  · rw [if_neg hb]
    exact key (by omega)
theorem uniq {x y u v : Int} (hy : 0 < y) (hv : 0 < v) (g : Int.gcd x y = 1) (g' : Int.gcd u v = 1) (e : x * v = u * y) : (x, y) = (u, v) := by
  have en : x.natAbs * v.natAbs = u.natAbs * y.natAbs := by
    have := congrArg Int.natAbs e
    rwa [Int.natAbs_mul, Int.natAbs_mul] at this
  have c1 : Nat.Coprime y.natAbs x.natAbs := by
    have : Nat.gcd x.natAbs y.natAbs = 1 := g
    exact Nat.Coprime.symm this
  have c2 : Nat.Coprime v.natAbs u.natAbs := by
    have : Nat.gcd u.natAbs v.natAbs = 1 := g'
    exact Nat.Coprime.symm this
  have d1 : y.natAbs ∣ v.natAbs := c1.dvd_of_dvd_mul_left (by rw [en]; exact Nat.dvd_mul_left _ _)
  have d2 : v.natAbs ∣ y.natAbs := c2.dvd_of_dvd_mul_left (by rw [← en]; exact Nat.dvd_mul_left _ _)
  have eyv : y.natAbs = v.natAbs := Nat.dvd_antisymm d1 d2
  have eq : y = v := by omega
  subst eq
  have ex : x = u := Int.eq_of_mul_eq_mul_right (by omega) e
  rw [ex]
theorem mk_eq {a b c d : Int} (hb : b ≠ 0) (hd : d ≠ 0) (e : a * d = c * b) : mk a b = mk c d := by
  obtain ⟨x, y, e1, hy, hg, hc, _, _⟩ := mk_all (a := a) hb
  obtain ⟨u, v, e2, hv, hg', hc', _, _⟩ := mk_all (a := c) hd
  rw [e1, e2]
  refine uniq hy hv hg hg' ?_
  have h1 : (x * v) * (b * d) = (u * y) * (b * d) := by
    calc (x * v) * (b * d) = (x * b) * (v * d) := by ac_rfl
      _ = (a * y) * (v * d) := by rw [hc]
      _ = (a * d) * (y * v) := by ac_rfl
      _ = (c * b) * (y * v) := by rw [e]
      _ = (c * v) * (y * b) := by ac_rfl
      _ = (u * d) * (y * b) := by rw [hc']
      _ = (u * y) * (b * d) := by ac_rfl
  exact Int.eq_of_mul_eq_mul_right (Int.mul_ne_zero hb hd) h1
theorem mk_self {a b : Int} (hb : 0 < b) (g : Int.gcd a b = 1) : mk a b = (a, b) := by
  unfold mk
  rw [if_neg (by omega), g]
  simp

structure Ok (n : Nat) (p : Int × Int) : Prop where
  pos : 0 < p.2
  cop : Int.gcd p.1 p.2 = 1
  b1 : p.1.natAbs < 2 ^ n
  b2 : p.2.natAbs < 2 ^ n
theorem mk_ok {n : Nat} {a b : Int} (h : b ≠ 0) (ha : a.natAbs < 2 ^ n) (hb : b.natAbs < 2 ^ n) : Ok n (mk a b) := by
  obtain ⟨x, y, e, hy, hg, _, h1, h2⟩ := mk_all (a := a) h
  rw [e]
  exact ⟨hy, hg, by show x.natAbs < _; omega, by show y.natAbs < _; omega⟩
theorem mk_cross {a b : Int} (h : b ≠ 0) : (mk a b).1 * b = a * (mk a b).2 := by
  obtain ⟨x, y, e, hy, hg, hc, _, _⟩ := mk_all (a := a) h
  rw [e]
  exact hc
theorem mk_pos {a b : Int} (h : b ≠ 0) : 0 < (mk a b).2 := by
  obtain ⟨x, y, e, hy, _⟩ := mk_all (a := a) h
  rw [e]
  exact hy
theorem Ok.mono {n m : Nat} {p : Int × Int} (h : Ok n p) (hnm : n ≤ m) : Ok m p :=
  ⟨h.pos, h.cop, Nat.lt_of_lt_of_le h.b1 (Nat.pow_le_pow_right (by decide) hnm), Nat.lt_of_lt_of_le h.b2 (Nat.pow_le_pow_right (by decide) hnm)⟩
def add (p q : Int × Int) : Int × Int := mk (p.1 * q.2 + q.1 * p.2) (p.2 * q.2)
def sub (p q : Int × Int) : Int × Int := mk (p.1 * q.2 - q.1 * p.2) (p.2 * q.2)
def div (p q : Int × Int) : Int × Int := mk (p.1 * q.2) (p.2 * q.1)
theorem bmul {n m : Nat} {a b : Int} (ha : a.natAbs < 2 ^ n) (hb : b.natAbs < 2 ^ m) : (a * b).natAbs < 2 ^ (n + m) := by
  rw [Int.natAbs_mul, Nat.pow_add]
  exact Nat.mul_lt_mul'' ha hb
theorem bsub {n : Nat} {a b : Int} (ha : a.natAbs < 2 ^ n) (hb : b.natAbs < 2 ^ n) : (a - b).natAbs < 2 ^ (n + 1) := by
  rw [Nat.pow_succ]
  omega
theorem bmono {n m : Nat} {a : Int} (ha : a.natAbs < 2 ^ n) (h : n ≤ m) : a.natAbs < 2 ^ m := Nat.lt_of_lt_of_le ha (Nat.pow_le_pow_right (by decide) h)
theorem sub_ok {n m : Nat} {p q : Int × Int} (hp : Ok n p) (hq : Ok m q) : Ok (n + m + 1) (sub p q) :=
  mk_ok (Int.mul_ne_zero (by have := hp.pos; omega) (by have := hq.pos; omega)) (bsub (bmul hp.b1 hq.b2) (bmono (bmul hq.b1 hp.b2) (by omega))) (bmono (bmul hp.b2 hq.b2) (by omega))
theorem div_ok {n m : Nat} {p q : Int × Int} (hp : Ok n p) (hq : Ok m q) (h0 : q.1 ≠ 0) : Ok (n + m) (div p q) :=
  mk_ok (Int.mul_ne_zero (by have := hp.pos; omega) h0) (bmul hp.b1 hq.b2) (bmul hp.b2 hq.b1)

def Is (p : Int × Int) (a b : Int) : Prop := p = mk a b ∧ b ≠ 0
theorem Ok.is {n : Nat} {p : Int × Int} (h : Ok n p) : Is p p.1 p.2 := ⟨(mk_self h.pos h.cop).symm, by have := h.pos; omega⟩
theorem Is.same {p q : Int × Int} {a b c d : Int} (hp : Is p a b) (hq : Is q c d) (e : a * d = c * b) : p = q := by
  rw [hp.1, hq.1]
  exact mk_eq hp.2 hq.2 e
theorem Is.add {p q : Int × Int} {a b c d : Int} (hp : Is p a b) (hq : Is q c d) : Is (add p q) (a * d + c * b) (b * d) := by
  refine ⟨?_, Int.mul_ne_zero hp.2 hq.2⟩
  unfold Fr.add
  have h1 := mk_cross (a := a) hp.2
  have h2 := mk_cross (a := c) hq.2
  rw [← hp.1] at h1
  rw [← hq.1] at h2
  have p0 : p.2 ≠ 0 := by rw [hp.1]; have := mk_pos (a := a) hp.2; omega
  have q0 : q.2 ≠ 0 := by rw [hq.1]; have := mk_pos (a := c) hq.2; omega
  refine mk_eq (Int.mul_ne_zero p0 q0) (Int.mul_ne_zero hp.2 hq.2) ?_
  rw [Int.add_mul, Int.add_mul]
  have e1 : p.1 * q.2 * (b * d) = a * d * (p.2 * q.2) := by
    calc p.1 * q.2 * (b * d) = (p.1 * b) * (q.2 * d) := by ac_rfl
      _ = (a * p.2) * (q.2 * d) := by rw [h1]
      _ = a * d * (p.2 * q.2) := by ac_rfl
  have e2 : q.1 * p.2 * (b * d) = c * b * (p.2 * q.2) := by
    calc q.1 * p.2 * (b * d) = (q.1 * d) * (p.2 * b) := by ac_rfl
      _ = (c * q.2) * (p.2 * b) := by rw [h2]
      _ = c * b * (p.2 * q.2) := by ac_rfl
  rw [e1, e2]
theorem Is.sub {p q : Int × Int} {a b c d : Int} (hp : Is p a b) (hq : Is q c d) : Is (sub p q) (a * d - c * b) (b * d) := by
  refine ⟨?_, Int.mul_ne_zero hp.2 hq.2⟩
  unfold Fr.sub
  have h1 := mk_cross (a := a) hp.2
  have h2 := mk_cross (a := c) hq.2
  rw [← hp.1] at h1
  rw [← hq.1] at h2
  have p0 : p.2 ≠ 0 := by rw [hp.1]; have := mk_pos (a := a) hp.2; omega
  have q0 : q.2 ≠ 0 := by rw [hq.1]; have := mk_pos (a := c) hq.2; omega
  refine mk_eq (Int.mul_ne_zero p0 q0) (Int.mul_ne_zero hp.2 hq.2) ?_
  rw [Int.sub_mul, Int.sub_mul]
  have e1 : p.1 * q.2 * (b * d) = a * d * (p.2 * q.2) := by
    calc p.1 * q.2 * (b * d) = (p.1 * b) * (q.2 * d) := by ac_rfl
      _ = (a * p.2) * (q.2 * d) := by rw [h1]
      _ = a * d * (p.2 * q.2) := by ac_rfl
  have e2 : q.1 * p.2 * (b * d) = c * b * (p.2 * q.2) := by
    calc q.1 * p.2 * (b * d) = (q.1 * d) * (p.2 * b) := by ac_rfl
      _ = (c * q.2) * (p.2 * b) := by rw [h2]
      _ = c * b * (p.2 * q.2) := by ac_rfl
  rw [e1, e2]
theorem Is.div {p q : Int × Int} {a b c d : Int} (hp : Is p a b) (hq : Is q c d) (h0 : c ≠ 0) : Is (div p q) (a * d) (b * c) := by
  refine ⟨?_, Int.mul_ne_zero hp.2 h0⟩
  unfold Fr.div
  have h1 := mk_cross (a := a) hp.2
  have h2 := mk_cross (a := c) hq.2
  rw [← hp.1] at h1
  rw [← hq.1] at h2
  have p0 : p.2 ≠ 0 := by rw [hp.1]; have := mk_pos (a := a) hp.2; omega
  have q0 : q.2 ≠ 0 := by rw [hq.1]; have := mk_pos (a := c) hq.2; omega
  have q1 : q.1 ≠ 0 := by
    intro z
    rw [z, Int.zero_mul] at h2
    exact (Int.mul_ne_zero h0 q0) h2.symm
  refine mk_eq (Int.mul_ne_zero p0 q1) (Int.mul_ne_zero hp.2 h0) ?_
  calc p.1 * q.2 * (b * c) = (p.1 * b) * (c * q.2) := by ac_rfl
    _ = (a * p.2) * (q.1 * d) := by rw [h1, h2]
    _ = a * d * (p.2 * q.1) := by ac_rfl
end Fr
namespace K37
open PySem PySem.Spec PyProof.Rows L2 G Th AL
abbrev Fq := Int × Int
def frV (x : Fq) : Val := .tup [.int x.1, .int x.2]
structure Bd (x : Int × Int) : Prop where
  pos : 0 < x.2
  b1 : x.1.natAbs < 2 ^ 900
  b2 : x.2.natAbs < 2 ^ 900
theorem mw {i j : Int} (hi : i.natAbs < 2 ^ 900) (hj : j.natAbs < 2 ^ 900) : CMulW i j := wide_mul hi hj (by decide) (by decide) (by decide)
theorem gMul_eq {a b : Int} {S : Sto} (h : CMulW a b) : gMul (.int a) (.int b) S = some (.int (a * b), S) := if_pos h
theorem gDiv_eq {a b : Int} {S : Sto} (h : CDivW a b) : gDiv (.int a) (.int b) S = some (.int (a / b), S) := if_pos h
theorem gMod_eq {a b : Int} {S : Sto} (h : b ≠ 0) : gMod (.int a) (.int b) S = some (.int (a.fmod b), S) := if_pos h
theorem at0 {α : Type} {x : α} {xs : List α} : atI (x :: xs) 0 = some x := atI_nat (j := 0) rfl
theorem at1 {α : Type} {x y : α} {xs : List α} : atI (x :: y :: xs) 1 = some y := atI_nat (j := 1) rfl
theorem at2 {α : Type} {x y z : α} {xs : List α} : atI (x :: y :: z :: xs) 2 = some z := atI_nat (j := 2) rfl
theorem at3 {α : Type} {x y z w : α} {xs : List α} : atI (x :: y :: z :: w :: xs) 3 = some w := atI_nat (j := 3) rfl
theorem fmod_lt {a b : Int} (h : 0 < b) : 0 ≤ a.fmod b ∧ a.fmod b < b := by
  rw [Int.fmod_eq_emod_of_nonneg a (by omega)]
  exact ⟨Int.emod_nonneg a (by omega), Int.emod_lt_of_pos a h⟩
theorem gcd_step {a b : Int} (hb : 0 < b) : Int.gcd b (a.fmod b) = Int.gcd a b := by
  rw [Int.fmod_eq_emod_of_nonneg a (by omega), Int.emod_def, Int.gcd_sub_mul_left_right, Int.gcd_comm]
theorem g_div {a b : Int} {x : Int} (h : b ≠ 0) (hb : b.natAbs < 2 ^ 2000) : CDivW x ((Int.gcd a b : Nat) : Int) := by
  have g0 := Fr.gcd_pos (a := a) h
  refine wide_div (b := 2000) (by omega) ?_ (by decide) (by decide)
  rw [Int.natAbs_natCast]
  exact Nat.lt_of_le_of_lt (Int.gcd_le_natAbs_right _ h) hb
theorem b_mul {a b : Int} (ha : a.natAbs < 2 ^ 900) (hb : b.natAbs < 2 ^ 900) : (a * b).natAbs < 2 ^ 2000 := Fr.bmono (Fr.bmul ha hb) (by decide)
theorem cd_loop : ∀ (n : Nat) (a b : Int) (S : Sto), 0 ≤ b → b.toNat < n → ∃ a', whR (eT (eB gNe (eV 1) (eC (.int 0)))) (sPar [0, 1] (aCons (eV 1) (aCons (eB gMod (eV 0) (eV 1)) aNil))) n [some (.int a), some (.int b)] S = .nx [some (.int a'), some (.int 0)] S ∧ a'.natAbs = Int.gcd a b
  | 0, _, _, _, _, h => by omega
  | n + 1, a, b, S, h0, h => by
    by_cases hb : b = 0
    · subst hb
      refine ⟨a, ?_, by simp⟩
      rw [whR]
      simp only [eV, eC, eB, eT, eU, eIf, eCh, eAnd, eOr, eNot, bAnd, bOr, bNot, bYes, aNil, aCons, eTup, eLst, eCall, eDef, eMt, eMt0, eSl, oN, oS, sNil, sSeq, sExpr, sRet, sIf, sAsg, sPar, sSub, runF, Pat.bind, Pat.binds, gI, gNeg, gAdd, gIs, gIsN, gLen, gAbs, gTuple, gList, gApp, isL, gSet, gSetA, gIxA, gIx, gEq, gNe, eqA, eqS, AL.keyOf, eGet1, eGet2, eDic, gIn, List.getElem?_cons_zero, List.getElem?_cons_succ, List.getElem?_nil, List.set_cons_zero, List.set_cons_succ, List.map_cons, List.map_nil, List.append_eq, List.cons_append, List.nil_append, List.replicate_succ, List.replicate_zero, List.length_cons, List.length_nil, Option.bind_some, Option.bind_none, Option.map_some, Nat.reduceAdd, Nat.reduceSub, Nat.reduceLeDiff, if_true, ite_true, if_false, Bool.false_eq_true, reduceIte, decide_true, Bool.not_true]
    · obtain ⟨m1, m2⟩ := fmod_lt (a := a) (b := b) (by omega)
      obtain ⟨a', e, g⟩ := cd_loop n b (a.fmod b) S m1 (by omega)
      refine ⟨a', ?_, by rw [g, gcd_step (by omega)]⟩
      rw [whR]
      simp only [eV, eC, eB, eT, eU, eIf, eCh, eAnd, eOr, eNot, bAnd, bOr, bNot, bYes, aNil, aCons, eTup, eLst, eCall, eDef, eMt, eMt0, eSl, oN, oS, sNil, sSeq, sExpr, sRet, sIf, sAsg, sPar, sSub, runF, Pat.bind, Pat.binds, gI, gNeg, gAdd, gIs, gIsN, gLen, gAbs, gTuple, gList, gApp, isL, gSet, gSetA, gIxA, gIx, gEq, gNe, eqA, eqS, AL.keyOf, eGet1, eGet2, eDic, gIn, List.getElem?_cons_zero, List.getElem?_cons_succ, List.getElem?_nil, List.set_cons_zero, List.set_cons_succ, List.map_cons, List.map_nil, List.append_eq, List.cons_append, List.nil_append, List.replicate_succ, List.replicate_zero, List.length_cons, List.length_nil, Option.bind_some, Option.bind_none, Option.map_some, Nat.reduceAdd, Nat.reduceSub, Nat.reduceLeDiff, if_true, ite_true, if_false, Bool.false_eq_true, reduceIte, gMod_eq hb, decide_eq_false hb, Bool.not_false]
      exact e
theorem cd_eq {a b : Int} {S : Sto} (h : 0 ≤ b) : common_divisor_ [.int a, .int b] S = some (.int (Int.gcd a b : Nat), S) := by
  obtain ⟨a', e, g⟩ := cd_loop (b.toNat + 1) a b S h (by omega)
  have e2 := sWhile_eq e (by intro z; cases z)
  simp only [common_divisor_, common_divisor_B, eV, eC, eB, eT, eU, eIf, eCh, eAnd, eOr, eNot, bAnd, bOr, bNot, bYes, aNil, aCons, eTup, eLst, eCall, eDef, eMt, eMt0, eSl, oN, oS, sNil, sSeq, sExpr, sRet, sIf, sAsg, sPar, sSub, runF, Pat.bind, Pat.binds, gI, gNeg, gAdd, gIs, gIsN, gLen, gAbs, gTuple, gList, gApp, isL, gSet, gSetA, gIxA, gIx, gEq, gNe, eqA, eqS, AL.keyOf, eGet1, eGet2, eDic, gIn, List.getElem?_cons_zero, List.getElem?_cons_succ, List.getElem?_nil, List.set_cons_zero, List.set_cons_succ, List.map_cons, List.map_nil, List.append_eq, List.cons_append, List.nil_append, List.replicate_succ, List.replicate_zero, List.length_cons, List.length_nil, Option.bind_some, Option.bind_none, Option.map_some, Nat.reduceAdd, Nat.reduceSub, Nat.reduceLeDiff, if_true, ite_true, if_false, Bool.false_eq_true, reduceIte, e2]
  rw [← g]
  split
  · rw [show -a' = (a'.natAbs : Int) by omega]
  · rw [show a' = (a'.natAbs : Int) by omega, Int.natAbs_natCast]
theorem ratio_eq {a b : Int} {S : Sto} (hb : b ≠ 0) (hB : b.natAbs < 2 ^ 2000) : ratio_ [.int a, .int b] S = some (frV (Fr.mk a b), S) := by
  by_cases hn : b < 0
  · have c := cd_eq (a := -a) (b := -b) (S := S) (by omega)
    have d1 := gDiv_eq (S := S) (g_div (a := -a) (b := -b) (x := -a) (by omega) (by rw [Int.natAbs_neg]; exact hB))
    have d2 := gDiv_eq (S := S) (g_div (a := -a) (b := -b) (x := -b) (by omega) (by rw [Int.natAbs_neg]; exact hB))
    simp only [ratio_, ratio_B, frV, eV, eC, eB, eT, eU, eIf, eCh, eAnd, eOr, eNot, bAnd, bOr, bNot, bYes, aNil, aCons, eTup, eLst, eCall, eDef, eMt, eMt0, eSl, oN, oS, sNil, sSeq, sExpr, sRet, sIf, sAsg, sPar, sSub, runF, Pat.bind, Pat.binds, gI, gNeg, gAdd, gIs, gIsN, gLen, gAbs, gTuple, gList, gApp, isL, gSet, gSetA, gIxA, gIx, gEq, gNe, eqA, eqS, AL.keyOf, eGet1, eGet2, eDic, gIn, List.getElem?_cons_zero, List.getElem?_cons_succ, List.getElem?_nil, List.set_cons_zero, List.set_cons_succ, List.map_cons, List.map_nil, List.append_eq, List.cons_append, List.nil_append, List.replicate_succ, List.replicate_zero, List.length_cons, List.length_nil, Option.bind_some, Option.bind_none, Option.map_some, Nat.reduceAdd, Nat.reduceSub, Nat.reduceLeDiff, if_true, ite_true, if_false, Bool.false_eq_true, reduceIte, decide_eq_true hn, c, d1, d2]
    unfold Fr.mk
    rw [if_pos hn, Int.neg_gcd, Int.gcd_neg]
  · have c := cd_eq (a := a) (b := b) (S := S) (by omega)
    have d1 := gDiv_eq (S := S) (g_div (a := a) (b := b) (x := a) hb hB)
    have d2 := gDiv_eq (S := S) (g_div (a := a) (b := b) (x := b) hb hB)
    simp only [ratio_, ratio_B, frV, eV, eC, eB, eT, eU, eIf, eCh, eAnd, eOr, eNot, bAnd, bOr, bNot, bYes, aNil, aCons, eTup, eLst, eCall, eDef, eMt, eMt0, eSl, oN, oS, sNil, sSeq, sExpr, sRet, sIf, sAsg, sPar, sSub, runF, Pat.bind, Pat.binds, gI, gNeg, gAdd, gIs, gIsN, gLen, gAbs, gTuple, gList, gApp, isL, gSet, gSetA, gIxA, gIx, gEq, gNe, eqA, eqS, AL.keyOf, eGet1, eGet2, eDic, gIn, List.getElem?_cons_zero, List.getElem?_cons_succ, List.getElem?_nil, List.set_cons_zero, List.set_cons_succ, List.map_cons, List.map_nil, List.append_eq, List.cons_append, List.nil_append, List.replicate_succ, List.replicate_zero, List.length_cons, List.length_nil, Option.bind_some, Option.bind_none, Option.map_some, Nat.reduceAdd, Nat.reduceSub, Nat.reduceLeDiff, if_true, ite_true, if_false, Bool.false_eq_true, reduceIte, decide_eq_false hn, c, d1, d2]
    unfold Fr.mk
    rw [if_neg hn]
theorem added_eq {x y : Fq} {S : Sto} (hx : Bd x) (hy : Bd y) : added_ [frV x, frV y] S = some (frV (Fr.add x y), S) := by
  have h1 := gMul_eq (S := S) (mw hx.b1 hy.b2)
  have h2 := gMul_eq (S := S) (mw hy.b1 hx.b2)
  have h3 := gMul_eq (S := S) (mw hx.b2 hy.b2)
  have h4 := gMul_eq (S := S) (mw hx.b1 hy.b1)
  have h5 := gMul_eq (S := S) (mw hx.b2 hy.b1)
  simp only [added_, added_B, frV, eV, eC, eB, eT, eU, eIf, eCh, eAnd, eOr, eNot, bAnd, bOr, bNot, bYes, aNil, aCons, eTup, eLst, eCall, eDef, eMt, eMt0, eSl, oN, oS, sNil, sSeq, sExpr, sRet, sIf, sAsg, sPar, sSub, runF, Pat.bind, Pat.binds, gI, gNeg, gAdd, gIs, gIsN, gLen, gAbs, gTuple, gList, gApp, isL, gSet, gSetA, gIxA, gIx, gEq, gNe, eqA, eqS, AL.keyOf, eGet1, eGet2, eDic, gIn, List.getElem?_cons_zero, List.getElem?_cons_succ, List.getElem?_nil, List.set_cons_zero, List.set_cons_succ, List.map_cons, List.map_nil, List.append_eq, List.cons_append, List.nil_append, List.replicate_succ, List.replicate_zero, List.length_cons, List.length_nil, Option.bind_some, Option.bind_none, Option.map_some, Nat.reduceAdd, Nat.reduceSub, Nat.reduceLeDiff, if_true, ite_true, if_false, Bool.false_eq_true, reduceIte, at0, at1, h1, h2, h3, h4, h5]
  rw [ratio_eq (Int.mul_ne_zero (by have := hx.pos; omega) (by have := hy.pos; omega)) (b_mul hx.b2 hy.b2)]
  rfl
theorem less_eq {x y : Fq} {S : Sto} (hx : Bd x) (hy : Bd y) : less_ [frV x, frV y] S = some (frV (Fr.sub x y), S) := by
  have h1 := gMul_eq (S := S) (mw hx.b1 hy.b2)
  have h2 := gMul_eq (S := S) (mw hy.b1 hx.b2)
  have h3 := gMul_eq (S := S) (mw hx.b2 hy.b2)
  have h4 := gMul_eq (S := S) (mw hx.b1 hy.b1)
  have h5 := gMul_eq (S := S) (mw hx.b2 hy.b1)
  simp only [less_, less_B, frV, eV, eC, eB, eT, eU, eIf, eCh, eAnd, eOr, eNot, bAnd, bOr, bNot, bYes, aNil, aCons, eTup, eLst, eCall, eDef, eMt, eMt0, eSl, oN, oS, sNil, sSeq, sExpr, sRet, sIf, sAsg, sPar, sSub, runF, Pat.bind, Pat.binds, gI, gNeg, gAdd, gIs, gIsN, gLen, gAbs, gTuple, gList, gApp, isL, gSet, gSetA, gIxA, gIx, gEq, gNe, eqA, eqS, AL.keyOf, eGet1, eGet2, eDic, gIn, List.getElem?_cons_zero, List.getElem?_cons_succ, List.getElem?_nil, List.set_cons_zero, List.set_cons_succ, List.map_cons, List.map_nil, List.append_eq, List.cons_append, List.nil_append, List.replicate_succ, List.replicate_zero, List.length_cons, List.length_nil, Option.bind_some, Option.bind_none, Option.map_some, Nat.reduceAdd, Nat.reduceSub, Nat.reduceLeDiff, if_true, ite_true, if_false, Bool.false_eq_true, reduceIte, at0, at1, h1, h2, h3, h4, h5]
  rw [ratio_eq (Int.mul_ne_zero (by have := hx.pos; omega) (by have := hy.pos; omega)) (b_mul hx.b2 hy.b2)]
  rfl
theorem parted_eq {x y : Fq} {S : Sto} (hx : Bd x) (hy : Bd y) (h0 : y.1 ≠ 0) : parted_ [frV x, frV y] S = some (frV (Fr.div x y), S) := by
  have h1 := gMul_eq (S := S) (mw hx.b1 hy.b2)
  have h2 := gMul_eq (S := S) (mw hy.b1 hx.b2)
  have h3 := gMul_eq (S := S) (mw hx.b2 hy.b2)
  have h4 := gMul_eq (S := S) (mw hx.b1 hy.b1)
  have h5 := gMul_eq (S := S) (mw hx.b2 hy.b1)
  simp only [parted_, parted_B, frV, eV, eC, eB, eT, eU, eIf, eCh, eAnd, eOr, eNot, bAnd, bOr, bNot, bYes, aNil, aCons, eTup, eLst, eCall, eDef, eMt, eMt0, eSl, oN, oS, sNil, sSeq, sExpr, sRet, sIf, sAsg, sPar, sSub, runF, Pat.bind, Pat.binds, gI, gNeg, gAdd, gIs, gIsN, gLen, gAbs, gTuple, gList, gApp, isL, gSet, gSetA, gIxA, gIx, gEq, gNe, eqA, eqS, AL.keyOf, eGet1, eGet2, eDic, gIn, List.getElem?_cons_zero, List.getElem?_cons_succ, List.getElem?_nil, List.set_cons_zero, List.set_cons_succ, List.map_cons, List.map_nil, List.append_eq, List.cons_append, List.nil_append, List.replicate_succ, List.replicate_zero, List.length_cons, List.length_nil, Option.bind_some, Option.bind_none, Option.map_some, Nat.reduceAdd, Nat.reduceSub, Nat.reduceLeDiff, if_true, ite_true, if_false, Bool.false_eq_true, reduceIte, at0, at1, h1, h2, h3, h4, h5]
  rw [ratio_eq (Int.mul_ne_zero (by have := hx.pos; omega) h0) (b_mul hx.b2 hy.b1)]
  rfl
theorem is_below_eq {x y : Fq} {S : Sto} (hx : Bd x) (hy : Bd y) : is_below_ [frV x, frV y] S = some (.bl (decide (x.1 * y.2 < y.1 * x.2)), S) := by
  have h1 := gMul_eq (S := S) (mw hx.b1 hy.b2)
  have h2 := gMul_eq (S := S) (mw hy.b1 hx.b2)
  simp only [is_below_, is_below_B, frV, eV, eC, eB, eT, eU, eIf, eCh, eAnd, eOr, eNot, bAnd, bOr, bNot, bYes, aNil, aCons, eTup, eLst, eCall, eDef, eMt, eMt0, eSl, oN, oS, sNil, sSeq, sExpr, sRet, sIf, sAsg, sPar, sSub, runF, Pat.bind, Pat.binds, gI, gNeg, gAdd, gIs, gIsN, gLen, gAbs, gTuple, gList, gApp, isL, gSet, gSetA, gIxA, gIx, gEq, gNe, eqA, eqS, AL.keyOf, eGet1, eGet2, eDic, gIn, List.getElem?_cons_zero, List.getElem?_cons_succ, List.getElem?_nil, List.set_cons_zero, List.set_cons_succ, List.map_cons, List.map_nil, List.append_eq, List.cons_append, List.nil_append, List.replicate_succ, List.replicate_zero, List.length_cons, List.length_nil, Option.bind_some, Option.bind_none, Option.map_some, Nat.reduceAdd, Nat.reduceSub, Nat.reduceLeDiff, if_true, ite_true, if_false, Bool.false_eq_true, reduceIte, at0, at1, h1, h2]
end K37
namespace K37
open PySem PySem.Spec PyProof.Rows L2 G Th AL
theorem ss {S : Sto} {n : Nat} {o o' : Ob} (h : S[n]? = some o) : (S.set n o')[n]? = some o' := List.getElem?_set_self (List.getElem?_eq_some_iff.mp h).1
theorem sn {S : Sto} {k n : Nat} {o : Ob} (h : n ≠ k) : (S.set n o)[k]? = S[k]? := List.getElem?_set_ne h
theorem sa {S T : Sto} {n : Nat} {o : Ob} (h : S[n]? = some o) : (S ++ T)[n]? = some o := by
  rw [List.getElem?_append_left (List.getElem?_eq_some_iff.mp h).1]
  exact h
theorem sl {S : Sto} {o : Ob} : (S ++ [o])[S.length]? = some o := by simp

def Fr1 (S S' : Sto) : Prop := ∀ (k : Nat) (o : Ob), k ≠ 1 → S[k]? = some o → S'[k]? = some o
structure Tp (S : Sto) (B : Int) : Prop where
  ex : ∃ (ns : List Int) (i q n : Int), S[0]? = some (.lst (ns.map .int)) ∧ S[1]? = some (.lst [.ref 0, .int i, .int q, .int n]) ∧ 0 ≤ i ∧ 0 ≤ q ∧ 0 ≤ n ∧ n ≤ B ∧ ns.length ≤ 63
theorem mapO_ints {S : Sto} {k : Nat} : ∀ ns : List Int, mapO (toD S (k + 1)) (ns.map Val.int) = some (ns.map PyData.int)
  | [] => rfl
  | n :: r => by
    rw [List.map_cons, mapO, mapO_ints r]
    rfl
theorem lay_ints : ∀ ns : List Int, PyData.canLayAll0 (ns.map PyData.int) = true
  | [] => rfl
  | n :: r => by
    simp only [List.map_cons, PyData.canLayAll0, PyData.canLay0, Bool.true_and]
    exact lay_ints r
theorem depth_ints : ∀ ns : List Int, PyData.depthAll (ns.map PyData.int) ≤ 1
  | [] => by simp [PyData.depthAll]
  | n :: r => by
    have h := depth_ints r
    simp only [List.map_cons, PyData.depthAll, PyData.depth]
    omega
theorem shaped_ints (ns : List Int) : SeqAt.shaped (.list (ns.map PyData.int)) = true := by
  have h1 := depth_ints ns
  show (PyData.canLay0 (.list (ns.map PyData.int)) && decide (PyData.depth (.list (ns.map PyData.int)) ≤ 64)) = true
  rw [Bool.and_eq_true]
  refine ⟨by simp only [PyData.canLay0]; exact lay_ints ns, decide_eq_true ?_⟩
  simp only [PyData.depth]
  omega

theorem ne_nil {S : Sto} {a b : Nat} {ns : List Int} (h0 : S[a]? = some (.lst (ns.map .int))) (h1 : S[b]? = some (.lst [])) : gNe (.ref a) (.ref b) S = some (.bl (!ns.isEmpty), S) := by
  have d0 : toD S 40 (.ref a) = some (.list (ns.map PyData.int)) := by
    rw [show (40 : Nat) = 38 + 1 + 1 from rfl, toD]
    simp only [h0, mapO_ints, Option.map_some]
  have d1 : toD S 40 (.ref b) = some (.list []) := by
    rw [show (40 : Nat) = 38 + 1 + 1 from rfl, toD]
    simp only [h1, mapO, Option.map_some]
  unfold gNe eqA
  simp only [eqS, d0, d1, shaped_ints ns, show SeqAt.shaped (.list []) = true from by decide, and_self, if_true, Option.map_some]
  cases ns <;> rfl
theorem small_pow {x : Int} (h0 : 0 ≤ x) (h1 : x < 2 ^ 63) : CPow x 5 := ⟨by decide, by decide, by have : (2 : Int) ^ 63 = 9223372036854775808 := rfl; have : (2 : Nat) ^ 64 = 18446744073709551616 := rfl; omega⟩
theorem pow18 : CPow 10 18 := ⟨by decide, by decide, by decide⟩
theorem at_ints {L : List Int} {d : Int} (h0 : 0 ≤ d) (h1 : d < (L.length : Int)) : ∃ v, atI (L.map Val.int) d = some (.int v) ∧ v ∈ L := by
  obtain ⟨n, rfl⟩ := Int.eq_ofNat_of_zero_le h0
  have hn : n < L.length := by omega
  refine ⟨L[n], atI_nat (j := n) ?_, List.getElem_mem hn⟩
  rw [List.getElem?_map, List.getElem?_eq_getElem hn]
  rfl

end K37
namespace K37
open PySem PySem.Spec PyProof.Rows L2 G Th AL
structure Hs where
  name : Str
  slow : Fq
  fast : Fq
structure Lk where
  fr : Str
  to : Str
  least : Fq
  most : Option Fq
structure Fl where
  hs : List Hs
  ls : List Lk
  src : Str
inductive Dd where
  | mark | send (l : Nat) | hear (k : Nat)
structure Ev where
  name : Str
  stamp : Fq
  deed : Dd
abbrev Pr := Option Fq × Option Fq
structure Mv where
  x : Nat
  lo : Fq
  hi : Option Fq
def oV : Option Fq → Val
  | none => .non
  | some x => frV x
def hsV (h : Hs) : Val := .tup [.str h.name, frV h.slow, frV h.fast]
def lkV (l : Lk) : Val := .tup [.str l.fr, .str l.to, frV l.least, oV l.most]
def flV (f : Fl) : Val := .tup [.tup (f.hs.map hsV), .tup (f.ls.map lkV), .str f.src]
def ddV : Dd → Val
  | .mark => .tup [.str "mark"]
  | .send l => .tup [.str "send", .int (l : Nat)]
  | .hear k => .tup [.str "hear", .int (k : Nat)]
def evV (e : Ev) : Val := .tup [.str e.name, frV e.stamp, ddV e.deed]
def hiV (f : Fl) (es : List Ev) : Val := .tup [flV f, .tup (es.map evV)]
def mvV (m : Mv) : Val := .tup [.int (m.x : Nat), .tup [frV m.lo, oV m.hi]]
def addO : Option Fq → Option Fq → Option Fq
  | some a, some b => some (Fr.add a b)
  | _, _ => none
theorem isNon_non : AL.isNon .non = true := rfl
def sel (b : Bool) (p : Pr) : Option Fq := if b then p.2 else p.1
def sI (b : Bool) : Val := .int (if b then 1 else 0)
theorem at_nat {α : Type} {xs : List α} {j : Nat} {v : α} (h : xs[j]? = some v) : atI xs (j : Int) = some v := atI_nat h
theorem map_get {α β : Type} {f : α → β} {xs : List α} {j : Nat} {v : α} (h : xs[j]? = some v) : (xs.map f)[j]? = some (f v) := by rw [List.getElem?_map, h]; rfl
def endOf (ps : List Pr) (b : Bool) (m : Mv) : Option Fq := addO (sel b (ps.getD m.x (none, none))) (sel b (some m.lo, m.hi))
end K37
namespace K37
open PySem PySem.Spec PyProof.Rows L2 G Th AL
def leastO (acc : Option Fq) (x : Fq) : Option Fq := match acc with
  | none => some x
  | some g => if x.1 * g.2 < g.1 * x.2 then some x else some g
def least (qs : List Fq) : Option Fq := qs.foldl leastO none
def greatestO (acc : Option Fq) (x : Fq) : Option Fq := match acc with
  | none => some x
  | some g => if g.1 * x.2 < x.1 * g.2 then some x else some g
def greatest (qs : List Fq) : Option Fq := qs.foldl greatestO none
def driftOf (fl : Fl) (n : Str) : Option Hs := fl.hs.find? fun h => decide (h.name = n)
def drV : Option Hs → Val
  | none => .non
  | some h => .tup [frV h.slow, frV h.fast]
theorem drift_eq {fl : Fl} {n : Str} {S : Sto} : drift_of_ [flV fl, .str n] S = some (drV (driftOf fl n), S) := by
  have go : ∀ (hs : List Hs) (y1 y2 y3 : Option Val), (∃ ρ', forR (.tp [(.nm 2), (.nm 3), (.nm 4)]) (sIf (eT (eB gEq (eV 2) (eV 1))) (sRet (eTup (aCons (eV 3) (aCons (eV 4) aNil)))) sNil) (fun _ => True) (hs.map hsV) [some (flV fl), some (.str n), y1, y2, y3] S = .nx ρ' S ∧ hs.find? (fun h => decide (h.name = n)) = none) ∨
      ∃ h, forR (.tp [(.nm 2), (.nm 3), (.nm 4)]) (sIf (eT (eB gEq (eV 2) (eV 1))) (sRet (eTup (aCons (eV 3) (aCons (eV 4) aNil)))) sNil) (fun _ => True) (hs.map hsV) [some (flV fl), some (.str n), y1, y2, y3] S = .rt (.tup [frV h.slow, frV h.fast]) S ∧ hs.find? (fun h => decide (h.name = n)) = some h := by
    intro hs
    induction hs with
    | nil => intro y1 y2 y3; exact .inl ⟨_, forR_nil trivial, rfl⟩
    | cons h hs ih =>
      intro y1 y2 y3
      rw [List.map_cons, forR_cons (ρ1 := [some (flV fl), some (.str n), some (.str h.name), some (frV h.slow), some (frV h.fast)]) trivial rfl]
      by_cases e : h.name = n
      · refine .inr ⟨h, ?_, by simp [List.find?_cons, e]⟩
        simp only [eV, eC, eB, eT, eU, eIf, eCh, eAnd, eOr, eNot, bAnd, bOr, bNot, bYes, aNil, aCons, eTup, eLst, eCall, eDef, eMt, eMt0, eSl, oN, oS, sNil, sSeq, sExpr, sRet, sIf, sAsg, sPar, sSub, runF, Pat.bind, Pat.binds, gI, gNeg, gAdd, gIs, gIsN, gLen, gAbs, gTuple, gList, gApp, isL, gSet, gSetA, gIxA, gIx, gEq, gNe, eqA, eqS, AL.keyOf, eGet1, eGet2, eDic, gIn, List.getElem?_cons_zero, List.getElem?_cons_succ, List.getElem?_nil, List.set_cons_zero, List.set_cons_succ, List.map_cons, List.map_nil, List.append_eq, List.cons_append, List.nil_append, List.replicate_succ, List.replicate_zero, List.length_cons, List.length_nil, Option.bind_some, Option.bind_none, Option.map_some, Nat.reduceAdd, Nat.reduceSub, Nat.reduceLeDiff, if_true, ite_true, if_false, Bool.false_eq_true, reduceIte, decide_eq_true e]
      · simp only [eV, eC, eB, eT, eU, eIf, eCh, eAnd, eOr, eNot, bAnd, bOr, bNot, bYes, aNil, aCons, eTup, eLst, eCall, eDef, eMt, eMt0, eSl, oN, oS, sNil, sSeq, sExpr, sRet, sIf, sAsg, sPar, sSub, runF, Pat.bind, Pat.binds, gI, gNeg, gAdd, gIs, gIsN, gLen, gAbs, gTuple, gList, gApp, isL, gSet, gSetA, gIxA, gIx, gEq, gNe, eqA, eqS, AL.keyOf, eGet1, eGet2, eDic, gIn, List.getElem?_cons_zero, List.getElem?_cons_succ, List.getElem?_nil, List.set_cons_zero, List.set_cons_succ, List.map_cons, List.map_nil, List.append_eq, List.cons_append, List.nil_append, List.replicate_succ, List.replicate_zero, List.length_cons, List.length_nil, Option.bind_some, Option.bind_none, Option.map_some, Nat.reduceAdd, Nat.reduceSub, Nat.reduceLeDiff, if_true, ite_true, if_false, Bool.false_eq_true, reduceIte, decide_eq_false e, List.find?_cons]
        exact ih _ _ _
  unfold driftOf
  rcases go fl.hs none none none with ⟨ρ', e, f⟩ | ⟨h, e, f⟩
  · rw [f]
    simp only [flV] at e
    simp only [drift_of_, drift_of_B, sFor, iSeq, flV, eV, eC, eB, eT, eU, eIf, eCh, eAnd, eOr, eNot, bAnd, bOr, bNot, bYes, aNil, aCons, eTup, eLst, eCall, eDef, eMt, eMt0, eSl, oN, oS, sNil, sSeq, sExpr, sRet, sIf, sAsg, sPar, sSub, runF, Pat.bind, Pat.binds, gI, gNeg, gAdd, gIs, gIsN, gLen, gAbs, gTuple, gList, gApp, isL, gSet, gSetA, gIxA, gIx, gEq, gNe, eqA, eqS, AL.keyOf, eGet1, eGet2, eDic, gIn, List.getElem?_cons_zero, List.getElem?_cons_succ, List.getElem?_nil, List.set_cons_zero, List.set_cons_succ, List.map_cons, List.map_nil, List.append_eq, List.cons_append, List.nil_append, List.replicate_succ, List.replicate_zero, List.length_cons, List.length_nil, Option.bind_some, Option.bind_none, Option.map_some, Nat.reduceAdd, Nat.reduceSub, Nat.reduceLeDiff, if_true, ite_true, if_false, Bool.false_eq_true, reduceIte, at0, e, drV]
  · rw [f]
    simp only [flV] at e
    simp only [drift_of_, drift_of_B, sFor, iSeq, flV, eV, eC, eB, eT, eU, eIf, eCh, eAnd, eOr, eNot, bAnd, bOr, bNot, bYes, aNil, aCons, eTup, eLst, eCall, eDef, eMt, eMt0, eSl, oN, oS, sNil, sSeq, sExpr, sRet, sIf, sAsg, sPar, sSub, runF, Pat.bind, Pat.binds, gI, gNeg, gAdd, gIs, gIsN, gLen, gAbs, gTuple, gList, gApp, isL, gSet, gSetA, gIxA, gIx, gEq, gNe, eqA, eqS, AL.keyOf, eGet1, eGet2, eDic, gIn, List.getElem?_cons_zero, List.getElem?_cons_succ, List.getElem?_nil, List.set_cons_zero, List.set_cons_succ, List.map_cons, List.map_nil, List.append_eq, List.cons_append, List.nil_append, List.replicate_succ, List.replicate_zero, List.length_cons, List.length_nil, Option.bind_some, Option.bind_none, Option.map_some, Nat.reduceAdd, Nat.reduceSub, Nat.reduceLeDiff, if_true, ite_true, if_false, Bool.false_eq_true, reduceIte, at0, e, drV]
end K37
namespace K37
open PySem PySem.Spec PyProof.Rows L2 G Th AL
theorem seq {g1 g2 : SF} {ρ ρ1 : Rho} {S S1 : Sto} (h : g1 ρ S = .nx ρ1 S1) : sSeq g1 g2 ρ S = g2 ρ1 S1 := by
  unfold sSeq
  rw [h]
theorem run_rt {n : Nat} {g : SF} {vs : List Val} {S S' : Sto} {v : Val} (h : g (vs.map some ++ List.replicate (n - vs.length) none) S = .rt v S') : runF n g vs S = some (v, S') := by
  unfold runF
  rw [h]
def dEv : Ev := ⟨"a", (0, 1), .mark⟩
def linkAt (fl : Fl) (es : List Ev) (k : Nat) : Option Lk := match (es.getD k dEv).deed with
  | .send l => fl.ls[l]?
  | _ => none
def mv1 (fl : Fl) (es : List Ev) (last : Option Nat) (e : Ev) : List Mv := match last, driftOf fl e.name with
  | some j, some h => [⟨j, Fr.div (Fr.sub e.stamp (es.getD j dEv).stamp) h.fast, some (Fr.div (Fr.sub e.stamp (es.getD j dEv).stamp) h.slow)⟩]
  | _, _ => []
def mv2 (fl : Fl) (es : List Ev) : Dd → List Mv
  | .hear k => match linkAt fl es k with
    | some l => [⟨k, l.least, l.most⟩]
    | none => []
  | _ => []
def movesInto (fl : Fl) (es : List Ev) (last : Option Nat) (e : Ev) : List Mv := mv1 fl es last e ++ mv2 fl es e.deed
def lastV : Option Nat → Val
  | none => .non
  | some j => .int (j : Nat)
theorem gl_last {S : Sto} {o o' : Ob} : (S ++ [o]).set S.length o' = S ++ [o'] := by simp
theorem app_last {S : Sto} {vs : List Val} {v : Val} (h : vs.length < 1000) : gApp (.ref S.length) [v] (S ++ [.lst vs]) = some (.non, S ++ [.lst (vs ++ [v])]) := by
  simp only [gApp, sl, gl_last, if_pos (Nat.lt_of_lt_of_le h (show 1000 ≤ sizeLine by decide))]
theorem isL_last {S : Sto} {vs : List Val} : isL (.ref S.length) (S ++ [.lst vs]) = true := by simp only [isL, sl]
theorem app_at {S : Sto} {n : Nat} {vs : List Val} {v : Val} (hn : S[n]? = some (.lst vs)) (h : vs.length < 1000) : gApp (.ref n) [v] S = some (.non, S.set n (.lst (vs ++ [v]))) := by
  simp only [gApp, hn, if_pos (Nat.lt_of_lt_of_le h (show 1000 ≤ sizeLine by decide))]
theorem isL_at {S : Sto} {n : Nat} {vs : List Val} (hn : S[n]? = some (.lst vs)) : isL (.ref n) S = true := by simp only [isL, hn]
theorem sl_lk {l : Lk} {S : Sto} : gSl (lkV l) (some 2) none S = some (.tup [frV l.least, oV l.most], S) := by
  have h : ¬ (HT.sIx 4 0 (some 2) = 0 ∧ HT.sIx 4 4 none = 4) := by decide
  show (if ¬ (HT.sIx 4 0 (some 2) = 0 ∧ HT.sIx 4 4 none = 4) then some (Val.tup (cutL [Val.str l.fr, .str l.to, frV l.least, oV l.most] (some 2) none), S) else none) = _
  rw [if_pos h]
  rfl
structure LastOk (fl : Fl) (es : List Ev) (e : Ev) (j : Nat) : Prop where
  lt : j < es.length
  h : ∃ h, driftOf fl e.name = some h ∧ 0 < h.fast.1 ∧ 0 < h.slow.1 ∧ Bd h.fast ∧ Bd h.slow
  st : Bd e.stamp
  so : Bd (es.getD j dEv).stamp
  go : Bd (Fr.sub e.stamp (es.getD j dEv).stamp)
structure HearOk (fl : Fl) (es : List Ev) (k : Nat) : Prop where
  lt : k < es.length
  h : ∃ l lk, (es.getD k dEv).deed = .send l ∧ fl.ls[l]? = some lk
theorem getD_get {es : List Ev} {j : Nat} (h : j < es.length) : es[j]? = some (es.getD j dEv) := by simp [List.getD, List.getElem?_eq_getElem h]
theorem into_eq {fl : Fl} {es : List Ev} {last : Option Nat} {e : Ev} {S : Sto} (hl : ∀ j, last = some j → LastOk fl es e j) (hd : ∀ k, e.deed = .hear k → HearOk fl es k) :
    moves_into_ [flV fl, .tup (es.map evV), lastV last, evV e] S = some (.ref S.length, S ++ [.lst ((movesInto fl es last e).map mvV)]) := by
  have part2 : ∀ (ms : List Mv) (y8 y10 y11 : Option Val), ms.length ≤ 1 → sSeq (sIf (eT (eB gEq (eB gIxA (eV 7) (eC (.int 0))) (eC (.str "hear")))) (sSeq (sAsg (.nm 9) (eB gIxA (eB gIxA (eV 1) (eB gIxA (eV 7) (eC (.int 1)))) (eC (.int 2))))
      (sExpr (eMt isL gApp (eV 4) (aCons (eTup (aCons (eB gIxA (eV 7) (eC (.int 1))) (aCons (eSl gSl (eB gIxA (eB gIxA (eV 0) (eC (.int 1))) (eB gIxA (eV 9) (eC (.int 1)))) (oS (eC (.int 2))) oN) aNil))) aNil)))) sNil)
      (sRet (eV 4)) [some (flV fl), some (.tup (es.map evV)), some (lastV last), some (evV e), some (.ref S.length), some (.str e.name), some (frV e.stamp), some (ddV e.deed), y8, none, y10, y11] (S ++ [.lst (ms.map mvV)]) = .rt (.ref S.length) (S ++ [.lst ((ms ++ mv2 fl es e.deed).map mvV)]) := by
    intro ms y8 y10 y11 hm
    cases hdd : e.deed with
    | mark =>
      have hne : ¬ (("mark" : Str) = "hear") := by decide
      simp only [eV, eC, eB, eT, eU, eIf, eCh, eAnd, eOr, eNot, bAnd, bOr, bNot, bYes, aNil, aCons, eTup, eLst, eCall, eDef, eMt, eMt0, eSl, oN, oS, sNil, sSeq, sExpr, sRet, sIf, sAsg, sPar, sSub, runF, Pat.bind, Pat.binds, gI, gNeg, gAdd, gIs, gIsN, gLen, gAbs, gTuple, gList, gSet, gSetA, gIxA, gIx, gEq, gNe, eqA, eqS, AL.keyOf, eGet1, eGet2, eDic, gIn, List.getElem?_cons_zero, List.getElem?_cons_succ, List.getElem?_nil, List.set_cons_zero, List.set_cons_succ, List.map_cons, List.map_nil, List.append_eq, List.cons_append, List.nil_append, List.replicate_succ, List.replicate_zero, List.length_cons, List.length_nil, Option.bind_some, Option.bind_none, Option.map_some, Nat.reduceAdd, Nat.reduceSub, Nat.reduceLeDiff, if_true, ite_true, if_false, Bool.false_eq_true, reduceIte, ddV, at0, decide_eq_false hne, mv2, List.append_nil]
    | send l =>
      have hne : ¬ (("send" : Str) = "hear") := by decide
      simp only [eV, eC, eB, eT, eU, eIf, eCh, eAnd, eOr, eNot, bAnd, bOr, bNot, bYes, aNil, aCons, eTup, eLst, eCall, eDef, eMt, eMt0, eSl, oN, oS, sNil, sSeq, sExpr, sRet, sIf, sAsg, sPar, sSub, runF, Pat.bind, Pat.binds, gI, gNeg, gAdd, gIs, gIsN, gLen, gAbs, gTuple, gList, gSet, gSetA, gIxA, gIx, gEq, gNe, eqA, eqS, AL.keyOf, eGet1, eGet2, eDic, gIn, List.getElem?_cons_zero, List.getElem?_cons_succ, List.getElem?_nil, List.set_cons_zero, List.set_cons_succ, List.map_cons, List.map_nil, List.append_eq, List.cons_append, List.nil_append, List.replicate_succ, List.replicate_zero, List.length_cons, List.length_nil, Option.bind_some, Option.bind_none, Option.map_some, Nat.reduceAdd, Nat.reduceSub, Nat.reduceLeDiff, if_true, ite_true, if_false, Bool.false_eq_true, reduceIte, ddV, at0, decide_eq_false hne, mv2, List.append_nil]
    | hear k =>
      obtain ⟨lt, l, lk, h1, h2⟩ := hd k hdd
      have e1 := at_nat (map_get (f := evV) (getD_get lt))
      have e2 := at_nat (map_get (f := lkV) h2)
      have la : linkAt fl es k = some lk := by simp only [linkAt, h1, h2]
      have ea : (ms.map mvV).length < 1000 := by simp; omega
      simp only [eV, eC, eB, eT, eU, eIf, eCh, eAnd, eOr, eNot, bAnd, bOr, bNot, bYes, aNil, aCons, eTup, eLst, eCall, eDef, eMt, eMt0, eSl, oN, oS, sNil, sSeq, sExpr, sRet, sIf, sAsg, sPar, sSub, runF, Pat.bind, Pat.binds, gI, gNeg, gAdd, gIs, gIsN, gLen, gAbs, gTuple, gList, gSet, gSetA, gIxA, gIx, gEq, gNe, eqA, eqS, AL.keyOf, eGet1, eGet2, eDic, gIn, List.getElem?_cons_zero, List.getElem?_cons_succ, List.getElem?_nil, List.set_cons_zero, List.set_cons_succ, List.map_cons, List.map_nil, List.append_eq, List.cons_append, List.nil_append, List.replicate_succ, List.replicate_zero, List.length_cons, List.length_nil, Option.bind_some, Option.bind_none, Option.map_some, Nat.reduceAdd, Nat.reduceSub, Nat.reduceLeDiff, if_true, ite_true, if_false, Bool.false_eq_true, reduceIte, ddV, at0, at1, decide_true, e1, evV, at2, h1, isL_last, flV, e2, sl_lk, app_last ea, mv2, la, List.map_append, mvV]
  have first : ∃ y8 y10 y11, sIf (eT (eB gIsN (eV 2) (eC .non))) (sSeq (sAsg (.tp [(.nm 10), (.nm 11)]) (eDef drift_of_ 2 (aCons (eV 0) (aCons (eV 5) aNil))))
      (sSeq (sAsg (.nm 8) (eDef less_ 2 (aCons (eV 6) (aCons (eB gIxA (eB gIxA (eV 1) (eV 2)) (eC (.int 1))) aNil))))
      (sExpr (eMt isL gApp (eV 4) (aCons (eTup (aCons (eV 2) (aCons (eTup (aCons (eDef parted_ 2 (aCons (eV 8) (aCons (eV 11) aNil))) (aCons (eDef parted_ 2 (aCons (eV 8) (aCons (eV 10) aNil))) aNil))) aNil))) aNil))))) sNil
      [some (flV fl), some (.tup (es.map evV)), some (lastV last), some (evV e), some (.ref S.length), some (.str e.name), some (frV e.stamp), some (ddV e.deed), none, none, none, none] (S ++ [.lst []]) = .nx [some (flV fl), some (.tup (es.map evV)), some (lastV last), some (evV e), some (.ref S.length), some (.str e.name), some (frV e.stamp), some (ddV e.deed), y8, none, y10, y11] (S ++ [.lst ((mv1 fl es last e).map mvV)]) := by
    cases hlast : last with
    | none => exact ⟨none, none, none, by simp only [eV, eC, eB, eT, eU, eIf, eCh, eAnd, eOr, eNot, bAnd, bOr, bNot, bYes, aNil, aCons, eTup, eLst, eCall, eDef, eMt, eMt0, eSl, oN, oS, sNil, sSeq, sExpr, sRet, sIf, sAsg, sPar, sSub, runF, Pat.bind, Pat.binds, gI, gNeg, gAdd, gIs, gIsN, gLen, gAbs, gTuple, gList, gSet, gSetA, gIxA, gIx, gEq, gNe, eqA, eqS, AL.keyOf, eGet1, eGet2, eDic, gIn, List.getElem?_cons_zero, List.getElem?_cons_succ, List.getElem?_nil, List.set_cons_zero, List.set_cons_succ, List.map_cons, List.map_nil, List.append_eq, List.cons_append, List.nil_append, List.replicate_succ, List.replicate_zero, List.length_cons, List.length_nil, Option.bind_some, Option.bind_none, Option.map_some, Nat.reduceAdd, Nat.reduceSub, Nat.reduceLeDiff, if_true, ite_true, if_false, Bool.false_eq_true, reduceIte, lastV, isNon_non, Bool.not_true, mv1]⟩
    | some j =>
      obtain ⟨lt, ⟨h, hh, f0, s0, bf, bs⟩, st, so, go⟩ := hl j hlast
      have e1 := at_nat (map_get (f := evV) (getD_get lt))
      have dr := drift_eq (fl := fl) (n := e.name) (S := S ++ [Ob.lst []])
      rw [hh] at dr
      have le := less_eq (S := S ++ [Ob.lst []]) st so
      have pf := parted_eq (S := S ++ [Ob.lst []]) go bf (by omega)
      have ps := parted_eq (S := S ++ [Ob.lst []]) go bs (by omega)
      have nI : AL.isNon (.int (j : Nat)) = false := rfl
      have ap := app_last (S := S) (vs := []) (v := mvV ⟨j, Fr.div (Fr.sub e.stamp (es.getD j dEv).stamp) h.fast, some (Fr.div (Fr.sub e.stamp (es.getD j dEv).stamp) h.slow)⟩) (by decide)
      have il := isL_last (S := S) (vs := [])
      simp only [mvV, oV, List.nil_append] at ap
      refine ⟨some (frV (Fr.sub e.stamp (es.getD j dEv).stamp)), some (frV h.slow), some (frV h.fast), ?_⟩
      simp only [eV, eC, eB, eT, eU, eIf, eCh, eAnd, eOr, eNot, bAnd, bOr, bNot, bYes, aNil, aCons, eTup, eLst, eCall, eDef, eMt, eMt0, eSl, oN, oS, sNil, sSeq, sExpr, sRet, sIf, sAsg, sPar, sSub, runF, Pat.bind, Pat.binds, gI, gNeg, gAdd, gIs, gIsN, gLen, gAbs, gTuple, gList, gSet, gSetA, gIxA, gIx, gEq, gNe, eqA, eqS, AL.keyOf, eGet1, eGet2, eDic, gIn, List.getElem?_cons_zero, List.getElem?_cons_succ, List.getElem?_nil, List.set_cons_zero, List.set_cons_succ, List.map_cons, List.map_nil, List.append_eq, List.cons_append, List.nil_append, List.replicate_succ, List.replicate_zero, List.length_cons, List.length_nil, Option.bind_some, Option.bind_none, Option.map_some, Nat.reduceAdd, Nat.reduceSub, Nat.reduceLeDiff, if_true, ite_true, if_false, Bool.false_eq_true, reduceIte, lastV, nI, Bool.not_false, dr, drV, e1, evV, at1, le, pf, ps, il, ap, mv1, hh, mvV, oV]
  obtain ⟨y8, y10, y11, first⟩ := first
  have p2 := part2 (mv1 fl es last e) y8 y10 y11 (by unfold mv1; split <;> simp)
  refine run_rt ?_
  refine (seq (ρ1 := [some (flV fl), some (.tup (es.map evV)), some (lastV last), some (evV e), none, some (.str e.name), some (frV e.stamp), some (ddV e.deed), none, none, none, none]) (S1 := S) (by simp only [eV, eC, eB, eT, eU, eIf, eCh, eAnd, eOr, eNot, bAnd, bOr, bNot, bYes, aNil, aCons, eTup, eLst, eCall, eDef, eMt, eMt0, eSl, oN, oS, sNil, sSeq, sExpr, sRet, sIf, sAsg, sPar, sSub, runF, Pat.bind, Pat.binds, gI, gNeg, gAdd, gIs, gIsN, gLen, gAbs, gTuple, gList, gSet, gSetA, gIxA, gIx, gEq, gNe, eqA, eqS, AL.keyOf, eGet1, eGet2, eDic, gIn, List.getElem?_cons_zero, List.getElem?_cons_succ, List.getElem?_nil, List.set_cons_zero, List.set_cons_succ, List.map_cons, List.map_nil, List.append_eq, List.cons_append, List.nil_append, List.replicate_succ, List.replicate_zero, List.length_cons, List.length_nil, Option.bind_some, Option.bind_none, Option.map_some, Nat.reduceAdd, Nat.reduceSub, Nat.reduceLeDiff, if_true, ite_true, if_false, Bool.false_eq_true, reduceIte, evV])).trans ?_
  refine (seq (ρ1 := [some (flV fl), some (.tup (es.map evV)), some (lastV last), some (evV e), some (.ref S.length), some (.str e.name), some (frV e.stamp), some (ddV e.deed), none, none, none, none]) (S1 := S ++ [.lst []]) (by simp only [eV, eC, eB, eT, eU, eIf, eCh, eAnd, eOr, eNot, bAnd, bOr, bNot, bYes, aNil, aCons, eTup, eLst, eCall, eDef, eMt, eMt0, eSl, oN, oS, sNil, sSeq, sExpr, sRet, sIf, sAsg, sPar, sSub, runF, Pat.bind, Pat.binds, gI, gNeg, gAdd, gIs, gIsN, gLen, gAbs, gTuple, gList, gSet, gSetA, gIxA, gIx, gEq, gNe, eqA, eqS, AL.keyOf, eGet1, eGet2, eDic, gIn, List.getElem?_cons_zero, List.getElem?_cons_succ, List.getElem?_nil, List.set_cons_zero, List.set_cons_succ, List.map_cons, List.map_nil, List.append_eq, List.cons_append, List.nil_append, List.replicate_succ, List.replicate_zero, List.length_cons, List.length_nil, Option.bind_some, Option.bind_none, Option.map_some, Nat.reduceAdd, Nat.reduceSub, Nat.reduceLeDiff, if_true, ite_true, if_false, Bool.false_eq_true, reduceIte, Nat.zero_le])).trans ?_
  exact (seq first).trans p2
end K37
namespace K37
open PySem PySem.Spec PyProof.Rows L2 G Th AL
theorem valA_put (d : List (Key × Val)) (k k' : Key) (v : Val) : valA (putA d k v) k' = if k' = k then some v else valA d k' := by
  unfold putA
  split
  · next h =>
    induction d with
    | nil => simp at h
    | cons p d ih =>
      rw [List.map_cons]
      by_cases e : p.1 = k
      · by_cases e2 : k' = k
        · subst e2
          simp [valA, List.find?_cons, e]
        · have e3 : ¬ k = k' := fun z => e2 z.symm
          have e4 : ¬ p.1 = k' := fun z => e2 (z.symm.trans e)
          simp only [valA, List.find?_cons, e, if_true, e3, decide_false, if_neg e2]
          by_cases h' : (d.any fun kv => decide (kv.1 = k)) = true
          · have := ih h'
            simp only [valA, if_neg e2] at this
            exact this
          · have nm : d.map (fun kv => if kv.1 = k then (kv.1, v) else kv) = d := by
              conv => rhs; rw [← List.map_id d]
              apply List.map_congr_left
              intro q hq
              have : ¬ q.1 = k := fun z => h' (List.any_eq_true.mpr ⟨q, hq, decide_eq_true z⟩)
              simp [this]
            rw [nm]
      · have h' : (d.any fun kv => decide (kv.1 = k)) = true := by
          rw [List.any_cons, decide_eq_false e, Bool.false_or] at h
          exact h
        have := ih h'
        simp only [valA] at this
        by_cases e2 : p.1 = k'
        · have e3 : ¬ k' = k := fun z => e (e2.trans z)
          simp [valA, List.find?_cons, e, e2, e3]
        · simp only [valA, List.find?_cons, e, if_false, e2, decide_false]
          exact this
  · next h =>
    unfold valA
    rw [List.find?_append]
    by_cases e : k' = k
    · subst e
      have nn : d.find? (fun kv => decide (kv.1 = k')) = none := by
        rw [List.find?_eq_none]
        intro x hx hd
        exact h (List.any_eq_true.mpr ⟨x, hx, hd⟩)
      simp [nn]
    · have e3 : ¬ k = k' := fun z => e z.symm
      simp only [List.find?_cons, e3, decide_false, List.find?_nil, Option.or_none, if_neg e]
theorem putA_len (d : List (Key × Val)) (k : Key) (v : Val) : (putA d k v).length ≤ d.length + 1 := by
  unfold putA
  split <;> simp
def lastAt (es : List Ev) : Nat → Str → Option Nat
  | 0, _ => none
  | i + 1, n => if (es.getD i dEv).name = n then some i else lastAt es i n
theorem lastAt_lt {es : List Ev} {n : Str} : ∀ {i j : Nat}, lastAt es i n = some j → j < i
  | 0, _, h => by cases h
  | i + 1, j, h => by
    unfold lastAt at h
    split at h
    · cases h; omega
    · have := lastAt_lt h; omega
def row (fl : Fl) (es : List Ev) (i : Nat) : List Mv := movesInto fl es (lastAt es i (es.getD i dEv).name) (es.getD i dEv)
structure RowOk (fl : Fl) (es : List Ev) (i : Nat) : Prop where
  l : ∀ j, lastAt es i (es.getD i dEv).name = some j → LastOk fl es (es.getD i dEv) j
  d : ∀ k, (es.getD i dEv).deed = .hear k → HearOk fl es k ∧ k < i
theorem hist_eq {fl : Fl} {es : List Ev} {S : Sto} (hl : es.length ≤ 30) (ok : ∀ i, i < es.length → RowOk fl es i) : ∃ (R : Nat) (rs : List Nat) (S' : Sto), history_moves_ [hiV fl es] S = some (.ref R, S') ∧ Kn S S' ∧ S'[R]? = some (.lst (rs.map Val.ref)) ∧ rs.length = es.length ∧ S.length ≤ R ∧ ∀ (j r : Nat), rs[j]? = some r → S.length ≤ r ∧ S'[r]? = some (.lst ((row fl es j).map mvV)) := by
  obtain ⟨ρ', S', e, ⟨y5, y6, hρ⟩, ⟨d, hd, dv, dl⟩, rs, hrs, rl, rr, kn⟩ := forR_run (p := .tp [(.nm 5), (.nm 6)]) (g := sSeq (sExpr (eMt isL gApp (eV 2) (aCons (eDef moves_into_ 4 (aCons (eV 3) (aCons (eV 4) (aCons (eGet1 (eV 1) (eB gIxA (eV 6) (eC (.int 0)))) (aCons (eV 6) aNil))))) aNil))) (sSub gSetA (eV 1) (eB gIxA (eV 6) (eC (.int 0))) (eV 5))) (ok := fun _ => True)
    (fun i ρ T => (∃ y5 y6, ρ = [some (hiV fl es), some (.ref S.length), some (.ref (S.length + 1)), some (flV fl), some (.tup (es.map evV)), y5, y6]) ∧ (∃ d, T[S.length]? = some (.dic d) ∧ (∀ n, valA d (.inr n) = (lastAt es i n).map fun j => .int (j : Nat)) ∧ d.length ≤ i) ∧
      ∃ rs : List Nat, T[S.length + 1]? = some (.lst (rs.map Val.ref)) ∧ rs.length = i ∧ (∀ (j r : Nat), rs[j]? = some r → S.length + 1 < r ∧ T[r]? = some (.lst ((row fl es j).map mvV))) ∧ Kn S T)
    (vs := enumV (es.map evV)) (ρ := [some (hiV fl es), some (.ref S.length), some (.ref (S.length + 1)), some (flV fl), some (.tup (es.map evV)), none, none]) (S := S ++ [.dic []] ++ [.lst []]) (fun _ _ _ _ => trivial)
    ⟨⟨_, _, rfl⟩, ⟨[], by simp, fun n => rfl, Nat.le_refl _⟩, [], by simp, rfl, fun j r h => by simp at h, (Kn.app _ _).trans (Kn.app _ _)⟩ (fun i v ρ T hv ⟨⟨y5, y6, hρ⟩, ⟨d, hd, dv, dl⟩, rs, hrs, rl, rr, kn⟩ => by
      obtain ⟨w, hw, rfl⟩ := enumV_get hv
      rw [List.getElem?_map] at hw
      obtain ⟨ev, hev, rfl⟩ := Option.map_eq_some_iff.mp hw
      have hi : i < es.length := (List.getElem?_eq_some_iff.mp hev).1
      have eev : es.getD i dEv = ev := by
        have := getD_get hi
        rw [hev] at this
        exact (Option.some.inj this).symm
      obtain ⟨o1, o2⟩ := ok i hi
      subst hρ
      have lg : eGet1 (eV 1) (eB gIxA (eV 6) (eC (.int 0))) [some (hiV fl es), some (.ref S.length), some (.ref (S.length + 1)), some (flV fl), some (.tup (es.map evV)), some (.int (i : Nat)), some (evV ev)] T = some (lastV (lastAt es i ev.name), T) := by
        simp only [eV, eC, eB, eT, eU, eIf, eCh, eAnd, eOr, eNot, bAnd, bOr, bNot, bYes, aNil, aCons, eTup, eLst, eCall, eDef, eMt, eMt0, eSl, oN, oS, sNil, sSeq, sExpr, sRet, sIf, sAsg, sPar, sSub, runF, Pat.bind, Pat.binds, gI, gNeg, gAdd, gIs, gIsN, gLen, gAbs, gTuple, gList, gSet, gSetA, gIxA, gIx, gEq, gNe, eqA, eqS, AL.keyOf, eGet1, eGet2, eDic, gIn, List.getElem?_cons_zero, List.getElem?_cons_succ, List.getElem?_nil, List.set_cons_zero, List.set_cons_succ, List.map_cons, List.map_nil, List.append_eq, List.cons_append, List.nil_append, List.replicate_succ, List.replicate_zero, List.length_cons, List.length_nil, Option.bind_some, Option.bind_none, Option.map_some, Nat.reduceAdd, Nat.reduceSub, Nat.reduceLeDiff, if_true, ite_true, if_false, Bool.false_eq_true, reduceIte, hd, evV, at0, dv]
        cases lastAt es i ev.name <;> rfl
      have il := isL_at hrs
      have inn := into_eq (S := T) (last := lastAt es i ev.name) (e := ev) (fl := fl) (es := es) (fun j hj => by rw [eev] at o1; exact o1 j hj) (fun k hk => by rw [eev] at o2; exact (o2 k hk).1)
      have rw1 : movesInto fl es (lastAt es i ev.name) ev = row fl es i := by unfold row; rw [eev]
      rw [rw1] at inn
      generalize hT1 : T ++ [Ob.lst ((row fl es i).map mvV)] = T1 at inn
      have kT : Kn T T1 := by rw [← hT1]; exact Kn.app _ _
      have tl : T1[T.length]? = some (.lst ((row fl es i).map mvV)) := by rw [← hT1]; exact sl
      have ap := app_at (v := .ref T.length) (kT _ _ hrs) (by simp; omega)
      have lT : S.length + 1 < T.length := (List.getElem?_eq_some_iff.mp hrs).1
      generalize hT2 : T1.set (S.length + 1) (.lst (rs.map Val.ref ++ [.ref T.length])) = T2 at ap
      have k2 : Kx (S.length + 1) T1 T2 := by rw [← hT2]; exact Kx.put
      have h2 : T2[S.length + 1]? = some (.lst (rs.map Val.ref ++ [.ref T.length])) := by rw [← hT2]; exact ss (kT _ _ hrs)
      have hd2 : T2[S.length]? = some (.dic d) := k2 _ _ (by omega) (kT _ _ hd)
      have dl2 : d.length < sizeLine := Nat.lt_of_le_of_lt dl (Nat.lt_of_lt_of_le hi (Nat.le_trans hl (by decide)))
      refine ⟨[some (hiV fl es), some (.ref S.length), some (.ref (S.length + 1)), some (flV fl), some (.tup (es.map evV)), some (.int (i : Nat)), some (evV ev)], [some (hiV fl es), some (.ref S.length), some (.ref (S.length + 1)), some (flV fl), some (.tup (es.map evV)), some (.int (i : Nat)), some (evV ev)], T2.set S.length (.dic (putA d (.inr ev.name) (.int (i : Nat)))), rfl, ?_, ⟨_, _, rfl⟩, ⟨_, ss hd2, fun n => ?_, Nat.le_trans (putA_len _ _ _) (by omega)⟩, rs ++ [T.length], ?_, by simp [rl], fun j r hj => ?_, ?_⟩
      · have s1 : sExpr (eMt isL gApp (eV 2) (aCons (eDef moves_into_ 4 (aCons (eV 3) (aCons (eV 4) (aCons (eGet1 (eV 1) (eB gIxA (eV 6) (eC (.int 0)))) (aCons (eV 6) aNil))))) aNil)) [some (hiV fl es), some (.ref S.length), some (.ref (S.length + 1)), some (flV fl), some (.tup (es.map evV)), some (.int (i : Nat)), some (evV ev)] T = .nx [some (hiV fl es), some (.ref S.length), some (.ref (S.length + 1)), some (flV fl), some (.tup (es.map evV)), some (.int (i : Nat)), some (evV ev)] T2 := by
          simp only [eV, eC, eB, eT, eU, eIf, eCh, eAnd, eOr, eNot, bAnd, bOr, bNot, bYes, aNil, aCons, eTup, eLst, eCall, eDef, eMt, eMt0, eSl, oN, oS, sNil, sSeq, sExpr, sRet, sIf, sAsg, sPar, sSub, runF, Pat.bind, Pat.binds, gI, gNeg, gAdd, gIs, gIsN, gLen, gAbs, gTuple, gList, gSet, gSetA, gIxA, gIx, gEq, gNe, eqA, eqS, AL.keyOf, eDic, gIn, List.getElem?_cons_zero, List.getElem?_cons_succ, List.getElem?_nil, List.set_cons_zero, List.set_cons_succ, List.map_cons, List.map_nil, List.append_eq, List.cons_append, List.nil_append, List.replicate_succ, List.replicate_zero, List.length_cons, List.length_nil, Option.bind_some, Option.bind_none, Option.map_some, Nat.reduceAdd, Nat.reduceSub, Nat.reduceLeDiff, if_true, ite_true, if_false, Bool.false_eq_true, reduceIte, il, lg, inn, ap]
        refine (seq s1).trans ?_
        simp only [eV, eC, eB, eT, eU, eIf, eCh, eAnd, eOr, eNot, bAnd, bOr, bNot, bYes, aNil, aCons, eTup, eLst, eCall, eDef, eMt, eMt0, eSl, oN, oS, sNil, sSeq, sExpr, sRet, sIf, sAsg, sPar, sSub, runF, Pat.bind, Pat.binds, gI, gNeg, gAdd, gIs, gIsN, gLen, gAbs, gTuple, gList, gSet, gSetA, gIxA, gIx, gEq, gNe, eqA, eqS, AL.keyOf, eGet1, eGet2, eDic, gIn, List.getElem?_cons_zero, List.getElem?_cons_succ, List.getElem?_nil, List.set_cons_zero, List.set_cons_succ, List.map_cons, List.map_nil, List.append_eq, List.cons_append, List.nil_append, List.replicate_succ, List.replicate_zero, List.length_cons, List.length_nil, Option.bind_some, Option.bind_none, Option.map_some, Nat.reduceAdd, Nat.reduceSub, Nat.reduceLeDiff, if_true, ite_true, if_false, Bool.false_eq_true, reduceIte, evV, at0, hd2, if_pos dl2]
      · rw [valA_put]
        by_cases en : n = ev.name
        · subst en
          rw [if_pos rfl, lastAt, eev, if_pos rfl]
          rfl
        · have h1 : ¬ (Sum.inr n : Key) = Sum.inr ev.name := fun z => en (Sum.inr.inj z)
          have h3 : ¬ (es.getD i dEv).name = n := by rw [eev]; exact fun z => en z.symm
          rw [if_neg h1, dv]
          simp only [lastAt, h3, if_false]
      · rw [sn (by omega), h2]
        simp
      · by_cases hj2 : j < rs.length
        · rw [List.getElem?_append_left hj2] at hj
          obtain ⟨r1, r2⟩ := rr j r hj
          refine ⟨r1, ?_⟩
          rw [sn (by omega)]
          exact k2 _ _ (by omega) (kT _ _ r2)
        · have ej : j = rs.length := by
            have := (List.getElem?_eq_some_iff.mp hj).1
            simp at this
            omega
          subst ej
          rw [List.getElem?_concat_length] at hj
          cases hj
          refine ⟨lT, ?_⟩
          rw [sn (by omega), rl]
          exact k2 _ _ (by omega) tl
      · intro k o hk
        have lk : k < S.length := (List.getElem?_eq_some_iff.mp hk).1
        rw [sn (by omega)]
        exact k2 _ _ (by omega) (kT _ _ (kn k o hk)))
  have el : (enumV (es.map evV)).length = es.length := by simp [enumV]
  rw [el] at rl
  refine ⟨S.length + 1, rs, S', ?_, kn, hrs, rl, by omega, fun j r h => ⟨by have := (rr j r h).1; omega, (rr j r h).2⟩⟩
  subst hρ
  refine run_rt ?_
  refine (seq (ρ1 := [some (hiV fl es), none, none, some (flV fl), some (.tup (es.map evV)), none, none]) (S1 := S) (by simp only [eV, eC, eB, eT, eU, eIf, eCh, eAnd, eOr, eNot, bAnd, bOr, bNot, bYes, aNil, aCons, eTup, eLst, eCall, eDef, eMt, eMt0, eSl, oN, oS, sNil, sSeq, sExpr, sRet, sIf, sAsg, sPar, sSub, runF, Pat.bind, Pat.binds, gI, gNeg, gAdd, gIs, gIsN, gLen, gAbs, gTuple, gList, gSet, gSetA, gIxA, gIx, gEq, gNe, eqA, eqS, AL.keyOf, eGet1, eGet2, eDic, gIn, List.getElem?_cons_zero, List.getElem?_cons_succ, List.getElem?_nil, List.set_cons_zero, List.set_cons_succ, List.map_cons, List.map_nil, List.append_eq, List.cons_append, List.nil_append, List.replicate_succ, List.replicate_zero, List.length_cons, List.length_nil, Option.bind_some, Option.bind_none, Option.map_some, Nat.reduceAdd, Nat.reduceSub, Nat.reduceLeDiff, if_true, ite_true, if_false, Bool.false_eq_true, reduceIte, hiV])).trans ?_
  refine (seq (ρ1 := [some (hiV fl es), some (.ref S.length), none, some (flV fl), some (.tup (es.map evV)), none, none]) (S1 := S ++ [.dic []]) (by simp only [eV, eC, eB, eT, eU, eIf, eCh, eAnd, eOr, eNot, bAnd, bOr, bNot, bYes, aNil, aCons, eTup, eLst, eCall, eDef, eMt, eMt0, eSl, oN, oS, sNil, sSeq, sExpr, sRet, sIf, sAsg, sPar, sSub, runF, Pat.bind, Pat.binds, gI, gNeg, gAdd, gIs, gIsN, gLen, gAbs, gTuple, gList, gSet, gSetA, gIxA, gIx, gEq, gNe, eqA, eqS, AL.keyOf, eGet1, eGet2, eDic, gIn, List.getElem?_cons_zero, List.getElem?_cons_succ, List.getElem?_nil, List.set_cons_zero, List.set_cons_succ, List.map_cons, List.map_nil, List.append_eq, List.cons_append, List.nil_append, List.replicate_succ, List.replicate_zero, List.length_cons, List.length_nil, Option.bind_some, Option.bind_none, Option.map_some, Nat.reduceAdd, Nat.reduceSub, Nat.reduceLeDiff, if_true, ite_true, if_false, Bool.false_eq_true, reduceIte])).trans ?_
  refine (seq (ρ1 := [some (hiV fl es), some (.ref S.length), some (.ref (S.length + 1)), some (flV fl), some (.tup (es.map evV)), none, none]) (S1 := S ++ [.dic []] ++ [.lst []]) (by simp only [eV, eC, eB, eT, eU, eIf, eCh, eAnd, eOr, eNot, bAnd, bOr, bNot, bYes, aNil, aCons, eTup, eLst, eCall, eDef, eMt, eMt0, eSl, oN, oS, sNil, sSeq, sExpr, sRet, sIf, sAsg, sPar, sSub, runF, Pat.bind, Pat.binds, gI, gNeg, gAdd, gIs, gIsN, gLen, gAbs, gTuple, gList, gSet, gSetA, gIxA, gIx, gEq, gNe, eqA, eqS, AL.keyOf, eGet1, eGet2, eDic, gIn, List.getElem?_cons_zero, List.getElem?_cons_succ, List.getElem?_nil, List.set_cons_zero, List.set_cons_succ, List.map_cons, List.map_nil, List.append_eq, List.cons_append, List.nil_append, List.replicate_succ, List.replicate_zero, List.length_cons, List.length_nil, Option.bind_some, Option.bind_none, Option.map_some, Nat.reduceAdd, Nat.reduceSub, Nat.reduceLeDiff, if_true, ite_true, if_false, Bool.false_eq_true, reduceIte, Nat.zero_le, List.length_append])).trans ?_
  refine (seq (ρ1 := _) (S1 := S') (by simp only [sFor, iEn, eV, eC, eB, eT, eU, eIf, eCh, eAnd, eOr, eNot, bAnd, bOr, bNot, bYes, aNil, aCons, eTup, eLst, eCall, eDef, eMt, eMt0, eSl, oN, oS, sNil, sSeq, sExpr, sRet, sIf, sAsg, sPar, sSub, runF, Pat.bind, Pat.binds, gI, gNeg, gAdd, gIs, gIsN, gLen, gAbs, gTuple, gList, gSet, gSetA, gIxA, gIx, gEq, gNe, eqA, eqS, AL.keyOf, eGet1, eGet2, eDic, gIn, List.getElem?_cons_zero, List.getElem?_cons_succ, List.getElem?_nil, List.set_cons_zero, List.set_cons_succ, List.map_cons, List.map_nil, List.append_eq, List.cons_append, List.nil_append, List.replicate_succ, List.replicate_zero, List.length_cons, List.length_nil, Option.bind_some, Option.bind_none, Option.map_some, Nat.reduceAdd, Nat.reduceSub, Nat.reduceLeDiff, if_true, ite_true, if_false, Bool.false_eq_true, reduceIte, e]; rfl)).trans ?_
  simp only [eV, eC, eB, eT, eU, eIf, eCh, eAnd, eOr, eNot, bAnd, bOr, bNot, bYes, aNil, aCons, eTup, eLst, eCall, eDef, eMt, eMt0, eSl, oN, oS, sNil, sSeq, sExpr, sRet, sIf, sAsg, sPar, sSub, runF, Pat.bind, Pat.binds, gI, gNeg, gAdd, gIs, gIsN, gLen, gAbs, gTuple, gList, gSet, gSetA, gIxA, gIx, gEq, gNe, eqA, eqS, AL.keyOf, eGet1, eGet2, eDic, gIn, List.getElem?_cons_zero, List.getElem?_cons_succ, List.getElem?_nil, List.set_cons_zero, List.set_cons_succ, List.map_cons, List.map_nil, List.append_eq, List.cons_append, List.nil_append, List.replicate_succ, List.replicate_zero, List.length_cons, List.length_nil, Option.bind_some, Option.bind_none, Option.map_some, Nat.reduceAdd, Nat.reduceSub, Nat.reduceLeDiff, if_true, ite_true, if_false, Bool.false_eq_true, reduceIte]
end K37
local macro_rules | `(tactic| array_mem_dec) => `(tactic| first | assumption | (refine AL.Kn.at (by assumption) ?_; array_mem_dec) | (refine AL.Kx.at (by assumption) (by omega) ?_; array_mem_dec))
local macro_rules | `(tactic| sizeOf_list_dec) => `(tactic| ((with_reducible refine AL.brF ?_ ?_); exact rfl))
local macro_rules | `(tactic| sizeOf_list_dec) => `(tactic| ((with_reducible refine AL.brT ?_ ?_); exact rfl))
local macro_rules | `(tactic| sizeOf_list_dec) => `(tactic| ((with_reducible refine AL.sd ?_ ?_); first | exact rfl | exact of_decide_eq_true rfl | exact AL.isL_of (by array_mem_dec) | exact ⟨rfl, rfl⟩))
local macro_rules | `(tactic| sizeOf_list_dec) => `(tactic| ((with_reducible apply AL.bn); rfl; try dsimp only [List.set_cons_zero, List.set_cons_succ]))
local macro_rules | `(tactic| sizeOf_list_dec) => `(tactic| ((with_reducible apply AL.ti); rfl))
local macro_rules | `(tactic| sizeOf_list_dec) => `(tactic| ((with_reducible apply AL.tb); rfl))
local macro_rules | `(tactic| sizeOf_list_dec) => `(tactic| ((with_reducible apply AL.vIxL); rfl; rfl; array_mem_dec; rfl))
local macro_rules | `(tactic| sizeOf_list_dec) => `(tactic| ((with_reducible apply AL.vTupL); rfl; array_mem_dec))
local macro_rules | `(tactic| sizeOf_list_dec) => `(tactic| ((with_reducible apply AL.vLenL); rfl; array_mem_dec))
local macro_rules | `(tactic| sizeOf_list_dec) => `(tactic| ((with_reducible apply AL.vLenT); rfl))
local macro_rules | `(tactic| sizeOf_list_dec) => `(tactic| ((with_reducible apply AL.vMod); rfl; rfl))
local macro_rules | `(tactic| sizeOf_list_dec) => `(tactic| ((with_reducible apply AL.vDiv); rfl; rfl))
local macro_rules | `(tactic| sizeOf_list_dec) => `(tactic| ((with_reducible apply AL.vMul); rfl; rfl))
local macro_rules | `(tactic| sizeOf_list_dec) => `(tactic| ((with_reducible apply AL.vAbs); rfl))
local macro_rules | `(tactic| sizeOf_list_dec) => `(tactic| ((with_reducible apply AL.vNeg); rfl))
local macro_rules | `(tactic| sizeOf_list_dec) => `(tactic| ((with_reducible apply AL.vNe); rfl))
local macro_rules | `(tactic| sizeOf_list_dec) => `(tactic| ((with_reducible apply AL.vEq); rfl))
local macro_rules | `(tactic| sizeOf_list_dec) => `(tactic| ((with_reducible apply AL.vIsN); rfl))
local macro_rules | `(tactic| sizeOf_list_dec) => `(tactic| ((with_reducible apply AL.vIsi); rfl; first | exact AL.kit_int_int | exact AL.kit_int_bool | exact AL.kit_tuple_tuple | exact AL.kit_str_str | exact AL.kit_bool_bool | exact AL.kit_NoneType_tuple | exact AL.kit_NoneType_int | exact AL.kit_int_tuple | exact AL.kit_str_int | exact AL.kit_tuple_int))
local macro_rules | `(tactic| sizeOf_list_dec) => `(tactic| ((with_reducible apply AL.vIsNT); rfl; rfl))
local macro_rules | `(tactic| sizeOf_list_dec) => `(tactic| ((with_reducible apply AL.vIsT); rfl; rfl))
local macro_rules | `(tactic| sizeOf_list_dec) => `(tactic| ((with_reducible apply AL.vIs); rfl))
local macro_rules | `(tactic| sizeOf_list_dec) => `(tactic| ((with_reducible apply AL.vAdd); rfl; rfl))
local macro_rules | `(tactic| sizeOf_list_dec) => `(tactic| ((with_reducible apply AL.vI); rfl; rfl))
local macro_rules | `(tactic| sizeOf_list_dec) => `(tactic| ((with_reducible apply AL.vIxT); rfl; rfl; rfl))
local macro_rules | `(tactic| sizeOf_list_dec) => `(tactic| with_reducible refine AL.wiT ?_)
local macro_rules | `(tactic| sizeOf_list_dec) => `(tactic| with_reducible refine AL.wiE ?_)
local macro_rules | `(tactic| sizeOf_list_dec) => `(tactic| with_reducible refine AL.wiR2 ?_)
local macro_rules | `(tactic| sizeOf_list_dec) => `(tactic| with_reducible refine AL.wiR ?_)
local macro_rules | `(tactic| sizeOf_list_dec) => `(tactic| with_reducible refine AL.vGet2 ?_)
local macro_rules | `(tactic| sizeOf_list_dec) => `(tactic| with_reducible refine AL.vGet1 ?_)
local macro_rules | `(tactic| sizeOf_list_dec) => `(tactic| with_reducible refine AL.woS ?_)
local macro_rules | `(tactic| sizeOf_list_dec) => `(tactic| with_reducible refine AL.woN ?_)
local macro_rules | `(tactic| sizeOf_list_dec) => `(tactic| with_reducible refine AL.wSl ?_)
local macro_rules | `(tactic| sizeOf_list_dec) => `(tactic| with_reducible refine AL.wLc ?_)
local macro_rules | `(tactic| sizeOf_list_dec) => `(tactic| with_reducible refine AL.wDic ?_)
local macro_rules | `(tactic| sizeOf_list_dec) => `(tactic| with_reducible refine AL.wU ?_)
local macro_rules | `(tactic| sizeOf_list_dec) => `(tactic| with_reducible refine AL.weCh ?_)
local macro_rules | `(tactic| sizeOf_list_dec) => `(tactic| with_reducible refine AL.weI ?_)
local macro_rules | `(tactic| sizeOf_list_dec) => `(tactic| with_reducible refine AL.weN ?_)
local macro_rules | `(tactic| sizeOf_list_dec) => `(tactic| with_reducible refine AL.weO ?_)
local macro_rules | `(tactic| sizeOf_list_dec) => `(tactic| with_reducible refine AL.weA ?_)
local macro_rules | `(tactic| sizeOf_list_dec) => `(tactic| with_reducible refine AL.wbY ?_)
local macro_rules | `(tactic| sizeOf_list_dec) => `(tactic| with_reducible refine AL.wbN ?_)
local macro_rules | `(tactic| sizeOf_list_dec) => `(tactic| with_reducible refine AL.wbO ?_)
local macro_rules | `(tactic| sizeOf_list_dec) => `(tactic| with_reducible refine AL.wbA ?_)
local macro_rules | `(tactic| sizeOf_list_dec) => `(tactic| with_reducible refine AL.ws_nil ?_)
local macro_rules | `(tactic| sizeOf_list_dec) => `(tactic| with_reducible refine AL.ws_for ?_)
local macro_rules | `(tactic| sizeOf_list_dec) => `(tactic| with_reducible refine AL.ws_sub ?_)
local macro_rules | `(tactic| sizeOf_list_dec) => `(tactic| with_reducible refine AL.ws_par ?_)
local macro_rules | `(tactic| sizeOf_list_dec) => `(tactic| with_reducible refine AL.ws_expr ?_)
local macro_rules | `(tactic| sizeOf_list_dec) => `(tactic| with_reducible refine AL.wMt ?_)
local macro_rules | `(tactic| sizeOf_list_dec) => `(tactic| with_reducible refine AL.wLst ?_)
local macro_rules | `(tactic| sizeOf_list_dec) => `(tactic| with_reducible refine AL.wTup ?_)
local macro_rules | `(tactic| sizeOf_list_dec) => `(tactic| with_reducible refine AL.wiZ ?_)
local macro_rules | `(tactic| sizeOf_list_dec) => `(tactic| with_reducible refine AL.wDefK ?_)
local macro_rules | `(tactic| sizeOf_list_dec) => `(tactic| with_reducible refine AL.wCall ?_)
local macro_rules | `(tactic| sizeOf_list_dec) => `(tactic| with_reducible refine AL.wDef ?_)
local macro_rules | `(tactic| sizeOf_list_dec) => `(tactic| with_reducible refine AL.wT ?_)
local macro_rules | `(tactic| sizeOf_list_dec) => `(tactic| with_reducible refine AL.ws_ret ?_)
local macro_rules | `(tactic| sizeOf_list_dec) => `(tactic| with_reducible refine AL.ws_if ?_)
local macro_rules | `(tactic| sizeOf_list_dec) => `(tactic| with_reducible refine AL.ws_asg ?_)
local macro_rules | `(tactic| sizeOf_list_dec) => `(tactic| with_reducible refine AL.wa0 ?_)
local macro_rules | `(tactic| sizeOf_list_dec) => `(tactic| with_reducible refine AL.wa1 ?_)
local macro_rules | `(tactic| sizeOf_list_dec) => `(tactic| with_reducible refine AL.wc ?_)
local macro_rules | `(tactic| sizeOf_list_dec) => `(tactic| with_reducible refine AL.wB ?_)
local macro_rules | `(tactic| sizeOf_list_dec) => `(tactic| ((with_reducible apply AL.wv); rfl))
local macro_rules | `(tactic| sizeOf_list_dec) => `(tactic| with_reducible refine AL.ws_seq ?_)
local macro_rules | `(tactic| array_get_dec) => `(tactic| repeat sizeOf_list_dec)
namespace K37
open PySem PySem.Spec PyProof.Rows L2 G Th AL
def keptOf (fl : Fl) (e : Ev) (ms : List Mv) (ps : List Pr) : Pr := if e.name = fl.src then (some e.stamp, some e.stamp) else (greatest (ms.filterMap (endOf ps false)), least (ms.filterMap (endOf ps true)))
def pairsUp (fl : Fl) (es : List Ev) : Nat → List Pr
  | 0 => []
  | i + 1 => pairsUp fl es i ++ [keptOf fl (es.getD i dEv) (row fl es i) (pairsUp fl es i)]
theorem row_len (fl : Fl) (es : List Ev) (i : Nat) : (row fl es i).length ≤ 2 := by
  unfold row movesInto
  rw [List.length_append]
  have h1 : (mv1 fl es (lastAt es i (es.getD i dEv).name) (es.getD i dEv)).length ≤ 1 := by unfold mv1; split <;> simp
  have h2 : (mv2 fl es (es.getD i dEv).deed).length ≤ 1 := by
    unfold mv2
    split
    · split <;> simp
    · simp
  omega
end K37
namespace K37
open PySem PySem.Spec PyProof.Rows L2 G Th AL
def l1 (fl : Fl) (es : List Ev) (ps : List Pr) (b : Bool) (i : Nat) : Option Fq := ((mv1 fl es (lastAt es i (es.getD i dEv).name) (es.getD i dEv)).filterMap (endOf ps b)).head?
end K37
namespace K37
open PySem PySem.Spec PyProof.Rows L2 G Th AL
def a1 (fl : Fl) (es : List Ev) (i : Nat) (b : Bool) : Option Fq := match lastAt es i (es.getD i dEv).name, driftOf fl (es.getD i dEv).name with
  | some j, some h => endOf (pairsUp fl es i) b ⟨j, Fr.div (Fr.sub (es.getD i dEv).stamp (es.getD j dEv).stamp) h.fast, some (Fr.div (Fr.sub (es.getD i dEv).stamp (es.getD j dEv).stamp) h.slow)⟩
  | _, _ => none
def a2 (fl : Fl) (es : List Ev) (i : Nat) (b : Bool) : Option Fq := match (es.getD i dEv).deed with
  | .hear k => match linkAt fl es k with
    | some l => endOf (pairsUp fl es i) b ⟨k, l.least, l.most⟩
    | none => none
  | _ => none
end K37
namespace K37
open PySem PySem.Spec PyProof.Rows L2 G Th AL
end K37
namespace K37
open PySem PySem.Spec PyProof.Rows L2 G Th AL
end K37
namespace K37
open PySem PySem.Spec PyProof.Rows L2 G Th AL
def slows : List Fq := [(1, 1), (1, 2), (3, 4)]
def fasts : List Fq := [(1, 1), (5, 4), (3, 2), (2, 1)]
def TxOk (x : Str) : Prop := PyData.strOk x = true ∧ x.cps.size ≤ 8
def leasts : List Fq := [(0, 1), (1, 2), (1, 1), (2, 1)]
def mores : List (Option Fq) := [none, some (0, 1), some (1, 1), some (3, 1)]

def LkS (l : Lk) : Prop := (l.least ∈ leasts ∧ l.fr ≠ l.to) ∧ ∀ m, l.most = some m → ∃ x, some x ∈ mores ∧ m = Fr.add l.least x
structure FlOk (fl : Fl) : Prop where
  nd : (fl.hs.map Hs.name).Nodup
  ne : 0 < fl.hs.length
  few : fl.hs.length ≤ 6
  rate : ∀ h ∈ fl.hs, h.slow ∈ slows ∧ h.fast ∈ fasts
  lk : ∀ l ∈ fl.ls, Fr.Ok 4 l.least ∧ ∀ m, l.most = some m → Fr.Ok 10 m
  lfew : fl.ls.length ≤ 8
  tx : (∀ h ∈ fl.hs, TxOk h.name) ∧ (∀ l ∈ fl.ls, TxOk l.fr ∧ TxOk l.to) ∧ TxOk fl.src
  one : ∀ h ∈ fl.hs, h.name = fl.src → h.slow = (1, 1) ∧ h.fast = (1, 1)
  lks : ∀ l ∈ fl.ls, LkS l
def StOk (x : Fq) : Prop := ∃ k : Int, x = Fr.mk k 4 ∧ k.natAbs ≤ 1000
structure EvOk (fl : Fl) (es : List Ev) (i : Nat) : Prop where
  name : (es.getD i dEv).name ∈ fl.hs.map Hs.name
  st : StOk (es.getD i dEv).stamp
  send : ∀ l, (es.getD i dEv).deed = .send l → l < fl.ls.length
  hear : ∀ k, (es.getD i dEv).deed = .hear k → k < i ∧ ∃ l, (es.getD k dEv).deed = .send l
structure HV (fl : Fl) (es : List Ev) : Prop where
  len : es.length ≤ 30
  ev : ∀ i, i < es.length → EvOk fl es i
theorem StOk.ok {x : Fq} (h : StOk x) : Fr.Ok 10 x := by
  obtain ⟨k, rfl, hk⟩ := h
  exact Fr.mk_ok (by decide) (Nat.lt_of_le_of_lt hk (by decide)) (by decide)
theorem Bd.of {n : Nat} {x : Fq} (h : Fr.Ok n x) (hn : n ≤ 900) : Bd x := ⟨h.pos, Fr.bmono h.b1 hn, Fr.bmono h.b2 hn⟩
theorem slow_ok {x : Fq} (h : x ∈ slows) : Fr.Ok 3 x ∧ 0 < x.1 := by
  simp only [slows, List.mem_cons, List.not_mem_nil, or_false] at h
  rcases h with rfl | rfl | rfl <;> exact ⟨⟨by decide, by decide, by decide, by decide⟩, by decide⟩
theorem fast_ok {x : Fq} (h : x ∈ fasts) : Fr.Ok 3 x ∧ 0 < x.1 := by
  simp only [fasts, List.mem_cons, List.not_mem_nil, or_false] at h
  rcases h with rfl | rfl | rfl | rfl <;> exact ⟨⟨by decide, by decide, by decide, by decide⟩, by decide⟩
theorem drift_some {fl : Fl} {n : Str} (h : n ∈ fl.hs.map Hs.name) : ∃ x, driftOf fl n = some x ∧ x ∈ fl.hs := by
  obtain ⟨y, hy, rfl⟩ := List.mem_map.mp h
  unfold driftOf
  cases e : fl.hs.find? (fun z => decide (z.name = y.name)) with
  | none =>
    rw [List.find?_eq_none] at e
    exact absurd (decide_eq_true rfl) (e y hy)
  | some x => exact ⟨x, rfl, List.mem_of_find?_eq_some e⟩
section
variable {fl : Fl} {es : List Ev}
theorem gone_ok (fo : FlOk fl) (hv : HV fl es) {i j : Nat} (hi : i < es.length) (hj : j < es.length) : Fr.Ok 21 (Fr.sub (es.getD i dEv).stamp (es.getD j dEv).stamp) := Fr.sub_ok (hv.ev i hi).st.ok (hv.ev j hj).st.ok
end
end K37
namespace K37
open PySem PySem.Spec PyProof.Rows L2 G Th AL
theorem Tp.fr {S S' : Sto} {B : Int} (h : Tp S B) (k : Kn S S') : Tp S' B := by
  obtain ⟨ns, i, q, n, h0, h1, r⟩ := h.ex
  exact ⟨ns, i, q, n, k _ _ h0, k _ _ h1, r⟩
theorem Fr1.len {S S' : Sto} (h : Fr1 S S') (h2 : 2 < S.length) : S.length ≤ S'.length := by
  have l : S.length - 1 < S.length := by omega
  have := h (S.length - 1) _ (by omega) (List.getElem?_eq_getElem l)
  have := (List.getElem?_eq_some_iff.mp this).1
  omega

end K37
namespace K37
open PySem PySem.Spec PyProof.Rows L2 G Th AL
theorem p40 : (2 : Int) ^ 40 = 1099511627776 := by decide
theorem p60 : (2 : Int) ^ 60 = 1152921504606846976 := by decide
theorem p62 : (2 : Int) ^ 62 = 4611686018427387904 := by decide
section
variable {ρ : Rho} {T : Sto} {B : Int}
end
section
variable {T : Sto} {B : Int} {P N Hh L : Nat} {sr : Str} {nm : List Str} {y3 y4 y8 y9 y10 y11 y12 y13 : Option Val}
end
end K37
namespace K37
open PySem PySem.Spec PyProof.Rows L2 G Th AL
end K37
namespace K37
open PySem PySem.Spec PyProof.Rows L2 G Th AL
def natV (k : Nat) : Val := .int ((k : Nat) : Int)
end K37
namespace K37
open PySem PySem.Spec PyProof.Rows L2 G Th AL

def Qk (x : Fq) (n : Nat) : Prop := ∃ k : Int, x = Fr.mk k 4 ∧ k.natAbs ≤ n
theorem Qk.ok {x : Fq} {n : Nat} (h : Qk x n) (hn : n ≤ 1000) : Fr.Ok 10 x := by
  obtain ⟨k, rfl, hk⟩ := h
  exact Fr.mk_ok (by decide) (Nat.lt_of_le_of_lt (Nat.le_trans hk hn) (by decide)) (by decide)
theorem mk_int (x : Int) : Fr.mk (x * 4) 4 = (x, 1) := by
  rw [Fr.mk_eq (c := x) (d := 1) (by decide) (by decide) (by omega)]
  exact Fr.mk_self (by decide) (by simp)
theorem Qk.int {x : Int} {n : Nat} (h : x.natAbs * 4 ≤ n) : Qk (x, 1) n := ⟨x * 4, (mk_int x).symm, by rw [Int.natAbs_mul]; exact h⟩
theorem Qk.add {x y : Fq} {n m : Nat} (hx : Qk x n) (hy : Qk y m) : Qk (Fr.add x y) (n + m) := by
  obtain ⟨k, rfl, hk⟩ := hx
  obtain ⟨l, rfl, hl⟩ := hy
  refine ⟨k + l, ?_, by omega⟩
  have i1 : Fr.Is (Fr.mk k 4) k 4 := ⟨rfl, by decide⟩
  have i2 : Fr.Is (Fr.mk l 4) l 4 := ⟨rfl, by decide⟩
  exact (i1.add i2).same ⟨rfl, by decide⟩ (by omega)

theorem getD_l {es : List Ev} {e : Ev} {j : Nat} (h : j < es.length) : (es ++ [e]).getD j dEv = es.getD j dEv := by
  simp [List.getD, List.getElem?_append_left h]
theorem getD_r {es : List Ev} {e : Ev} : (es ++ [e]).getD es.length dEv = e := by
  simp [List.getD]
theorem hv_snoc {fl : Fl} {es : List Ev} {e : Ev} (h : ∀ j, j < es.length → EvOk fl es j) (h1 : e.name ∈ fl.hs.map Hs.name) (h2 : StOk e.stamp) (h3 : ∀ l, e.deed = .send l → l < fl.ls.length) (h4 : ∀ k, e.deed = .hear k → k < es.length ∧ ∃ l, (es.getD k dEv).deed = .send l) : ∀ j, j < (es ++ [e]).length → EvOk fl (es ++ [e]) j := fun j hj => by
  by_cases c : j < es.length
  · obtain ⟨a, b, c', d⟩ := h j c
    refine ⟨by rw [getD_l c]; exact a, by rw [getD_l c]; exact b, fun l hl => ?_, fun k hk => ?_⟩
    · rw [getD_l c] at hl
      exact c' l hl
    · rw [getD_l c] at hk
      obtain ⟨k1, l, hl⟩ := d k hk
      exact ⟨k1, l, by rw [getD_l (by omega)]; exact hl⟩
  · have e2 : j = es.length := by simp at hj; omega
    subst e2
    refine ⟨by rw [getD_r]; exact h1, by rw [getD_r]; exact h2, fun l hl => ?_, fun k hk => ?_⟩
    · rw [getD_r] at hl
      exact h3 l hl
    · rw [getD_r] at hk
      obtain ⟨k1, l, hl⟩ := h4 k hk
      exact ⟨k1, l, by rw [getD_l k1]; exact hl⟩
end K37
namespace K37
open PySem PySem.Spec PyProof.Rows L2 G Th AL
end K37
namespace Fr
def q (p : Int × Int) : Rat := (p.1 : Rat) / (p.2 : Rat)
variable {p r : Int × Int} {a b : Int}
theorem c0 (h : b ≠ 0) : (b : Rat) ≠ 0 := fun z => h (Rat.intCast_eq_zero_iff.mp z)
theorem div_eq {a b c d : Int} (hb : b ≠ 0) (hd : d ≠ 0) (e : a * d = c * b) : (a : Rat) / (b : Rat) = (c : Rat) / (d : Rat) := by
  have h1 := c0 hb
  have h2 := c0 hd
  have h3 : (a : Rat) * (d : Rat) = (c : Rat) * (b : Rat) := by
    rw [← Rat.intCast_mul, ← Rat.intCast_mul, e]
  grind
theorem q_mk (h : b ≠ 0) : q (mk a b) = (a : Rat) / (b : Rat) := div_eq (by have := mk_pos (a := a) h; omega) h (mk_cross h)
theorem q_sub (hp : p.2 ≠ 0) (hr : r.2 ≠ 0) : q (sub p r) = q p - q r := by
  unfold sub
  rw [q_mk (Int.mul_ne_zero hp hr)]
  unfold q
  have h1 := c0 hp
  have h2 := c0 hr
  simp only [Rat.intCast_sub, Rat.intCast_mul]
  grind
theorem q_div (hp : p.2 ≠ 0) (hr : r.2 ≠ 0) (h0 : r.1 ≠ 0) : q (div p r) = q p / q r := by
  unfold div
  rw [q_mk (Int.mul_ne_zero hp h0)]
  unfold q
  have h1 := c0 hp
  have h2 := c0 hr
  have h3 := c0 h0
  simp only [Rat.intCast_mul]
  grind
theorem q_lt (hp : 0 < p.2) (hr : 0 < r.2) : p.1 * r.2 < r.1 * p.2 ↔ q p < q r := by
  have h1 : (0 : Rat) < (p.2 : Rat) := Rat.intCast_pos.mpr hp
  have h2 : (0 : Rat) < (r.2 : Rat) := Rat.intCast_pos.mpr hr
  unfold q
  rw [Rat.div_lt_iff h1, ← Rat.mul_lt_mul_right h2 (a := (p.1 : Rat)), ← Rat.intCast_mul]
  have : (r.1 : Rat) / (r.2 : Rat) * (p.2 : Rat) * (r.2 : Rat) = ((r.1 * p.2 : Int) : Rat) := by
    rw [Rat.intCast_mul]
    grind
  rw [this, Rat.intCast_lt_intCast]
theorem q_le (hp : 0 < p.2) (hr : 0 < r.2) : ¬ r.1 * p.2 < p.1 * r.2 ↔ q p ≤ q r := by
  rw [q_lt hr hp, Rat.not_lt]
theorem q_int (a : Int) : q (a, 1) = (a : Rat) := by
  unfold q
  show (a : Rat) / ((1 : Int) : Rat) = _
  rw [Rat.intCast_one]
  grind
end Fr
namespace KL
open PySem PySem.Spec PyProof.Rows L2 G Th AL K37 Fr
theorem at_lk {ls : List Lk} {i : Nat} {l : Lk} (hi : ls[i]? = some l) : atI (ls.map lkV) ((i : Nat) : Int) = some (lkV l) := at_nat (map_get hi)

def Can (fl : Fl) (es : List Ev) (hrs : List Int) (t : Int) (k : Nat) : Prop := k < es.length ∧ ∃ l lk, (es.getD k dEv).deed = .send l ∧ fl.ls[l]? = some lk ∧ q lk.least ≤ ((t - hrs.getD k 0 : Int) : Rat) ∧ ∀ m, lk.most = some m → ((t - hrs.getD k 0 : Int) : Rat) ≤ q m
end KL
namespace KL
open PySem PySem.Spec PyProof.Rows L2 G Th AL K37 Fr

structure Tru (fl : Fl) (es : List Ev) (bg : Int) (hrs : List Int) : Prop where
  len : hrs.length = es.length
  src : ∀ j, j < es.length → (es.getD j dEv).name = fl.src → q (es.getD j dEv).stamp = ((bg + hrs.getD j 0 : Int) : Rat)
  go : ∀ j i h, j < es.length → lastAt es j (es.getD j dEv).name = some i → driftOf fl (es.getD j dEv).name = some h →
    q h.slow * ((hrs.getD j 0 - hrs.getD i 0 : Int) : Rat) ≤ q (es.getD j dEv).stamp - q (es.getD i dEv).stamp ∧ q (es.getD j dEv).stamp - q (es.getD i dEv).stamp ≤ q h.fast * ((hrs.getD j 0 - hrs.getD i 0 : Int) : Rat) ∧ hrs.getD i 0 ≤ hrs.getD j 0
  hear : ∀ j k, j < es.length → (es.getD j dEv).deed = .hear k → Can fl (es.take j) hrs (hrs.getD j 0) k
theorem take_getD {es : List Ev} {j k : Nat} (h : k < j) : (es.take j).getD k dEv = es.getD k dEv := by
  simp [List.getD, List.getElem?_take, h]
theorem slow_le {x : Fq} (h : x ∈ slows) : q x ≤ 1 ∧ 0 < q x := by
  simp only [slows, List.mem_cons, List.not_mem_nil, or_false] at h
  rcases h with rfl | rfl | rfl <;> exact ⟨by decide +kernel, by decide +kernel⟩
end KL
namespace K37
open PySem PySem.Spec PyProof.Rows L2 G Th AL
end K37
namespace K37
open PySem PySem.Spec PyProof.Rows L2 G Th AL
end K37
namespace K37
open PySem PySem.Spec PyProof.Rows L2 G Th AL
end K37
namespace K37
open PySem PySem.Spec PyProof.Rows L2 G Th AL

def Sh (n w : Nat) (v : Val) : Prop := ∃ d : PyData, okD d = true ∧ d.weight ≤ w ∧ d.depth ≤ n ∧ ∀ (S : Sto) (k : Nat), n < k → toD S k v = some d
def ShL (n w : Nat) (vs : List Val) : Prop := ∃ ds : List PyData, okAll ds = true ∧ PyData.weightAll ds ≤ w ∧ PyData.depthAll ds ≤ n ∧ ∀ (S : Sto) (k : Nat), n < k → mapO (toD S k) vs = some ds
theorem Sh.mono {n w n' w' : Nat} {v : Val} (h : Sh n w v) (hn : n ≤ n') (hw : w ≤ w') : Sh n' w' v := by
  obtain ⟨d, h1, h2, h3, h4⟩ := h
  exact ⟨d, h1, by omega, by omega, fun S k hk => h4 S k (by omega)⟩
theorem ShL.nil {n w : Nat} : ShL n w [] := ⟨[], rfl, by simp [PyData.weightAll], by simp [PyData.depthAll], fun S k hk => rfl⟩
theorem ShL.cons {n w w' : Nat} {v : Val} {vs : List Val} (h : Sh n w v) (hs : ShL n w' vs) : ShL n (w + 1 + w') (v :: vs) := by
  obtain ⟨d, h1, h2, h3, h4⟩ := h
  obtain ⟨ds, g1, g2, g3, g4⟩ := hs
  refine ⟨d :: ds, ?_, ?_, ?_, fun S k hk => ?_⟩
  · show (okD d && okAll ds) = true
    rw [h1, g1]
    rfl
  · show d.weight + 1 + PyData.weightAll ds ≤ _
    omega
  · simp only [PyData.depthAll]
    omega
  · unfold mapO
    rw [h4 S k hk, g4 S k hk]
    rfl
theorem ShL.mono {n w n' w' : Nat} {vs : List Val} (h : ShL n w vs) (hn : n ≤ n') (hw : w ≤ w') : ShL n' w' vs := by
  obtain ⟨d, h1, h2, h3, h4⟩ := h
  exact ⟨d, h1, by omega, by omega, fun S k hk => h4 S k (by omega)⟩
theorem ShL.map {α : Type} {n w : Nat} {f : α → Val} : ∀ xs : List α, (∀ x ∈ xs, Sh n w (f x)) → ShL n ((w + 1) * xs.length) (xs.map f)
  | [], _ => ShL.nil
  | x :: xs, h => by
    have := ShL.cons (h x (by simp)) (ShL.map xs fun y hy => h y (by simp [hy]))
    refine this.mono (Nat.le_refl _) ?_
    rw [List.length_cons, Nat.mul_succ]
    omega
theorem ShL.tup {n w : Nat} {vs : List Val} (h : ShL n w vs) : Sh (n + 1) w (.tup vs) := by
  obtain ⟨ds, g1, g2, g3, g4⟩ := h
  refine ⟨.tuple ds, g1, ?_, ?_, fun S k hk => ?_⟩
  · show PyData.weightAll ds ≤ w
    exact g2
  · simp only [PyData.depth]
    omega
  · obtain ⟨k, rfl⟩ : ∃ j, k = j + 1 := ⟨k - 1, by omega⟩
    show (mapO (toD S k) vs).map PyData.tuple = _
    rw [g4 S k (by omega)]
    rfl
theorem Sh.int {i : Int} {b : Nat} (h : i.natAbs < 2 ^ b) (hb : b ≤ 900) : Sh 0 b (.int i) := by
  have h9 : i.natAbs < 2 ^ 900 := Nat.lt_of_lt_of_le h (Nat.pow_le_pow_right (by decide) hb)
  refine ⟨.int i, decide_eq_true h9, ?_, by simp [PyData.depth], fun S k hk => ?_⟩
  · unfold PyData.weight
    split
    · omega
    · next e =>
      have h0 : i.natAbs ≠ 0 := by
        intro z
        apply e
        rw [Int.natAbs_eq_zero.mp z]
        rfl
      have := (Nat.log2_lt h0).mpr h
      omega
  · obtain ⟨k, rfl⟩ : ∃ j, k = j + 1 := ⟨k - 1, by omega⟩
    rfl
theorem Sh.non {n w : Nat} : Sh n w .non := by
  refine ⟨.none, rfl, by simp [PyData.weight], by simp [PyData.depth], fun S k hk => ?_⟩
  obtain ⟨k, rfl⟩ : ∃ j, k = j + 1 := ⟨k - 1, by omega⟩
  rfl
theorem Sh.str {x : Str} (h : TxOk x) : Sh 0 8 (.str x) := by
  refine ⟨.str x, h.1, by simp only [PyData.weight]; exact h.2, by simp [PyData.depth], fun S k hk => ?_⟩
  obtain ⟨k, rfl⟩ : ∃ j, k = j + 1 := ⟨k - 1, by omega⟩
  rfl
theorem Sh.fr {x : Fq} {n : Nat} (h : Fr.Ok n x) (hn : n ≤ 900) : Sh 1 (2 * n + 2) (frV x) := by
  have := (ShL.cons (Sh.int h.b1 hn) (ShL.cons (Sh.int h.b2 hn) (ShL.nil (w := 0)))).tup
  exact this.mono (by omega) (by omega)
theorem Sh.o {x : Option Fq} {n : Nat} (h : ∀ q, x = some q → Fr.Ok n q) (hn : n ≤ 900) : Sh 1 (2 * n + 2) (oV x) := by
  cases x with
  | none => exact Sh.non
  | some q => exact Sh.fr (h q rfl) hn
theorem Sh.hs {h : Hs} (t : TxOk h.name) (a : h.slow ∈ slows) (b : h.fast ∈ fasts) : Sh 2 40 (hsV h) := by
  have := (ShL.cons (Sh.str t |>.mono (n' := 1) (by omega) (Nat.le_refl _)) (ShL.cons (Sh.fr (slow_ok a).1 (by decide)) (ShL.cons (Sh.fr (fast_ok b).1 (by decide)) (ShL.nil (w := 0))))).tup
  exact this.mono (by omega) (by omega)
theorem Sh.lk {l : Lk} (t : TxOk l.fr) (t2 : TxOk l.to) (a : Fr.Ok 4 l.least) (b : ∀ m, l.most = some m → Fr.Ok 10 m) : Sh 2 100 (lkV l) := by
  have := (ShL.cons (Sh.str t |>.mono (n' := 1) (by omega) (Nat.le_refl _)) (ShL.cons (Sh.str t2 |>.mono (n' := 1) (by omega) (Nat.le_refl _)) (ShL.cons (Sh.fr a (by decide)) (ShL.cons (Sh.o b (by decide)) (ShL.nil (w := 0)))))).tup
  exact this.mono (by omega) (by omega)
theorem Sh.fl {fl : Fl} (fo : FlOk fl) : Sh 4 2000 (flV fl) := by
  have h1 := (ShL.map (f := hsV) fl.hs fun h hh => Sh.hs (fo.tx.1 h hh) (fo.rate h hh).1 (fo.rate h hh).2).tup
  have h2 := (ShL.map (f := lkV) fl.ls fun l hl => Sh.lk (fo.tx.2.1 l hl).1 (fo.tx.2.1 l hl).2 (fo.lk l hl).1 (fo.lk l hl).2).tup
  have h3 := Sh.str fo.tx.2.2
  have a := fo.few
  have b := fo.lfew
  have := (ShL.cons h1 (ShL.cons h2 (ShL.cons (h3.mono (n' := 3) (by omega) (Nat.le_refl _)) (ShL.nil (w := 0))))).tup
  exact this.mono (by omega) (by omega)
theorem Sh.dd {d : Dd} (h : ∀ l, d = .send l → l < 8) (h2 : ∀ k, d = .hear k → k < 30) : Sh 1 20 (ddV d) := by
  have k1 : TxOk (Str.ofString "mark") := ⟨by decide +kernel, by decide +kernel⟩
  have k2 : TxOk (Str.ofString "send") := ⟨by decide +kernel, by decide +kernel⟩
  have k3 : TxOk (Str.ofString "hear") := ⟨by decide +kernel, by decide +kernel⟩
  cases d with
  | mark => exact (ShL.cons (Sh.str k1) (ShL.nil (w := 0))).tup.mono (by omega) (by omega)
  | send l =>
    have := h l rfl
    have i : Sh 0 5 (.int ((l : Nat) : Int)) := Sh.int (by have : (2 : Nat) ^ 5 = 32 := rfl; omega) (by decide)
    exact (ShL.cons (Sh.str k2) (ShL.cons i (ShL.nil (w := 0)))).tup.mono (by omega) (by omega)
  | hear k =>
    have := h2 k rfl
    have i : Sh 0 5 (.int ((k : Nat) : Int)) := Sh.int (by have : (2 : Nat) ^ 5 = 32 := rfl; omega) (by decide)
    exact (ShL.cons (Sh.str k3) (ShL.cons i (ShL.nil (w := 0)))).tup.mono (by omega) (by omega)
theorem Sh.hi {fl : Fl} {es : List Ev} (fo : FlOk fl) (hv : HV fl es) : Sh 5 5000 (hiV fl es) := by
  have l30 := hv.len
  have ev : ∀ e ∈ es, Sh 2 60 (evV e) := by
    intro e he
    obtain ⟨i, hi, rfl⟩ := List.getElem_of_mem he
    have g : es.getD i dEv = es[i] := by simp [List.getD, List.getElem?_eq_getElem hi]
    have ok := hv.ev i hi
    have nm := ok.name
    rw [g] at nm
    obtain ⟨h, hh, e1⟩ := List.mem_map.mp nm
    have tx : TxOk es[i].name := by rw [← e1]; exact fo.tx.1 h hh
    have st := ok.st.ok
    rw [g] at st
    have d := Sh.dd (d := es[i].deed) (fun l hl => by have := ok.send l (by rw [g]; exact hl); have := fo.lfew; omega) (fun k hk => by have := (ok.hear k (by rw [g]; exact hk)).1; omega)
    have := (ShL.cons ((Sh.str tx).mono (n' := 1) (by omega) (Nat.le_refl _)) (ShL.cons (Sh.fr st (by decide)) (ShL.cons d (ShL.nil (w := 0))))).tup
    exact this.mono (by omega) (by omega)
  have h2 := (ShL.map (f := evV) es ev).tup
  have := (ShL.cons (Sh.fl fo) (ShL.cons (h2.mono (n' := 4) (w' := 1900) (by omega) (by omega)) (ShL.nil (w := 0)))).tup
  exact this.mono (by omega) (by omega)

end K37
namespace KL
open PySem PySem.Spec PyProof.Rows L2 G Th AL K37 Fr

theorem lastAt_congr {es es' : List Ev} {n : Str} : ∀ i, (∀ j, j < i → (es'.getD j dEv).name = (es.getD j dEv).name) → lastAt es' i n = lastAt es i n
  | 0, _ => rfl
  | i + 1, h => by
    rw [lastAt, lastAt, h i (by omega), lastAt_congr i fun j hj => h j (by omega)]

structure Mk (es es' : List Ev) (a : Nat) : Prop where
  len : es'.length = es.length
  hear : ∃ k, (es.getD a dEv).deed = .hear k
  at_ : es'.getD a dEv = ⟨(es.getD a dEv).name, (es.getD a dEv).stamp, .mark⟩
  off : ∀ j, j ≠ a → es'.getD j dEv = es.getD j dEv
section
variable {fl : Fl} {es es' : List Ev} {a : Nat}
theorem Mk.name (M : Mk es es' a) (j : Nat) : (es'.getD j dEv).name = (es.getD j dEv).name ∧ (es'.getD j dEv).stamp = (es.getD j dEv).stamp := by
  by_cases z : j = a
  · subst z
    rw [M.at_]
    exact ⟨rfl, rfl⟩
  · rw [M.off j z]
    exact ⟨rfl, rfl⟩
theorem Mk.send (M : Mk es es' a) {k l : Nat} (h : (es.getD k dEv).deed = .send l) : (es'.getD k dEv).deed = .send l := by
  rw [M.off k fun z => ?_]
  · exact h
  · obtain ⟨k', hk'⟩ := M.hear
    rw [z, hk'] at h
    cases h
theorem Mk.hv (M : Mk es es' a) (hv : HV fl es) : HV fl es' := by
  refine ⟨by rw [M.len]; exact hv.len, fun i hi => ?_⟩
  have e := hv.ev i (by rw [← M.len]; exact hi)
  obtain ⟨n1, n2⟩ := M.name i
  refine ⟨by rw [n1]; exact e.name, by rw [n2]; exact e.st, fun l hl => ?_, fun k hk => ?_⟩
  · by_cases z : i = a
    · rw [z, M.at_] at hl
      cases hl
    · rw [M.off i z] at hl
      exact e.send l hl
  · by_cases z : i = a
    · rw [z, M.at_] at hk
      cases hk
    · rw [M.off i z] at hk
      obtain ⟨h1, l, h2⟩ := e.hear k hk
      exact ⟨h1, l, M.send h2⟩
theorem Mk.row (M : Mk es es' a) (hv : HV fl es) {i : Nat} (hi : i < es.length) {m : Mv} (hm : m ∈ K37.row fl es' i) : m ∈ K37.row fl es i := by
  obtain ⟨n1, n2⟩ := M.name i
  unfold K37.row movesInto at hm ⊢
  rw [n1] at hm
  have e0 : lastAt es' i (es.getD i dEv).name = lastAt es i (es.getD i dEv).name := lastAt_congr i fun j hj => (M.name j).1
  rw [e0] at hm
  rcases List.mem_append.mp hm with hm | hm
  · refine List.mem_append_left _ ?_
    unfold mv1 at hm ⊢
    rw [n1] at hm
    cases hl : lastAt es i (es.getD i dEv).name with
    | none => rw [hl] at hm; simp at hm
    | some j =>
      rw [hl] at hm
      cases hd : driftOf fl (es.getD i dEv).name with
      | none => rw [hd] at hm; simp at hm
      | some d =>
        rw [hd] at hm
        simp only [n2, (M.name j).2] at hm
        exact hm
  · refine List.mem_append_right _ ?_
    by_cases z : i = a
    · rw [z, M.at_] at hm
      simp [mv2] at hm
    · rw [M.off i z] at hm
      cases hd : (es.getD i dEv).deed with
      | mark => rw [hd] at hm; simp [mv2] at hm
      | send l => rw [hd] at hm; simp [mv2] at hm
      | hear k =>
        rw [hd] at hm
        obtain ⟨h1, l, h2⟩ := (hv.ev i hi).hear k hd
        have h3 := M.send h2
        simp only [mv2, linkAt, h3] at hm
        simp only [mv2, linkAt, h2]
        exact hm
end
end KL
namespace KL
open PySem PySem.Spec PyProof.Rows L2 G Th AL K37 Fr
def QN (N : Int) (M : Nat) (x : Fq) : Prop := ∃ k : Int, Is x k N ∧ k.natAbs ≤ M
section
variable {N : Int} {M M' : Nat} {x y : Fq}
theorem QN.ok {n : Nat} (h : QN N M x) (hM : M < 2 ^ n) (hN : N.natAbs < 2 ^ n) : Fr.Ok n x := by
  obtain ⟨k, h1, h2⟩ := h
  rw [h1.1]
  exact mk_ok h1.2 (by omega) hN
theorem QN.add (h : QN N M x) (h' : QN N M' y) : QN N (M + M') (Fr.add x y) := by
  obtain ⟨k, h1, h2⟩ := h
  obtain ⟨k', h3, h4⟩ := h'
  have a := h1.add h3
  refine ⟨k + k', ⟨?_, h1.2⟩, by omega⟩
  rw [a.1]
  exact mk_eq a.2 h1.2 (by grind)
theorem QN.sub (h : QN N M x) (h' : QN N M' y) : QN N (M + M') (Fr.sub x y) := by
  obtain ⟨k, h1, h2⟩ := h
  obtain ⟨k', h3, h4⟩ := h'
  have a := h1.sub h3
  refine ⟨k - k', ⟨?_, h1.2⟩, by omega⟩
  rw [a.1]
  exact mk_eq a.2 h1.2 (by grind)
theorem QN.up {c : Int} (h : QN N M x) (hc : 0 < c) : QN (N * c) (M * c.natAbs) x := by
  obtain ⟨k, h1, h2⟩ := h
  refine ⟨k * c, ⟨?_, Int.mul_ne_zero h1.2 (by omega)⟩, ?_⟩
  · rw [h1.1]
    exact mk_eq h1.2 (Int.mul_ne_zero h1.2 (by omega)) (by grind)
  · rw [Int.natAbs_mul]
    exact Nat.mul_le_mul_right _ h2
theorem QN.rate (h : QN 4 M x) {r : Fq} (hr : r ∈ slows ∨ r ∈ fasts) : QN 120 (M * 60) (Fr.div x r) := by
  obtain ⟨k, h1, h2⟩ := h
  have go : ∀ (a b c : Int), Is r a b → a ≠ 0 → c.natAbs ≤ 60 → 120 * b = c * (4 * a) → QN 120 (M * 60) (Fr.div x r) := by
    intro a b c hi ha hc e
    have d := h1.div hi ha
    refine ⟨k * c, ⟨?_, by decide⟩, ?_⟩
    · rw [d.1]
      refine mk_eq d.2 (by decide) ?_
      grind
    · rw [Int.natAbs_mul]
      exact Nat.mul_le_mul h2 hc
  simp only [slows, fasts, List.mem_cons, List.not_mem_nil, or_false] at hr
  rcases hr with (rfl | rfl | rfl) | (rfl | rfl | rfl | rfl)
  · exact go 1 1 30 ⟨by decide +kernel, by decide⟩ (by decide) (by decide) (by decide)
  · exact go 1 2 60 ⟨by decide +kernel, by decide⟩ (by decide) (by decide) (by decide)
  · exact go 3 4 40 ⟨by decide +kernel, by decide⟩ (by decide) (by decide) (by decide)
  · exact go 1 1 30 ⟨by decide +kernel, by decide⟩ (by decide) (by decide) (by decide)
  · exact go 5 4 24 ⟨by decide +kernel, by decide⟩ (by decide) (by decide) (by decide)
  · exact go 3 2 20 ⟨by decide +kernel, by decide⟩ (by decide) (by decide) (by decide)
  · exact go 2 1 15 ⟨by decide +kernel, by decide⟩ (by decide) (by decide) (by decide)
end

def Rise (es : List Ev) : Prop := ∀ j i, j < es.length → lastAt es j (es.getD j dEv).name = some i → q (es.getD i dEv).stamp ≤ q (es.getD j dEv).stamp
theorem Rise.nil : Rise [] := fun j i h => by simp at h
theorem Tru.rise {fl : Fl} {es : List Ev} {bg : Int} {hrs : List Int} (T : Tru fl es bg hrs) (fo : FlOk fl) (hv : HV fl es) : Rise es := by
  intro j i hj hi
  obtain ⟨h, hh, hm⟩ := drift_some (hv.ev j hj).name
  obtain ⟨t1, t2, t3⟩ := T.go j i h hj hi hh
  have nn : (0 : Rat) ≤ ((hrs.getD j 0 - hrs.getD i 0 : Int) : Rat) := Rat.intCast_nonneg.mpr (by omega)
  have := Rat.mul_nonneg (Rat.le_of_lt (slow_le (fo.rate h hm).1).2) nn
  grind
end KL
namespace K47
open PySem PySem.Spec PyProof.Rows L2 G Th AL
open K37 (common_divisor_ common_divisor_B ratio_ ratio_B added_ added_B less_ less_B parted_ parted_B is_below_ is_below_B drift_of_ drift_of_B moves_into_ moves_into_B history_moves_ history_moves_B)
end K47
namespace K47
open PySem PySem.Spec PyProof.Rows L2 G Th AL K37 KL Fr
def lowOk (p : Pr) (x : Fq) : Bool := match p.1 with
  | none => true
  | some l => !decide (x.1 * l.2 < l.1 * x.2)
def highOk (p : Pr) (x : Fq) : Bool := match p.2 with
  | none => true
  | some h => !decide (h.1 * x.2 < x.1 * h.2)
def isIn (p : Pr) (x : Fq) : Bool := lowOk p x && highOk p x
structure SpOk (p : Pr) : Prop where
  lo : ∀ l, p.1 = some l → Bd l
  hi : ∀ h, p.2 = some h → Bd h
def count (ps : List Pr) (x : Fq) : Nat := (ps.filter fun p => isIn p x).length
def opens (b : Bool) (ps : List Pr) : Nat := (ps.filter fun p => (sel b p).isNone).length
def most (ps : List Pr) : Int := maxI (opens false ps : Nat) ((ps.filterMap (sel false)).map fun e => (count ps e : Int))
end K47
namespace KL
open PySem PySem.Spec PyProof.Rows L2 G Th AL K37 Fr
section
variable {S : Sto} {Q : Val → Sto → Prop} {x y : Val} {vs ws : List Val}
theorem vNeNil {a b : Nat} {ns : List Int} (hx : x = .ref a) (hy : y = .ref b) (h0 : S[a]? = some (.lst (ns.map .int))) (h1 : S[b]? = some (.lst [])) (q : Q (.bl (!ns.isEmpty)) S) : Wp (gNe x y S) Q := by
  subst hx hy
  exact ⟨_, _, ne_nil h0 h1, q⟩
theorem vSlT {lo hi : Option Int} (hx : x = .tup vs) (h : ¬ (HT.sIx vs.length 0 lo = 0 ∧ HT.sIx vs.length vs.length hi = vs.length)) (q : Q (.tup (cutL vs lo hi)) S) : Wp (gSl x lo hi S) Q := by
  subst hx
  exact ⟨_, _, if_pos h, q⟩
theorem vSlFrom {k : Nat} (hx : x = .tup vs) (h0 : 0 < k) (h : k ≤ vs.length) (q : Q (.tup (vs.drop k)) S) : Wp (gSl x (some (k : Int)) none S) Q := by
  refine vSlT hx (by rw [HT.sIx_nat]; omega) ?_
  unfold cutL
  rw [HT.sIx_nat, HT.sIx_none, Nat.min_eq_left h, List.take_of_length_le (by rw [List.length_drop]; omega)]
  exact q
end
end KL
namespace K47
open PySem PySem.Spec PyProof.Rows L2 G Th AL K37 KL Fr
section
variable {S : Sto} {Q : Val → Sto → Prop}
theorem shL_shaped {n w : Nat} {vs : List Val} (h : ShL n w vs) (hn : n < 39) {a : Nat} (ha : S[a]? = some (.lst vs)) : ∃ ds, toD S 40 (.ref a) = some (.list ds) ∧ SeqAt.shaped (.list ds) = true ∧ mapO (toD S 39) vs = some ds := by
  obtain ⟨ds, o1, o2, o3, o4⟩ := h
  have e := o4 S 39 (by omega)
  have dl : toD S 40 (.ref a) = some (.list ds) := by
    rw [show (40 : Nat) = 39 + 1 from rfl, toD]
    simp only [ha, e, Option.map_some]
  refine ⟨ds, dl, ?_, e⟩
  have c := (ok_showAll ds o1).2.2.1
  show (PyData.canLayAll0 ds && decide ((PyData.list ds).depth ≤ 64)) = true
  rw [c, decide_eq_true (by simp only [PyData.depth]; omega)]
  rfl

theorem none_any : ∀ {os : List (Option Fq)} {ds : List PyData}, mapO (toD S 39) (os.map oV) = some ds → (ds.any fun z => PyData.eqv z .none) = os.any Option.isNone
  | [], _, h => by cases h; rfl
  | o :: os, ds, h => by
    simp only [List.map_cons, mapO] at h
    obtain ⟨b, h1, h⟩ := Option.bind_eq_some_iff.mp h
    obtain ⟨bs, h2, h⟩ := Option.bind_eq_some_iff.mp h
    cases h
    rw [List.any_cons, List.any_cons, none_any h2]
    cases o with
    | none =>
      cases h1
      rfl
    | some x =>
      have e : toD S 39 (oV (some x)) = some (.tuple [.int x.1, .int x.2]) := rfl
      rw [e] at h1
      cases h1
      rfl
theorem vNoneIn {n w a : Nat} {neg : Bool} {x y : Val} {os : List (Option Fq)} (h : ShL n w (os.map oV)) (hn : n < 39) (hx : x = .non) (hy : y = .ref a) (ha : S[a]? = some (.lst (os.map oV))) (q : Q (.bl (if neg then !os.any Option.isNone else os.any Option.isNone)) S) : Wp (gInD neg x y S) Q := by
  subst hx hy
  obtain ⟨ds, e1, e2, e3⟩ := shL_shaped h hn ha
  refine ⟨_, _, ?_, q⟩
  have e4 : toD S 40 .non = some .none := rfl
  have e5 : SeqAt.shaped .none = true := by decide
  simp only [gInD, e4, e1, e5, e2, and_self, if_true, none_any e3]
end
end K47
namespace K47
open PySem PySem.Spec PyProof.Rows L2 G Th AL K37 KL Fr
theorem qn_bd {x : Fq} {M : Nat} (h : QN 6 M x) (hM : M < 2 ^ 20) : Bd x := Bd.of (h.ok (n := 20) hM (by decide)) (by decide)
theorem b3 {b : Int} (hb : b = 1 ∨ b = 2 ∨ b = 3) : 0 < b ∧ b.natAbs < 2 ^ 2000 := by
  rcases hb with rfl | rfl | rfl <;> exact ⟨by decide, by decide⟩
def Sp6 (p : Pr) : Prop := ∀ b x, sel b p = some x → QN 6 200 x
theorem Sp6.ok {p : Pr} (h : Sp6 p) : SpOk p := ⟨fun l e => qn_bd (h false l e) (by decide), fun l e => qn_bd (h true l e) (by decide)⟩
end K47
namespace AL
theorem vListT {S : Sto} {Q : Val → Sto → Prop} {x : Val} {vs : List Val} (hx : x = .tup vs) (q : Nw S (.lst vs) Q) : Wp (gList [x] S) Q := by
  subst hx
  exact ⟨_, _, rfl, q.use⟩
end AL
namespace K47
open PySem PySem.Spec PyProof.Rows L2 G Th AL K37 KL Fr
def g1 : Val → Val := fun v => match v with
  | .tup (_ :: a :: _) => a
  | _ => .non
end K47
namespace K08
open PySem PySem.Spec PyProof.Rows L2 G Th AL
open K37
end K08
namespace K08
open PySem PySem.Spec PyProof.Rows L2 G Th AL K37 KL Fr
theorem wm {a b : Int} (h : a.natAbs < 2 ^ 64) (h2 : b.natAbs < 2 ^ 64) : CMulW a b := wide_mul h h2 (by decide) (by decide) (by decide)
theorem wd {a b : Int} (h0 : 0 < b) (h : b < 2 ^ 60) : CDivW a b := by
  have h60 := p60
  have n64 : (2 : Nat) ^ 64 = 18446744073709551616 := by decide
  exact wide_div (b := 64) h0 (by omega) (by decide) (by decide)
theorem ws_cut {r : Res} {N N' : Rho → Sto → Prop} {R : Val → Sto → Prop} (h : Ws r N' R) (i : ∀ ρ S, N' ρ S → N ρ S) : Ws r N R := by
  obtain ⟨h⟩ := h
  constructor
  cases r with
  | nx ρ S => exact i ρ S h
  | rt v S => exact h
  | stuck => exact h
  | bk _ _ => exact h
  | ct _ _ => exact h
end K08
namespace K19
open PySem PySem.Spec PyProof.Rows L2 G Th AL K37 KL Fr
open K08 (wm wd ws_cut)
structure Tq (S : Sto) (B : Int) : Prop where
  ex : ∃ (ns : List Int) (n q i : Int), S[1]? = some (.lst (ns.map .int)) ∧ S[2]? = some (.lst [.ref 1, .int n, .int q, .int i]) ∧ 0 ≤ n ∧ n ≤ B ∧ 0 ≤ q ∧ 0 ≤ i ∧ ns.length ≤ 63
theorem Tq.mono {S : Sto} {B B' : Int} (h : Tq S B) (hb : B ≤ B') : Tq S B' := by
  obtain ⟨ns, n, q, i, h0, h1, a, b, c, d, e⟩ := h.ex
  exact ⟨ns, n, q, i, h0, h1, a, by omega, c, d, e⟩
theorem Tq.two {S : Sto} {B : Int} (h : Tq S B) : 3 ≤ S.length := by
  obtain ⟨ns, n, q, i, h0, h1, r⟩ := h.ex
  exact (List.getElem?_eq_some_iff.mp h1).1
theorem Tq.kx {S T : Sto} {B : Int} {m : Nat} (h : Tq S B) (k : Kx m S T) (hn : 3 ≤ m) : Tq T B := by
  obtain ⟨ns, n, q, i, h0, h1, r⟩ := h.ex
  exact ⟨ns, n, q, i, k _ _ (by omega) h0, k _ _ (by omega) h1, r⟩
theorem Tq.fr {S T : Sto} {B : Int} (h : Tq S B) (k : Kn S T) : Tq T B := h.kx (k.kx 3) (by omega)
theorem draw_wp {S : Sto} {B m : Int} (T : Tq S B) (m0 : 0 < m) (m1 : m < 2 ^ 60) (hB : B < 100000) : Wp (K19.drawL_ [.ref 2, .int m] S) fun v S' => ∃ d, v = .int d ∧ 0 ≤ d ∧ d < m ∧ Tq S' (B + 1) ∧ Kx 2 S S' := by
  have h60 := p60
  have h40 := p40
  have n64 : (2 : Nat) ^ 64 = 18446744073709551616 := by decide
  obtain ⟨ns, n, q, i, h0, h1, n0, nB, q0, i0, nl⟩ := T.ex
  have fm : ∀ a : Int, 0 ≤ a.fmod m ∧ a.fmod m < m := fun a => fmod_lt m0
  have tp1 : ∀ (T' : Sto) (q' i' : Int), T'[1]? = some (.lst (ns.map .int)) → T'[2]? = some (.lst [.ref 1, .int (n + 1), .int q', .int i']) → 0 ≤ q' → 0 ≤ i' → Tq T' (B + 1) := fun T' q' i' a b c d => ⟨ns, n + 1, q', i', a, b, by omega, by omega, c, d, nl⟩
  refine AL.wf ?_; simp only [List.map_cons, List.map_nil, List.length_cons, List.length_nil, Nat.reduceAdd, Nat.reduceSub, List.replicate_succ, List.replicate_zero, List.cons_append, List.nil_append]; unfold drawL_B; array_get_dec
  refine vPutL h1 (j := 1) rfl ?_
  intro S1 l_S1 g_S1 k_S1
  have h01 : S1[1]? = some (.lst (ns.map .int)) := by array_mem_dec
  have g1 : S1[2]? = some (.lst [.ref 1, .int (n + 1), .int q, .int i]) := g_S1
  let I : Rho → Sto → Prop := fun ρ T => ∃ (z : Option Val) (q' i' : Int), ρ = [some (.ref 2), some (.int m), z, none, none] ∧ T[1]? = some (.lst (ns.map .int)) ∧ T[2]? = some (.lst [.ref 1, .int (n + 1), .int q', .int i']) ∧ 0 ≤ q' ∧ 0 ≤ i' ∧ Kx 2 S T
  refine ws_seq (ws_cut (N' := I) (ws_while (fun _ (T : Sto) => match T[(2 : Nat)]? with | some (Ob.lst [_, _, _, .int i]) => (64 - i).toNat | _ => 0) I ⟨_, q, i, rfl, h01, g1, q0, i0, k_S1⟩ ?_) ?_)
  · rintro _ U ⟨z, q, i, rfl, h0, g1, q0, i0, kU⟩
    array_get_dec
    refine Br.of (fun c1 => ?_) (fun c1 => ?_)
    · array_get_dec
      refine Br.of (fun c2 => ?_) (fun c2 => ?_)
      · have c2 : i < ((ns.map Val.int).length : Nat) := of_decide_eq_true c2
        rw [List.length_map] at c2
        obtain ⟨v, hv, _⟩ := at_ints (L := ns) i0 c2
        array_get_dec
        refine vIxL rfl rfl h0 (by exact hv) ?_
        array_get_dec
        refine vPow rfl rfl ?_ pow18
        array_get_dec
        refine vIntB rfl ?_
        refine vMulS rfl rfl ?_ (mul_short ?_)
        array_get_dec
        refine vPutL g1 (j := 2) rfl ?_
        intro U1 l_U1 g_U1 k_U1
        have g2 : U1[2]? = some (.lst [.ref 1, .int (n + 1), .int ((if v < 0 then -v else v) * if decide ((10 : Int) ^ (18 : Int).toNat ≤ if v < 0 then -v else v) = true then 1 else 0), .int i]) := g_U1
        array_get_dec
        refine vPutL g2 (j := 3) rfl ?_
        intro U2 l_U2 g_U2 k_U2
        · refine ⟨⟨_, _, _, rfl, by array_mem_dec, g_U2, ?_, by omega, kU.trans (k_U1.trans k_U2)⟩, ?_⟩
          · split <;> split <;> omega
          · show (match U2[(2 : Nat)]? with | some (Ob.lst [_, _, _, .int i]) => (64 - i).toNat | _ => 0) < (match U[(2 : Nat)]? with | some (Ob.lst [_, _, _, .int i]) => (64 - i).toNat | _ => 0)
            rw [g_U2, g1]
            show (64 - (i + 1)).toNat < (64 - i).toNat
            omega
        · have two : ∀ b : Bool, (if b = true then (1 : Int) else 0) = 0 ∨ (if b = true then (1 : Int) else 0) = 1 := by decide
          exact two _
      · exact ⟨_, _, _, rfl, h0, g1, q0, i0, kU⟩
    · exact brF rfl ⟨_, _, _, rfl, h0, g1, q0, i0, kU⟩
  · rintro _ S2 ⟨z, q, i, rfl, h02, g2, q0, i0, k2⟩
    array_get_dec
    by_cases hq : 0 < q
    · refine brT (decide_eq_true hq) ?_
      array_get_dec
      · refine vPutL g2 (j := 2) rfl ?_
        intro S3 l_S3 g_S3 k_S3
        array_get_dec
        exact ⟨_, rfl, (fm q).1, (fm q).2, tp1 S3 (q / m) i (by array_mem_dec) g_S3 (Int.ediv_nonneg q0 (by omega)) i0, k2.trans k_S3⟩
      · exact wd m0 m1
      · omega
    · refine brF (decide_eq_false hq) (ws_nil (ws_seq (ws_cut (N' := fun ρ T => ∃ c : Int, ρ = [some (.ref 2), some (.int m), some (.int c), none, none] ∧ Kn S2 T) ?_ ?_)))
      · array_get_dec
        intro S3 r3 e_r3 l_S3 g_r3 k_S3
        array_get_dec
        have h03 : S3[1]? = some (.lst (ns.map .int)) := by array_mem_dec
        have g3 : S3[2]? = some (.lst [.ref 1, .int (n + 1), .int q, .int i]) := by array_mem_dec
        refine vNeNil rfl rfl h03 g_r3 ?_
        array_get_dec
        cases hns : ns with
        | nil => 
          refine brF rfl ?_
          array_get_dec
          exact ⟨_, rfl, k_S3⟩
        | cons y ys =>
          rw [hns] at h03
          refine brT rfl ?_
          array_get_dec
          · obtain ⟨a, b⟩ := fmod_lt (a := n + 1) (b := ((y :: ys).length : Int)) (by simp)
            obtain ⟨v, hv, _⟩ := at_ints (L := y :: ys) a b
            refine vIxL rfl rfl h03 (by rw [List.length_map]; exact hv) ?_
            array_get_dec
            exact ⟨_, rfl, k_S3⟩
          · simp
            omega
      · rintro _ S3 ⟨c, rfl, k3⟩
        have g3 : S3[2]? = some (.lst [.ref 1, .int (n + 1), .int q, .int i]) := by array_mem_dec
        have h03 : S3[1]? = some (.lst (ns.map .int)) := by array_mem_dec
        have k03 : Kx 2 S S3 := k2.trans (k3.kx 2)
        have cm := fmod_lt (a := c) (b := 1000003) (by decide)
        have e1 : 613 * (n + 1) * (n + 1 + 7) ≤ 613 * 100001 * 100010 := Int.mul_le_mul (by omega) (by omega) (by omega) (by omega)
        have e0 : 0 ≤ 613 * (n + 1) * (n + 1 + 7) := Int.mul_nonneg (by omega) (by omega)
        have p1 := small_pow (x := c.fmod 1000003 + 613 * (n + 1) * (n + 1 + 7) + 17) (by omega) (by omega)
        have r1 := fmod_lt (a := (c.fmod 1000003 + 613 * (n + 1) * (n + 1 + 7) + 17) ^ (5 : Int).toNat) (b := 2147483647) (by decide)
        have p2 := small_pow (x := ((c.fmod 1000003 + 613 * (n + 1) * (n + 1 + 7) + 17) ^ (5 : Int).toNat).fmod 2147483647 + 4099 * (n + 1)) (by omega) (by omega)
        array_get_dec
        all_goals first | refine vPow rfl rfl ?_ p1 | decide | exact wm (by omega) (by omega) | skip
        array_get_dec
        all_goals first | refine vPow rfl rfl ?_ p2 | decide | exact wm (by omega) (by omega) | skip
        array_get_dec
        all_goals first | exact ⟨_, rfl, (fm _).1, (fm _).2, tp1 _ q i h03 g3 q0 i0, k03⟩ | exact wd (by decide) (by decide) | omega | decide
theorem frac_wp {a b : Int} {S : Sto} (hb : 0 < b) (hB : b.natAbs < 2 ^ 2000) : Wp (fracL_ [.int a, .int b] S) fun v T => v = frV (Fr.mk a b) ∧ S = T := by
  refine AL.wf ?_; simp only [List.map_cons, List.map_nil, List.length_cons, List.length_nil, Nat.reduceAdd, Nat.reduceSub, List.replicate_succ, List.replicate_zero, List.cons_append, List.nil_append]; unfold fracL_B; array_get_dec
  refine brT (decide_eq_true hb) ?_
  array_get_dec
  have ab : Int.gcd (if a < 0 then -a else a) b = Int.gcd a b := by
    split
    · rw [Int.neg_gcd]
    · rfl
  refine (ws_while (fun ρ _ => match ρ with | [_, _, _, some (.int y)] => y.toNat | _ => 0) (fun ρ T => ∃ x y : Int, ρ = [some (.int a), some (.int b), some (.int x), some (.int y)] ∧ 0 ≤ x ∧ 0 ≤ y ∧ Int.gcd x y = Int.gcd a b ∧ S = T) ⟨_, b, rfl, by split <;> omega, by omega, ab, rfl⟩ ?_)
  rintro _ _ ⟨x, y, rfl, hx, hy, hg, rfl⟩
  array_get_dec
  refine Br.of (fun c => ?_) (fun c => ?_)
  · have c : 0 < y := of_decide_eq_true c
    obtain ⟨m1, m2⟩ := fmod_lt (a := x) (b := y) c
    array_get_dec
    · exact ⟨⟨_, _, rfl, hy, m1, by rw [gcd_step c, hg], rfl⟩, by show (x.fmod y).toNat < y.toNat; omega⟩
    · omega
  · have c : ¬ 0 < y := of_decide_eq_false c
    have : y = 0 := by omega
    subst this
    have hx' : x = ((Int.gcd a b : Nat) : Int) := by
      rw [← hg]
      simp
      omega
    subst hx'
    array_get_dec
    · constructor
      · unfold Fr.mk frV
        rw [if_neg (by omega)]
      · rfl
    · exact g_div (by omega) hB
    · exact g_div (by omega) hB
end K19
namespace K08
open PySem PySem.Spec PyProof.Rows L2 G Th AL K37 KL Fr
end K08
namespace K08
open PySem PySem.Spec PyProof.Rows L2 G Th AL K37 KL Fr
def pool8 : List Str := ["a", "ab", "b", "h", "hh", "x", "zz", "zzzzzzzz"]
def gaits : List (Fq × Fq) := [((1, 1), (1, 1)), ((1, 2), (2, 1)), ((3, 4), (5, 4)), ((1, 1), (3, 2)), ((1, 2), (1, 1))]
def least8 : List Fq := [(0, 1), (1, 2), (1, 1), (3, 1)]
structure L8 (nm : List Str) (l : Lk) : Prop where
  fr : l.fr ∈ nm
  to : l.to ∈ nm
  ne : l.fr ≠ l.to
  least : l.least ∈ least8
  most : ∀ m, l.most = some m → m = l.least ∨ m = Fr.mk (l.least.1 + l.least.2) l.least.2 ∨ m = Fr.mk (l.least.1 + 9 * l.least.2) l.least.2
structure F8 (fl : Fl) : Prop where
  sub : (fl.hs.map Hs.name).Sublist pool8
  ne : 0 < fl.hs.length
  few : fl.hs.length ≤ 6
  gait : ∀ h ∈ fl.hs, (h.slow, h.fast) ∈ gaits
  one : ∀ h ∈ fl.hs, h.name = fl.src → h.slow = (1, 1) ∧ h.fast = (1, 1)
  src : fl.src ∈ fl.hs.map Hs.name
  lk : ∀ l ∈ fl.ls, L8 (fl.hs.map Hs.name) l
  lfew : fl.ls.length ≤ 8
theorem at_map {α : Type} {f : α → Val} {xs : List α} {d : Int} (h0 : 0 ≤ d) (h1 : d < (xs.length : Nat)) : ∃ x, atI (xs.map f) d = some (f x) ∧ x ∈ xs ∧ xs[d.toNat]? = some x := by
  have hl : d.toNat < xs.length := by omega
  refine ⟨xs[d.toNat], ?_, List.getElem_mem hl, List.getElem?_eq_getElem hl⟩
  have e : d = ((d.toNat : Nat) : Int) := by omega
  have z := at_nat (map_get (f := f) (List.getElem?_eq_getElem hl))
  rw [← e] at z
  exact z
end K08
namespace K19
open PySem PySem.Spec PyProof.Rows L2 G Th AL K37 KL Fr
open K08 (wm wd ws_cut)
structure L9 (c : Int) (l : Lk) : Prop where
  a : ∃ n : Int, l.least = Fr.mk n 2 ∧ 0 ≤ n ∧ n ≤ c
  b : ∀ m, l.most = some m → ∃ n : Int, m = Fr.mk n 2 ∧ 0 ≤ n ∧ n ≤ 200
  tx : TxOk l.fr ∧ TxOk l.to
structure F9 (c : Int) (fl : Fl) : Prop where
  nd : (fl.hs.map Hs.name).Nodup
  ne : 0 < fl.hs.length
  few : fl.hs.length ≤ 6
  rate : ∀ h ∈ fl.hs, h.slow ∈ slows ∧ h.fast ∈ fasts
  lk : ∀ l ∈ fl.ls, L9 c l
  lfew : fl.ls.length ≤ 8
  tx : (∀ h ∈ fl.hs, TxOk h.name) ∧ TxOk fl.src
  so : ∀ h ∈ fl.hs, h.name = fl.src → h.slow = (1, 1) ∧ h.fast = (1, 1)
def pool6 : List Str := ["a", "b", "cy", "mill", "quay", "zzzzzzzz"]
theorem perm_erase {α : Type} : ∀ {l : List α} {k : Nat} {x : α}, l[k]? = some x → (x :: l.eraseIdx k).Perm l
  | [], k, x, h => by simp at h
  | y :: l, 0, x, h => by
    simp at h
    subst h
    exact List.Perm.refl _
  | y :: l, k + 1, x, h => by
    have h : l[k]? = some x := by simpa using h
    exact (List.Perm.swap _ _ _).trans ((perm_erase h).cons y)
theorem rest_ne {nm : List Str} {one : Str} (nd : nm.Nodup) (h : 1 < nm.length) : 0 < (nm.filter fun x => decide (x ≠ one)).length := by
  match nm, nd, h with
  | a :: b :: r, nd, _ =>
    rw [List.length_pos_iff_exists_mem]
    by_cases ha : a = one
    · subst ha
      have : b ≠ a := fun z => by subst z; simp at nd
      exact ⟨b, by simp [this]⟩
    · exact ⟨a, by simp [ha]⟩
theorem tx6 {x : Str} (h : x ∈ pool6) : TxOk x := by
  simp only [pool6, List.mem_cons, List.not_mem_nil, or_false] at h
  rcases h with rfl | rfl | rfl | rfl | rfl | rfl <;> exact ⟨by decide +kernel, by decide +kernel⟩
theorem nd6 : pool6.Nodup := by decide +kernel
theorem vSortS {S : Sto} {Q : Val → Sto → Prop} {n : Nat} {ss : List Str} (h : S[n]? = some (.lst (ss.map Val.str))) (hl : ss.length < 64) (q : Nw S (.lst ((sortS ss).map Val.str)) Q) : Wp (gSorted [.ref n] S) Q := by
  refine ⟨_, _, ?_, q.use⟩
  have e : strsOf (ss.map Val.str) = some ss := by
    clear h hl q
    induction ss with
    | nil => rfl
    | cons x xs ih => simp only [List.map_cons, strsOf, ih, Option.map_some]
  simp only [gSorted, h, e, if_pos hl]
theorem field_wp {S : Sto} {B mo : Int} (TT : Tq S B) (hB : B < 90000) (mo0 : 1 ≤ mo) (mo6 : mo ≤ 6) : Wp (fieldL_ [.ref 2, .int mo] S) fun v T => ∃ fl, v = flV fl ∧ F9 10 fl ∧ Tq T (B + 100) ∧ Kx 2 S T := by
  have h60 := p60
  have h62 := p62
  have two := TT.two
  refine AL.wf ?_; simp only [List.map_cons, List.map_nil, List.length_cons, List.length_nil, Nat.reduceAdd, Nat.reduceSub, List.replicate_succ, List.replicate_zero, List.cons_append, List.nil_append]; unfold fieldL_B; array_get_dec
  intro S1 P e_P l_S1 g_P k_S1
  array_get_dec
  refine (draw_wp (TT.fr k_S1) (by omega) (by omega) (by omega)).imp ?_
  rintro _ S2 ⟨d, rfl, d0, d1, t2, k2⟩
  array_get_dec
  refine ⟨_, rfl, ?_, by omega, by omega⟩
  have gP2 : S2[P]? = some (.lst (pool6.map Val.str)) := by array_mem_dec
  have hn : ((1 + d).toNat : Int) = 1 + d := by omega
  refine lc_inv (fun j a T => ∃ pl got : List Str, T[P]? = some (.lst (pl.map Val.str)) ∧ a = got.map Val.str ∧ (got ++ pl).Perm pool6 ∧ got.length = j ∧ Tq T (B + 1 + j) ∧ Kx 2 S T) (by rw [rangeV_len]; omega) ⟨pool6, [], gP2, rfl, List.Perm.refl _, rfl, t2.mono (by omega), (k_S1.kx 2).trans k2⟩ (fun _ _ _ _ _ => trivial) (fun j a T z => by obtain ⟨_, _, _, rfl, _, h, _⟩ := z; rw [List.length_map]; omega) ?_ ?_
  · rintro j v a T hv ⟨pl, got, hP, rfl, pm, gl, tt, kk⟩
    obtain ⟨rfl, hj⟩ := rangeV_get hv
    have l6 := pm.length_eq
    rw [List.length_append] at l6
    have l6 : got.length + pl.length = 6 := l6
    have lP := lt_of_at hP
    refine bn rfl ?_
    array_get_dec
    rw [List.length_map]
    refine (draw_wp tt (by omega) (by omega) (by omega)).imp ?_
    rintro _ T1 ⟨x, rfl, x0, x1, t1, k1⟩
    have hP1 : T1[P]? = some (.lst (pl.map Val.str)) := by array_mem_dec
    obtain ⟨y, _, _, hy⟩ := K08.at_map (f := Val.str) (xs := pl) x0 x1
    array_get_dec
    refine vPop rfl hP1 (k := x.toNat) (by omega) (map_get hy) (by rw [List.length_map]; omega) ?_
    intro T2 l_T2 g_T2 k_T2
    have em : (pl.map Val.str).eraseIdx x.toNat = (pl.eraseIdx x.toNat).map Val.str := by simp [List.eraseIdx_eq_take_drop_succ, List.map_take, List.map_drop]
    rw [em] at g_T2
    refine ⟨pl.eraseIdx x.toNat, got ++ [y], g_T2, by rw [List.map_append]; rfl, ?_, by simp [gl], (t1.kx k_T2 (by omega)).mono (by push_cast; omega), fun k o hk ho => ?_⟩
    · have hx : x.toNat < pl.length := by omega
      have hy' : pl[x.toNat] = y := by rw [List.getElem?_eq_getElem hx] at hy; exact Option.some.inj hy
      have := perm_erase hy
      refine List.Perm.trans ?_ pm
      rw [List.append_assoc]
      exact this.append_left got
    · have := lt_of_at ho
      exact k_T2 k o (by omega) (k1 k o hk (kk k o hk ho))
  rw [rangeV_len]
  rintro a T ⟨pl, got, hP, rfl, pm, gl, tt, kk⟩
  intro T1 r1 e_r1 l_T1 g_r1 k_T1
  array_get_dec
  refine vSortS g_r1 (by omega) ?_
  intro T2 N e_N l_T2 g_N k_T2
  have pn : (sortS got).Perm got := List.mergeSort_perm _ _
  have ndn : (sortS got).Nodup := pn.nodup_iff.mpr ((List.nodup_append.mp (pm.nodup_iff.mpr nd6)).1)
  have mn : ∀ x ∈ sortS got, x ∈ pool6 := fun x hx => pm.mem_iff.mp (List.mem_append_left _ (pn.mem_iff.mp hx))
  have ln : (sortS got).length = (1 + d).toNat := by rw [pn.length_eq, gl]
  have t2' : Tq T2 (B + 8) := ((tt.fr k_T1).fr k_T2).mono (by omega)
  have kk2 : Kx 2 S T2 := (kk.trans (k_T1.kx 2)).trans (k_T2.kx 2)
  have lN : S.length ≤ N := by have z := kk.len; have z2 := tt.two; (by_cases h2 : 2 + 1 < S.length); (have := z h2; omega); omega
  generalize sortS got = nm at *
  clear pn pm gl tt kk hP
  have l6 : nm.length ≤ 6 := by omega
  have l0 : 0 < nm.length := by omega
  array_get_dec
  rw [List.length_map]
  refine (draw_wp t2' (by omega) (by omega) (by omega)).imp ?_
  rintro _ T3 ⟨x, rfl, x0, x1, t3, k3⟩
  have gN3 : T3[N]? = some (.lst (nm.map Val.str)) := by array_mem_dec
  obtain ⟨src, hs1, hs2, _⟩ := K08.at_map (f := Val.str) (xs := nm) x0 x1
  array_get_dec
  refine vIxL rfl rfl gN3 hs1 ?_
  array_get_dec
  intro T4 F e_F l_T4 g_F k_T4
  array_get_dec
  intro T5 L e_L l_T5 g_L k_T5
  have l3 := k3.len
  have gN5 : T5[N]? = some (.lst (nm.map Val.str)) := by array_mem_dec
  have gF5 : T5[F]? = some (.lst []) := by array_mem_dec
  have t5 : Tq T5 (B + 9) := ((t3.fr k_T4).fr k_T5).mono (by omega)
  have kk5 : Kx 2 S T5 := ((kk2.trans k3).trans (k_T4.kx 2)).trans (k_T5.kx 2)
  have gL5 := g_L
  have ord : 3 ≤ N ∧ N < F ∧ F < L := by omega
  clear e_N e_F e_L e_P e_r1 l_S1 l_T1 l_T2 l_T4 l_T5 g_P g_F g_L g_N g_r1 k_S1 k_T1 k_T2 k_T4 k_T5 t3 k3 l3 gN3 t2' kk2 t2 k2 gP2
  array_get_dec
  refine .inr ⟨N, _, rfl, gN5, ?_⟩
  refine ws_loop (fun i ρ T => (∃ z4 z9, ρ = [some (.ref 2), some (.int mo), some (.ref P), some (.ref N), z4, none, some (.str src), some (.ref F), some (.ref L), z9, none, none, none, none, none]) ∧ (∃ hs : List Hs, T[F]? = some (.lst (hs.map hsV)) ∧ hs.map Hs.name = nm.take i ∧ ∀ h ∈ hs, h.slow ∈ slows ∧ h.fast ∈ fasts ∧ (h.name = src → h.slow = (1, 1) ∧ h.fast = (1, 1))) ∧ T[N]? = some (.lst (nm.map Val.str)) ∧ T[L]? = some (.lst []) ∧ Tq T (B + 9 + 2 * i) ∧ Kx 2 S T)
    ⟨⟨_, _, rfl⟩, ⟨[], gF5, rfl, fun _ z => by simp at z⟩, gN5, gL5, t5.mono (by omega), kk5⟩ (fun i ρ T _ h => h.2.2.1) ?_ ?_
  · clear gN5 gF5 gL5 t5 kk5
    rintro i v ρ T hv ⟨⟨z4, z9, rfl⟩, ⟨hs, hF, hn', hg⟩, hN, hL, tt, kk⟩
    rw [List.getElem?_map] at hv
    obtain ⟨n, hn2, rfl⟩ := Option.map_eq_some_iff.mp hv
    have li : i < nm.length := (List.getElem?_eq_some_iff.mp hn2).1
    have hl : hs.length = i := by
      have := congrArg List.length hn'
      rw [List.length_map, List.length_take] at this
      omega
    have two := tt.two
    array_get_dec
    intro U1 a1 e_a1 l_U1 g_a1 k_U1
    array_get_dec
    refine (draw_wp (tt.fr k_U1) (by decide) (by decide) (by omega)).imp ?_
    rintro _ U2 ⟨y, rfl, y0, y1, u2, ku2⟩
    array_get_dec
    refine vIntB rfl ?_
    array_get_dec
    · have y2 : 0 ≤ y * (if (!decide (n = src)) = true then 1 else 0) ∧ y * (if (!decide (n = src)) = true then 1 else 0) < 3 := by split <;> omega
      obtain ⟨sl, s1, s2, s3⟩ := K08.at_map (f := frV) (xs := [(1, 1), (3, 4), (1, 2)]) y2.1 y2.2
      refine vIxL rfl rfl (by array_mem_dec) s1 ?_
      array_get_dec
      have two2 := u2.two
      intro U3 a2 e_a2 l_U3 g_a2 k_U3
      array_get_dec
      refine (draw_wp (u2.fr k_U3) (by decide) (by decide) (by omega)).imp ?_
      rintro _ U4 ⟨w, rfl, w0, w1, u4, ku4⟩
      array_get_dec
      refine vIntB rfl ?_
      array_get_dec
      · have w2 : 0 ≤ w * (if (!decide (n = src)) = true then 1 else 0) ∧ w * (if (!decide (n = src)) = true then 1 else 0) < 4 := by split <;> omega
        obtain ⟨fs, f1, f2, f3⟩ := K08.at_map (f := frV) (xs := [(1, 1), (5, 4), (3, 2), (2, 1)]) w2.1 w2.2
        refine vIxL rfl rfl (by array_mem_dec) f1 ?_
        array_get_dec
        have lF := lt_of_at hF
        refine vApp rfl (show U4[F]? = _ by array_mem_dec) ?_ (small (by rw [List.length_map]; omega))
        intro U5 l_U5 g_U5 k_U5
        refine ⟨⟨_, _, rfl⟩, ⟨hs ++ [⟨n, sl, fs⟩], ?_, ?_, ?_⟩, by array_mem_dec, by array_mem_dec, (u4.kx k_U5 (by omega)).mono (by push_cast; omega), fun k o hk ho => ?_⟩
        · rw [List.map_append]
          exact g_U5
        · rw [List.map_append, hn', List.take_add_one, hn2]
          rfl
        · intro h hh
          rcases List.mem_append.mp hh with hh | hh
          · exact hg h hh
          · simp only [List.mem_singleton] at hh
            subst hh
            refine ⟨by show sl ∈ slows; simp only [List.mem_cons, List.not_mem_nil, or_false] at s2; rcases s2 with rfl | rfl | rfl <;> decide, by simp only [fasts]; simpa using f2, fun e => ?_⟩
            have e : n = src := e
            simp only [e, decide_true, Bool.not_true, Bool.false_eq_true, if_false, Int.mul_zero] at s3 f3
            exact ⟨(Option.some.inj s3).symm, (Option.some.inj f3).symm⟩
        · have lo := lt_of_at ho
          exact k_U5 k o (by omega) (ku4 k o hk (k_U3.at (ku2 k o hk (k_U1.at (kk k o hk ho)))))
      · exact wm (by omega) (by split <;> decide)
    · exact wm (by omega) (by split <;> decide)
  · clear gN5 gF5 gL5 t5 kk5
    rintro ρ T ⟨⟨z4, z9, rfl⟩, ⟨hs, hF, hn', hg⟩, hN, hL, tt, kk⟩
    rw [List.length_map, List.take_length] at hn'
    rw [List.length_map] at tt
    have hl : hs.length = nm.length := by have := congrArg List.length hn'; rwa [List.length_map] at this
    have tt : Tq T (B + 21) := tt.mono (by omega)
    array_get_dec
    refine (draw_wp tt (by decide) (by decide) (by omega)).imp ?_
    rintro _ T1 ⟨m, rfl, m0, m1, t1, k1⟩
    have hN1 : T1[N]? = some (.lst (nm.map Val.str)) := by array_mem_dec
    array_get_dec
    refine vIntB rfl ?_
    array_get_dec
    · rw [List.length_map]
      have mm : 0 ≤ m * (if decide ((1 : Int) < (nm.length : Nat)) = true then 1 else 0) ∧ m * (if decide ((1 : Int) < (nm.length : Nat)) = true then 1 else 0) < 9 ∧ (0 < m * (if decide ((1 : Int) < (nm.length : Nat)) = true then 1 else 0) → 1 < nm.length) := by
        split
        · next c => have c : (1 : Int) < (nm.length : Nat) := of_decide_eq_true c; omega
        · omega
      generalize m * (if decide ((1 : Int) < (nm.length : Nat)) = true then 1 else 0) = M at mm
      refine ⟨_, rfl, ?_, by omega, by omega⟩
      have hF1 : T1[F]? = some (.lst (hs.map hsV)) := by array_mem_dec
      have hL1 : T1[L]? = some (.lst []) := by array_mem_dec
      have kk1 := kk.trans k1
      clear hN hF hL kk
      refine ws_loop (fun i ρ T => (∃ z4 z5 z10 z11 z12 z13 z14, ρ = [some (.ref 2), some (.int mo), some (.ref P), some (.ref N), z4, z5, some (.str src), some (.ref F), some (.ref L), z9, z10, z11, z12, z13, z14]) ∧ (∃ ls : List Lk, T[L]? = some (.lst (ls.map lkV)) ∧ ls.length = i ∧ ∀ l ∈ ls, L9 10 l) ∧ T[N]? = some (.lst (nm.map Val.str)) ∧ T[F]? = some (.lst (hs.map hsV)) ∧ Tq T (B + 22 + 4 * i) ∧ Kx 2 S T)
        ⟨⟨_, _, _, _, _, _, _, rfl⟩, ⟨[], hL1, rfl, fun _ z => by simp at z⟩, hN1, hF1, t1.mono (by omega), kk1⟩ (fun _ _ _ _ _ => trivial) ?_ ?_
      · clear hN1 hF1 hL1 t1 kk1 tt k1
        rintro i v ρ T hv ⟨⟨z4, z5, z10, z11, z12, z13, z14, rfl⟩, ⟨ls, hL, ll, lok⟩, hN, hF, tt, kk⟩
        obtain ⟨rfl, hi⟩ := rangeV_get hv
        have big : 1 < nm.length := mm.2.2 (by omega)
        have two := tt.two
        array_get_dec
        rw [List.length_map]
        refine (draw_wp tt (by omega) (by omega) (by omega)).imp ?_
        rintro _ U1 ⟨x1, rfl, x10, x11, u1, ku1⟩
        have hN1 : U1[N]? = some (.lst (nm.map Val.str)) := by array_mem_dec
        obtain ⟨one, o1, o2, _⟩ := K08.at_map (f := Val.str) (xs := nm) x10 x11
        array_get_dec
        refine vIxL rfl rfl hN1 o1 ?_
        array_get_dec
        refine .inr ⟨N, _, rfl, hN1, ?_⟩
        refine lc_inv (fun j a T => a = ((nm.take j).filter fun x => decide (x ≠ one)).map Val.str ∧ U1 = T) (by rw [List.length_map]; omega) ⟨rfl, rfl⟩ (fun j a T _ z => by rw [← z.2]; exact hN1) (fun j a T z => by rw [z.1, List.length_map]; exact Nat.le_trans (List.length_filter_le _ _) (List.length_take_le _ _)) ?_ ?_
        · rintro j v a _ hv2 ⟨rfl, rfl⟩
          rw [List.getElem?_map] at hv2
          obtain ⟨n, hn2, rfl⟩ := Option.map_eq_some_iff.mp hv2
          refine bn rfl ?_
          array_get_dec
          have tk : ((nm.take (j + 1)).filter fun x => decide (x ≠ one)) = ((nm.take j).filter fun x => decide (x ≠ one)) ++ (if n ≠ one then [n] else []) := by
            rw [List.take_add_one, hn2, List.filter_append]
            congr 1
            by_cases c : n = one <;> simp [c]
          refine Br.of (fun c => ?_) (fun c => ?_)
          · have c : n ≠ one := by simpa using c
            array_get_dec
            refine ⟨?_, rfl⟩
            rw [tk, if_pos c, List.map_append]
            rfl
          · have c : n = one := by simpa using c
            refine ⟨?_, rfl⟩
            rw [tk, if_neg (by simp [c]), List.append_nil]
        rintro _ _ ⟨rfl, rfl⟩
        rw [List.length_map, List.take_length]
        have rne := rest_ne (one := one) ndn big
        have rle : (nm.filter fun x => decide (x ≠ one)).length ≤ 6 := Nat.le_trans (List.length_filter_le _ _) l6
        have rmem : ∀ x ∈ nm.filter fun x => decide (x ≠ one), x ∈ pool6 := fun x hx => mn x (List.mem_filter.mp hx).1
        generalize (nm.filter fun x => decide (x ≠ one)) = rest at rne rle rmem
        have twou := u1.two
        intro U2 R e_R l_U2 g_R k_U2
        array_get_dec
        refine (draw_wp (u1.fr k_U2) (by decide) (by decide) (by omega)).imp ?_
        rintro _ U3 ⟨le, rfl, le0, le1, u3, ku3⟩
        have two3 := u3.two
        array_get_dec
        intro U4 a4 e_a4 l_U4 g_a4 k_U4
        array_get_dec
        refine (draw_wp (u3.fr k_U4) (by decide) (by decide) (by omega)).imp ?_
        rintro _ U5 ⟨mi, rfl, mi0, mi1, u5, ku5⟩
        array_get_dec
        obtain ⟨mv, mv1, mv2⟩ := atI_mem (vs := [.int 0, .int 2, .int 5, .int 18, .non]) mi0 mi1
        refine vIxL rfl rfl (by array_mem_dec) mv1 ?_
        have hR5 : U5[R]? = some (.lst (rest.map Val.str)) := by array_mem_dec
        have kT5 : Kx 2 T U5 := fun k o hk ho => ku5 k o hk (k_U4.at (ku3 k o hk (k_U2.at (ku1 k o hk ho))))
        have hL5 := kT5 L _ (by omega) hL
        have hN5 := kT5 N _ (by omega) hN
        have hF5 := kT5 F _ (by omega) hF
        have k05 : Kx 2 S U5 := kk.trans kT5
        have lL5 := lt_of_at hL5
        clear hL hN hF tt kk hN1 ku5 k_U4 ku3 k_U2 ku1 g_R g_a4 kT5
        have fin : ∀ (o : Option Fq) (V : Sto), (∀ m, o = some m → ∃ n : Int, m = Fr.mk n 2 ∧ 0 ≤ n ∧ n ≤ 200) → U5 = V →
            Ws (sExpr (eMt isL gApp (eV 8) (aCons (eTup (aCons (eV 10) (aCons (eB gIxA (eV 11) (eDef drawL_ 2 (aCons (eV 0) (aCons (eCall gLen (aCons (eV 11) aNil)) aNil)))) (aCons (eDef fracL_ 2 (aCons (eV 12) (aCons (eC (.int 2)) aNil))) (aCons (eV 14) aNil))))) aNil)) [some (.ref 2), some (.int mo), some (.ref P), some (.ref N), z4, some (.int (0 + (i : Int))), some (.str src), some (.ref F), some (.ref L), z9, some (.str one), some (.ref R), some (.int le), some mv, some (oV o)] V)
              (fun ρ T => (∃ z4 z5 z10 z11 z12 z13 z14, ρ = [some (.ref 2), some (.int mo), some (.ref P), some (.ref N), z4, z5, some (.str src), some (.ref F), some (.ref L), z9, z10, z11, z12, z13, z14]) ∧ (∃ ls : List Lk, T[L]? = some (.lst (ls.map lkV)) ∧ ls.length = i + 1 ∧ ∀ l ∈ ls, L9 10 l) ∧ T[N]? = some (.lst (nm.map Val.str)) ∧ T[F]? = some (.lst (hs.map hsV)) ∧ Tq T (B + 22 + 4 * (i + 1 : Nat)) ∧ Kx 2 S T) (fun v T => ∃ fl, v = flV fl ∧ F9 10 fl ∧ Tq T (B + 100) ∧ Kx 2 S T) := by
          rintro o _ ho rfl
          array_get_dec
          rw [List.length_map]
          refine (draw_wp u5 (by omega) (by omega) (by omega)).imp ?_
          rintro _ U6 ⟨y, rfl, y0, y1, u6, ku6⟩
          obtain ⟨to, to1, to2, _⟩ := K08.at_map (f := Val.str) (xs := rest) y0 y1
          array_get_dec
          refine vIxL rfl rfl (show U6[R]? = _ by array_mem_dec) to1 ?_
          array_get_dec
          refine (frac_wp (by decide) (by decide)).imp ?_
          rintro _ _ ⟨rfl, rfl⟩
          array_get_dec
          refine vApp rfl (ku6 L _ (by omega) hL5) ?_ (small (by rw [List.length_map]; omega))
          intro U7 l_U7 g_U7 k_U7
          refine ⟨⟨_, _, _, _, _, _, _, rfl⟩, ⟨ls ++ [⟨one, to, Fr.mk le 2, o⟩], ?_, by simp [ll], ?_⟩, k_U7 N _ (by omega) (ku6 N _ (by omega) hN5), k_U7 F _ (by omega) (ku6 F _ (by omega) hF5), (u6.kx k_U7 (by omega)).mono (by push_cast; omega), fun k o hk ho => ?_⟩
          · rw [List.map_append]
            exact g_U7
          · intro l hl
            rcases List.mem_append.mp hl with hl | hl
            · exact lok l hl
            · simp only [List.mem_singleton] at hl
              subst hl
              exact ⟨⟨le, rfl, le0, by omega⟩, ho, tx6 (mn _ o2), tx6 (rmem _ to2)⟩
          · have lo := lt_of_at ho
            exact k_U7 k o (by omega) (ku6 k o hk (k05 k o hk ho))
        refine bn rfl (ws_seq (ws_cut (N' := fun ρ T => ∃ o : Option Fq, ρ = [some (.ref 2), some (.int mo), some (.ref P), some (.ref N), z4, some (.int (0 + (i : Int))), some (.str src), some (.ref F), some (.ref L), z9, some (.str one), some (.ref R), some (.int le), some mv, some (oV o)] ∧ (∀ m, o = some m → ∃ n : Int, m = Fr.mk n 2 ∧ 0 ≤ n ∧ n ≤ 200) ∧ U5 = T) ?_ (by rintro _ _ ⟨o, rfl, ho, rfl⟩; exact fin o _ ho rfl)))
        simp only [List.mem_cons, List.not_mem_nil, or_false] at mv2
        rcases mv2 with rfl | rfl | rfl | rfl | rfl
        case inr.inr.inr.inr =>
          array_get_dec
          exact ⟨none, rfl, fun m h => (by cases h), rfl⟩
        all_goals
          array_get_dec
          refine (frac_wp (by decide) (by decide)).imp ?_
          rintro _ _ ⟨rfl, rfl⟩
          array_get_dec
          exact ⟨some (Fr.mk _ 2), rfl, fun m h => ⟨_, (Option.some.inj h).symm, by omega, by omega⟩, rfl⟩
      · clear hN1 hF1 hL1 t1 kk1 tt k1
        rintro ρ T ⟨⟨z4, z5, z10, z11, z12, z13, z14, rfl⟩, ⟨ls, hL, ll, lok⟩, hN, hF, tt, kk⟩
        rw [rangeV_len] at ll tt
        array_get_dec
        refine ⟨⟨hs, ls, src⟩, rfl, ⟨by rw [hn']; exact ndn, by show 0 < hs.length; omega, by show hs.length ≤ 6; omega, fun h hh => ⟨(hg h hh).1, (hg h hh).2.1⟩, lok, by show ls.length ≤ 8; omega, ⟨fun h hh => tx6 (mn _ (by rw [← hn']; exact List.mem_map_of_mem hh)), tx6 (mn _ hs2)⟩, fun h hh => (hg h hh).2.2⟩, tt.mono (by omega), kk⟩
    · exact wm (by omega) (by split <;> decide)
end K19
namespace K19
open PySem PySem.Spec PyProof.Rows L2 G Th AL K37 KL Fr
open K08 (wm wd ws_cut)
def r4 (x : Fq) : Int := x.1 * 4 / x.2
theorem slow_small {x : Fq} (h : x ∈ slows) : x.1.natAbs < 2 ^ 64 ∧ 0 < x.2 ∧ x.2 < 2 ^ 60 ∧ 2 ≤ r4 x ∧ r4 x ≤ 4 := by
  simp only [slows, List.mem_cons, List.not_mem_nil, or_false] at h
  rcases h with rfl | rfl | rfl <;> decide
theorem fast_small {x : Fq} (h : x ∈ fasts) : x.1.natAbs < 2 ^ 64 ∧ 0 < x.2 ∧ x.2 < 2 ^ 60 ∧ 4 ≤ r4 x ∧ r4 x ≤ 8 := by
  simp only [fasts, List.mem_cons, List.not_mem_nil, or_false] at h
  rcases h with rfl | rfl | rfl | rfl <;> decide
def dsV (h : Hs) : Val := .tup [frV h.slow, frV h.fast]
theorem rates_wp {c0 : Int} {fl : Fl} {S : Sto} {n : Str} (fo : F9 c0 fl) (hn : n ∈ fl.hs.map Hs.name) : Wp (ratesL_ [flV fl, .str n] S) fun v T => ∃ h, h ∈ fl.hs ∧ driftOf fl n = some h ∧ v = .tup [.int (r4 h.slow), .int (r4 h.fast)] ∧ Kn S T := by
  obtain ⟨h, hh, hm⟩ := drift_some hn
  have few := fo.few
  refine AL.wf ?_; simp only [List.map_cons, List.map_nil, List.length_cons, List.length_nil, Nat.reduceAdd, Nat.reduceSub, List.replicate_succ, List.replicate_zero, List.cons_append, List.nil_append]; unfold ratesL_B; array_get_dec
  refine .inl ⟨_, rfl, ?_⟩
  refine lc_inv (fun j a T => a = ((fl.hs.take j).filter fun h => decide (h.name = n)).map dsV ∧ S = T) (by rw [List.length_map]; omega) ⟨rfl, rfl⟩ (fun j a T _ z => trivial) (fun j a T z => by rw [z.1, List.length_map]; exact Nat.le_trans (List.length_filter_le _ _) (List.length_take_le _ _)) ?_ ?_
  · rintro j v a _ hv2 ⟨rfl, rfl⟩
    rw [List.getElem?_map] at hv2
    obtain ⟨g, hg, rfl⟩ := Option.map_eq_some_iff.mp hv2
    refine bn rfl ?_
    have tk : ((fl.hs.take (j + 1)).filter fun h => decide (h.name = n)) = ((fl.hs.take j).filter fun h => decide (h.name = n)) ++ (if g.name = n then [g] else []) := by
      rw [List.take_add_one, hg, List.filter_append]
      congr 1
      by_cases c : g.name = n <;> simp [c]
    array_get_dec
    refine Br.of (fun c => ?_) (fun c => ?_)
    · have c : g.name = n := by simpa using c
      array_get_dec
      refine vSlFrom (k := 1) rfl (by decide) (by simp) ?_
      refine ⟨?_, rfl⟩
      rw [tk, if_pos c, List.map_append]
      rfl
    · have c : g.name ≠ n := by simpa using c
      refine ⟨?_, rfl⟩
      rw [tk, if_neg c, List.append_nil]
  rintro _ _ ⟨rfl, rfl⟩
  rw [List.length_map, List.take_length]
  intro T1 r e_r l_T1 g_r k_T1
  array_get_dec
  have hd : (fl.hs.filter fun h => decide (h.name = n)).head? = some h := by rw [List.head?_filter]; exact hh
  obtain ⟨hs', he⟩ : ∃ hs', (fl.hs.filter fun h => decide (h.name = n)) = h :: hs' := by
    cases hf : (fl.hs.filter fun h => decide (h.name = n)) with
    | nil => rw [hf] at hd; cases hd
    | cons x xs => rw [hf] at hd; cases hd; exact ⟨xs, rfl⟩
  rw [he] at g_r
  obtain ⟨s1, s2, s3, _⟩ := slow_small (fo.rate h hm).1
  obtain ⟨f1, f2, f3, _⟩ := fast_small (fo.rate h hm).2
  refine vIxL rfl rfl g_r at0 ?_
  refine bn rfl ?_
  array_get_dec
  · exact ⟨h, hm, hh, rfl, k_T1⟩
  · exact wd f2 f3
  · exact wm f1 (by decide)
  · exact wd s2 s3
  · exact wm s1 (by decide)

structure Sd where
  k : Nat
  l : Nat
  t : Int
def sdV (s : Sd) : Val := .tup [.int (s.k : Nat), .int (s.l : Nat), .int s.t]
theorem enumV_len (vs : List Val) : (enumV vs).length = vs.length := by simp [enumV]
theorem mk2_small {n : Int} (h0 : 0 ≤ n) (h1 : n ≤ 200) : (Fr.mk n 2).1.natAbs < 2 ^ 64 ∧ (Fr.mk n 2).2.natAbs < 2 ^ 64 := by
  have := Fr.mk_ok (n := 64) (a := n) (b := 2) (by decide) (Nat.lt_trans (show n.natAbs < 1000 by omega) (by decide)) (by decide)
  exact ⟨this.b1, this.b2⟩

def Opn (fl : Fl) (sds : List Sd) (n : Str) (now : Int) (k : Nat) : Prop := ∃ s ∈ sds, s.k = k ∧ ∃ lk, fl.ls[s.l]? = some lk ∧ lk.to = n ∧ lk.least.1 ≤ (now - s.t) * lk.least.2 ∧ ∀ m, lk.most = some m → (now - s.t) * m.2 ≤ m.1
theorem open_wp {fl : Fl} {S : Sto} {sds : List Sd} {Sn : Nat} {n : Str} {now : Int} (fo : F9 10 fl) (hS : S[Sn]? = some (.lst (sds.map sdV))) (ls : sds.length ≤ 100) (hl : ∀ s ∈ sds, s.l < fl.ls.length ∧ 0 ≤ s.t ∧ s.t ≤ now) (hn : now ≤ 1000) :
    Wp (openL_ [flV fl, .ref Sn, .str n, .int now] S) fun v T => ∃ (ks : List Nat) (r : Nat), v = .ref r ∧ T[r]? = some (.lst (ks.map natV)) ∧ Kn S T ∧ ks.length ≤ sds.length ∧ S.length ≤ r ∧ ∀ k ∈ ks, Opn fl sds n now k := by
  have lS := lt_of_at hS
  refine AL.wf ?_; simp only [List.map_cons, List.map_nil, List.length_cons, List.length_nil, Nat.reduceAdd, Nat.reduceSub, List.replicate_succ, List.replicate_zero, List.cons_append, List.nil_append]; unfold openL_B; array_get_dec
  intro S1 r e_r l_S1 g_r k_S1
  array_get_dec
  refine .inr ⟨Sn, _, rfl, by array_mem_dec, ?_⟩
  refine ws_loop (fun i ρ T => (∃ z5 z6 z7 z8 z9, ρ = [some (flV fl), some (.ref Sn), some (.str n), some (.int now), some (.ref r), z5, z6, z7, z8, z9]) ∧ (∃ ks : List Nat, T[r]? = some (.lst (ks.map natV)) ∧ ks.length ≤ i ∧ ∀ k ∈ ks, Opn fl sds n now k) ∧ Kx r S1 T) ⟨⟨_, _, _, _, _, rfl⟩, ⟨[], g_r, Nat.le_refl _, fun k hk => (by simp at hk)⟩, Kx.refl _ _⟩ (fun i ρ T _ z => z.2.2 Sn _ (by omega) (k_S1.at hS)) ?_ ?_
  · rintro i v ρ T hv ⟨⟨z5, z6, z7, z8, z9, rfl⟩, ⟨ks, hks, kl, kok⟩, kx⟩
    rw [List.getElem?_map] at hv
    obtain ⟨s, hs, rfl⟩ := Option.map_eq_some_iff.mp hv
    have sm := List.mem_of_getElem? hs
    obtain ⟨l1, l2, l3⟩ := hl s sm
    obtain ⟨lk, hlk⟩ : ∃ lk, fl.ls[s.l]? = some lk := ⟨_, List.getElem?_eq_getElem l1⟩
    obtain ⟨a, b, tx⟩ := fo.lk lk (List.mem_of_getElem? hlk)
    obtain ⟨an, ae, a0, a1⟩ := a
    have asm := mk2_small a0 (by omega)
    rw [← ae] at asm
    have li := (List.getElem?_eq_some_iff.mp hs).1
    have stay : ∃ ks' : List Nat, T[r]? = some (.lst (ks'.map natV)) ∧ ks'.length ≤ i + 1 ∧ ∀ k ∈ ks', Opn fl sds n now k := ⟨ks, hks, by omega, kok⟩
    have add : Opn fl sds n now s.k → ∀ T', T'[r]? = some (.lst (ks.map natV ++ [.int (s.k : Nat)])) → Kx r T T' → (∃ ks' : List Nat, T'[r]? = some (.lst (ks'.map natV)) ∧ ks'.length ≤ i + 1 ∧ ∀ k ∈ ks', Opn fl sds n now k) ∧ Kx r S1 T' := by
      intro ho T' h1 h2
      refine ⟨⟨ks ++ [s.k], ?_, by simp; omega, fun k hk => ?_⟩, kx.trans h2⟩
      · rw [h1, List.map_append]
        rfl
      · rcases List.mem_append.mp hk with hk | hk
        · exact kok k hk
        · simp only [List.mem_singleton] at hk
          subst hk
          exact ho
    refine bn rfl ?_
    array_get_dec
    refine vIxT rfl rfl (at_lk hlk) ?_
    array_get_dec
    refine vSlFrom (k := 2) rfl (by decide) (by simp) ?_
    refine bn rfl ?_
    array_get_dec
    refine vIxT rfl rfl (at_lk hlk) ?_
    array_get_dec
    refine Br.of (fun c => ?_) (fun c => ?_)
    · array_get_dec
      · refine Br.of (fun c2 => ?_) (fun c2 => ?_)
        · have c : lk.to = n := by simpa using c
          have c2 : lk.least.1 ≤ (now - s.t) * lk.least.2 := of_decide_eq_true c2
          cases hm : lk.most with
          | none =>
            array_get_dec
            refine vApp rfl hks ?_ (small (by rw [List.length_map]; omega))
            intro T2 l_T2 g_T2 k_T2
            exact ⟨⟨_, _, _, _, _, rfl⟩, add ⟨s, sm, rfl, lk, hlk, c, c2, fun m z => by rw [hm] at z; cases z⟩ T2 g_T2 k_T2⟩
          | some m =>
            obtain ⟨bn', be, b0, b1⟩ := b m hm
            have bsm := mk2_small b0 b1
            rw [← be] at bsm
            array_get_dec
            · refine Br.of (fun c3 => ?_) (fun c3 => ?_)
              · have c3 : (now - s.t) * m.2 ≤ m.1 := of_decide_eq_true c3
                array_get_dec
                refine vApp rfl hks ?_ (small (by rw [List.length_map]; omega))
                intro T2 l_T2 g_T2 k_T2
                exact ⟨⟨_, _, _, _, _, rfl⟩, add ⟨s, sm, rfl, lk, hlk, c, c2, fun m' z => by rw [hm] at z; cases z; exact c3⟩ T2 g_T2 k_T2⟩
              · array_get_dec
                exact ⟨⟨_, _, _, _, _, rfl⟩, stay, kx⟩
            · exact wm (Nat.lt_trans (show (now - s.t).natAbs < 2000 by omega) (by decide)) bsm.2
        · array_get_dec
          exact ⟨⟨_, _, _, _, _, rfl⟩, stay, kx⟩
      · exact wm (Nat.lt_trans (show (now - s.t).natAbs < 2000 by omega) (by decide)) asm.2
    · array_get_dec
      exact ⟨⟨_, _, _, _, _, rfl⟩, stay, kx⟩
  · rintro ρ T ⟨⟨z5, z6, z7, z8, z9, rfl⟩, ⟨ks, hks, kl, kok⟩, kx⟩
    rw [List.length_map] at kl
    array_get_dec
    refine ⟨ks, r, rfl, hks, ?_, kl, by omega, kok⟩
    exact fun k o ho => kx k o (by have := lt_of_at ho; omega) (k_S1.at ho)
end K19
namespace K19
open PySem PySem.Spec PyProof.Rows L2 G Th AL K37 KL Fr
open K08 (wm wd ws_cut)
def StB (b : Nat) (x : Fq) : Prop := ∃ k : Int, x = Fr.mk k 4 ∧ k.natAbs ≤ b

structure H9 (b : Nat) (fl : Fl) (es : List Ev) : Prop where
  len : es.length ≤ 30
  ev : ∀ i, i < es.length → EvOk fl es i
  st : ∀ i, i < es.length → StB b (es.getD i dEv).stamp
def wV (t : Int) : Val := .tup [.int t, .int 1]
theorem st_snoc {b : Nat} {es : List Ev} {e : Ev} (h : ∀ i, i < es.length → StB b (es.getD i dEv).stamp) (he : StB b e.stamp) : ∀ i, i < (es ++ [e]).length → StB b ((es ++ [e]).getD i dEv).stamp := by
  intro i hi
  rw [List.length_append, List.length_singleton] at hi
  rcases Nat.lt_or_ge i es.length with c | c
  · rw [getD_l c]; exact h i c
  · have : i = es.length := by omega
    subst this
    rw [getD_r]; exact he

structure Tr9 (fl : Fl) (es : List Ev) (ts : List Int) : Prop where
  len : ts.length = es.length
  up : ∀ j i, j < i → i < es.length → ts.getD j 0 ≤ ts.getD i 0
  same : ∀ i j h, i < es.length → lastAt es i (es.getD i dEv).name = some j → driftOf fl (es.getD i dEv).name = some h → ∃ k1 k0 rt : Int, (es.getD i dEv).stamp = Fr.mk k1 4 ∧ (es.getD j dEv).stamp = Fr.mk k0 4 ∧ k1 = k0 + (ts.getD i 0 - ts.getD j 0) * rt ∧ r4 h.slow ≤ rt ∧ rt ≤ r4 h.fast
  hear : ∀ i k, i < es.length → (es.getD i dEv).deed = .hear k → ∃ l lk, (es.getD k dEv).deed = .send l ∧ fl.ls[l]? = some lk ∧ lk.least.1 ≤ (ts.getD i 0 - ts.getD k 0) * lk.least.2 ∧ ∀ m, lk.most = some m → (ts.getD i 0 - ts.getD k 0) * m.2 ≤ m.1
  hr : ∀ j, j < es.length → 0 ≤ ts.getD j 0 ∧ ts.getD j 0 ≤ 90
theorem getI_l {ts : List Int} {t : Int} {j : Nat} (h : j < ts.length) : (ts ++ [t]).getD j 0 = ts.getD j 0 := by
  simp [List.getD, List.getElem?_append_left h]
theorem getI_r {ts : List Int} {t : Int} : (ts ++ [t]).getD ts.length 0 = t := by simp [List.getD]
theorem last_app {es : List Ev} {e : Ev} {n : Str} : ∀ {i : Nat}, i ≤ es.length → lastAt (es ++ [e]) i n = lastAt es i n
  | 0, _ => rfl
  | i + 1, h => by
    unfold lastAt
    rw [getD_l (by omega), last_app (by omega)]
theorem Tr9.snoc {fl : Fl} {es : List Ev} {ts : List Int} {e : Ev} {t : Int} (h : Tr9 fl es ts) (hev : ∀ j, j < es.length → EvOk fl es j) (up : ∀ j, j < es.length → ts.getD j 0 ≤ t) (hr : 0 ≤ t ∧ t ≤ 90)
    (same : ∀ j g, lastAt es es.length e.name = some j → driftOf fl e.name = some g → ∃ k1 k0 rt : Int, e.stamp = Fr.mk k1 4 ∧ (es.getD j dEv).stamp = Fr.mk k0 4 ∧ k1 = k0 + (t - ts.getD j 0) * rt ∧ r4 g.slow ≤ rt ∧ rt ≤ r4 g.fast)
    (hear : ∀ k, e.deed = .hear k → k < es.length ∧ ∃ l lk, (es.getD k dEv).deed = .send l ∧ fl.ls[l]? = some lk ∧ lk.least.1 ≤ (t - ts.getD k 0) * lk.least.2 ∧ ∀ m, lk.most = some m → (t - ts.getD k 0) * m.2 ≤ m.1) : Tr9 fl (es ++ [e]) (ts ++ [t]) := by
  have len := h.len
  have cases_ : ∀ i, i < (es ++ [e]).length → i < es.length ∨ i = es.length := fun i hi => by simp at hi; omega
  have te : (ts ++ [t]).getD es.length 0 = t := by rw [← len]; exact getI_r
  refine ⟨by simp [len], fun j i hji hi => ?_, fun i j g hi hl hd => ?_, fun i k hi hd => ?_, fun i hi => ?_⟩
  · rcases cases_ i hi with c | rfl
    · rw [getI_l (by omega), getI_l (by omega)]
      exact h.up j i hji c
    · rw [te, getI_l (by omega)]
      exact up j hji
  · have lt := lastAt_lt hl
    rcases cases_ i hi with c | rfl
    · rw [getD_l c] at hl hd ⊢
      rw [last_app (by omega)] at hl
      rw [getD_l (by omega), getI_l (by omega), getI_l (by omega)]
      exact h.same i j g c hl hd
    · rw [getD_r] at hl hd ⊢
      rw [last_app (Nat.le_refl _)] at hl
      rw [getD_l lt, te, getI_l (by omega)]
      exact same j g hl hd
  · rcases cases_ i hi with c | rfl
    · rw [getD_l c] at hd
      have lk := ((hev i c).hear k hd).1
      rw [getD_l (by omega), getI_l (by omega), getI_l (by omega)]
      exact h.hear i k c hd
    · rw [getD_r] at hd
      obtain ⟨lk, r⟩ := hear k hd
      rw [getD_l lk, te, getI_l (by omega)]
      exact r
  · rcases cases_ i hi with c | rfl
    · rw [getI_l (by omega)]
      exact h.hr i c
    · rw [te]
      exact hr
theorem drawnB_wp {S : Sto} {B mo : Int} {m b : Nat} (hb : 20 + 24 * m ≤ b) (TT : Tq S B) (hB : B < 80000) (hm : m ≤ 30) (mo0 : 1 ≤ mo) (mo6 : mo ≤ 6) : Wp (drawnL_ [.ref 2, .int mo, .int (m : Nat)] S) fun v T => ∃ (fl : Fl) (es : List Ev) (ts : List Int), v = .tup [hiV fl es, .tup (ts.map wV)] ∧ F9 10 fl ∧ H9 b fl es ∧ es.length = m ∧ ts.length = m ∧ Tq T (B + 300) ∧ Kx 2 S T ∧ Tr9 fl es ts := by
  have h60 := p60
  have h62 := p62
  have two := TT.two
  refine AL.wf ?_; simp only [List.map_cons, List.map_nil, List.length_cons, List.length_nil, Nat.reduceAdd, Nat.reduceSub, List.replicate_succ, List.replicate_zero, List.cons_append, List.nil_append]; unfold drawnL_B; array_get_dec
  refine (field_wp TT (by omega) mo0 mo6).imp ?_
  rintro _ S1 ⟨fl, rfl, fo, t1, k1⟩
  have two1 := t1.two
  have l1 := k1.len
  array_get_dec
  intro S2 C e_C l_S2 g_C k_S2
  array_get_dec
  intro S3 Sn e_Sn l_S3 g_Sn k_S3
  array_get_dec
  intro S4 E e_E l_S4 g_E k_S4
  array_get_dec
  intro S5 W e_W l_S5 g_W k_S5
  have gC : S5[C]? = some (.dic []) := by array_mem_dec
  have gS : S5[Sn]? = some (.lst []) := by array_mem_dec
  have gE : S5[E]? = some (.lst []) := by array_mem_dec
  have gW : S5[W]? = some (.lst []) := by array_mem_dec
  have t5 : Tq S5 (B + 100) := (((t1.fr k_S2).fr k_S3).fr k_S4).fr k_S5
  have k5 : Kx 2 S S5 := k1.trans ((((k_S2.trans k_S3).trans k_S4).trans k_S5).kx 2)
  have lC : S.length ≤ C := by (by_cases h2 : 2 + 1 < S.length); (have := l1 h2; omega); omega
  have ord : 3 ≤ C ∧ C < Sn ∧ Sn < E ∧ E < W := by omega
  clear e_C e_Sn e_E e_W l_S2 l_S3 l_S4 l_S5 g_C g_Sn g_E g_W k_S2 k_S3 k_S4 k_S5 l1 k1 t1
  have few := fo.few
  have ne := fo.ne
  have lfew := fo.lfew
  array_get_dec
  refine ⟨_, rfl, ?_, by omega, by omega⟩
  rw [Int.toNat_natCast]
  refine ws_loop (fun i ρ T => (∃ (now : Int) (z4 z10 z11 z12 z13 z14 z15 z16 z17 z18 z19 z20 : Option Val) (d : List (Key × Val)) (sds : List Sd) (es : List Ev) (ts : List Int), ρ = [some (.ref 2), some (.int mo), some (.int (m : Nat)), some (flV fl), z4, some (.int now), some (.ref C), some (.ref Sn), some (.ref E), some (.ref W), z10, z11, z12, z13, z14, z15, z16, z17, z18, z19, z20] ∧
      0 ≤ now ∧ now ≤ 3 * i ∧ T[C]? = some (.dic d) ∧ d.length ≤ i ∧ (∀ n v, valA d (.inr n) = some v → ∃ (j : Nat) (t st : Int), v = .tup [.int t, .int st] ∧ 0 ≤ t ∧ t ≤ now ∧ (st.natAbs : Int) ≤ 20 + 8 * t ∧ lastAt es i n = some j ∧ t = ts.getD j 0 ∧ (es.getD j dEv).stamp = Fr.mk st 4) ∧ (∀ n, valA d (.inr n) = none → lastAt es i n = none) ∧
      T[Sn]? = some (.lst (sds.map sdV)) ∧ sds.length ≤ i ∧ (∀ s ∈ sds, s.l < fl.ls.length ∧ 0 ≤ s.t ∧ s.t ≤ now) ∧ (∀ s ∈ sds, s.k < es.length ∧ (es.getD s.k dEv).deed = .send s.l ∧ s.t = ts.getD s.k 0) ∧
      T[E]? = some (.lst (es.map evV)) ∧ es.length = i ∧ (∀ j, j < es.length → EvOk fl es j) ∧ (∀ j, j < es.length → StB b (es.getD j dEv).stamp) ∧ T[W]? = some (.lst (ts.map wV)) ∧ ts.length = i ∧ Tr9 fl es ts ∧ ∀ j, j < es.length → ts.getD j 0 ≤ now) ∧ Tq T (B + 100 + 6 * i) ∧ Kx 2 S T)
    ⟨⟨0, _, _, _, _, _, _, _, _, _, _, _, _, [], [], [], [], rfl, by omega, by omega, gC, Nat.le_refl _, fun n v h => (by cases h), fun n _ => rfl, gS, Nat.le_refl _, fun s h => (by cases h), fun s h => (by cases h), gE, rfl, fun j h => absurd h (Nat.not_lt_zero _), fun j h => absurd h (Nat.not_lt_zero _), gW, rfl, ⟨rfl, fun j i _ h => absurd h (Nat.not_lt_zero _), fun i j h' h => absurd h (Nat.not_lt_zero _), fun i k h => absurd h (Nat.not_lt_zero _), fun j h => absurd h (Nat.not_lt_zero _)⟩, fun j h => absurd h (Nat.not_lt_zero _)⟩, t5.mono (by omega), k5⟩ (fun _ _ _ _ _ => trivial) ?_ ?_
  · clear gC gS gE gW t5 k5
    rintro i v ρ T hv ⟨⟨now, z4, z10, z11, z12, z13, z14, z15, z16, z17, z18, z19, z20, d, sds, es, ts, rfl, n0, n1, hC, dl, dv, dn, hS, sl, s1, s2, hE, el, hev, hst, hW, tl, tr, tup⟩, tt, kk⟩
    obtain ⟨rfl, hi⟩ := rangeV_get hv
    have lC' := lt_of_at hC
    have lS' := lt_of_at hS
    have lE' := lt_of_at hE
    have lW' := lt_of_at hW
    array_get_dec
    intro T1 a1 e_a1 l_T1 g_a1 k_T1
    array_get_dec
    refine (draw_wp (tt.fr k_T1) (by decide) (by decide) (by omega)).imp ?_
    rintro _ T2 ⟨x, rfl, x0, x1, t2, k2⟩
    array_get_dec
    obtain ⟨dv1, hd1, hd2⟩ := atI_mem (vs := [.int 0, .int 0, .int 1, .int 2, .int 3]) x0 x1
    refine vIxL rfl rfl (by array_mem_dec) hd1 ?_
    obtain ⟨dt, rfl, dt0, dt3⟩ : ∃ dt : Int, dv1 = .int dt ∧ 0 ≤ dt ∧ dt ≤ 3 := by
      simp only [List.mem_cons, List.not_mem_nil, or_false] at hd2
      rcases hd2 with rfl | rfl | rfl | rfl | rfl <;> exact ⟨_, rfl, by decide, by decide⟩
    array_get_dec
    rw [List.length_map]
    refine (draw_wp t2 (by omega) (by omega) (by omega)).imp ?_
    rintro _ T3 ⟨y, rfl, y0, y1, t3, k3⟩
    obtain ⟨h, hh1, hh2, _⟩ := K08.at_map (f := hsV) (xs := fl.hs) y0 y1
    array_get_dec
    refine vIxT rfl rfl hh1 ?_
    array_get_dec
    refine (draw_wp t3 (by decide) (by decide) (by omega)).imp ?_
    rintro _ T4 ⟨st, rfl, st0, st1, t4, k4⟩
    have kT4 : Kx 2 T T4 := (((k_T1.kx 2).trans k2).trans k3).trans k4
    have hnm : h.name ∈ fl.hs.map Hs.name := List.mem_map_of_mem hh2
    clear k_T1 k2 k3 k4 t2 t3 g_a1 hd1 hd2
    have two4 := t4.two
    have hC4 := kT4 C _ (by omega) hC
    refine wc ?_
    refine vI rfl rfl ?_
    refine bn rfl (ws_seq (ws_cut (N' := fun ρ U => ∃ (su : Int) (z16 z17 z18 : Option Val), ρ = [some (.ref 2), some (.int mo), some (.int (m : Nat)), some (flV fl), some (.int (0 + (i : Int))), some (.int (now + dt)), some (.ref C), some (.ref Sn), some (.ref E), some (.ref W), some (.str h.name), some (.int su), z12, z13, z14, z15, z16, z17, z18, z19, z20] ∧ (su.natAbs : Int) ≤ 20 + 8 * (now + dt) ∧ Kx 2 T4 U ∧ Tq U (B + 100 + 6 * i + 4) ∧ ∀ j, lastAt es i h.name = some j → ∃ k0 rt : Int, (es.getD j dEv).stamp = Fr.mk k0 4 ∧ su = k0 + (now + dt - ts.getD j 0) * rt ∧ ∀ g, driftOf fl h.name = some g → r4 g.slow ≤ rt ∧ rt ≤ r4 g.fast) ?_ ?_))
    · array_get_dec
      refine vIn rfl hC4 rfl ?_
      simp only [Bool.false_eq_true, if_false]
      refine tb rfl (Br.of (fun c => ?_) (fun c => ?_))
      · obtain ⟨cv, hcv⟩ := Option.isSome_iff_exists.mp c
        obtain ⟨jj, th, so, rfl, th0, th1, sb, jla, jth, jst⟩ := dv _ _ hcv
        array_get_dec
        refine (rates_wp fo hnm).imp ?_
        rintro _ U1 ⟨g, hg, hdr, rfl, ku1⟩
        obtain ⟨_, _, _, sr1, sr2⟩ := slow_small (fo.rate g hg).1
        obtain ⟨_, _, _, fr1, fr2⟩ := fast_small (fo.rate g hg).2
        array_get_dec
        refine vIxD rfl (ku1.at hC4) rfl hcv ?_
        have twoU := (t4.fr ku1).two
        array_get_dec
        intro U2 a2 e_a2 l_U2 g_a2 k_U2
        array_get_dec
        refine (draw_wp ((t4.fr ku1).fr k_U2) (by decide) (by decide) (by omega)).imp ?_
        rintro _ U3 ⟨e, rfl, e0, e1, u3, ku3⟩
        obtain ⟨rv, rv1, rv2⟩ := atI_mem (vs := [.int (r4 g.slow), .int (r4 g.fast), .int 4]) e0 e1
        obtain ⟨rt, rfl, rt0, rt8⟩ : ∃ rt : Int, rv = .int rt ∧ r4 g.slow ≤ rt ∧ rt ≤ r4 g.fast := by
          simp only [List.mem_cons, List.not_mem_nil, or_false] at rv2
          rcases rv2 with rfl | rfl | rfl <;> exact ⟨_, rfl, by omega, by omega⟩
        array_get_dec
        refine vIxL rfl rfl (by array_mem_dec) rv1 ?_
        array_get_dec
        · have p0 : 0 ≤ (now + dt - th) * rt := Int.mul_nonneg (by omega) (by omega)
          have p1 : (now + dt - th) * rt ≤ (now + dt - th) * 8 := Int.mul_le_mul_of_nonneg_left (by omega) (by omega)
          exact ⟨_, _, _, _, rfl, by omega, ((ku1.trans k_U2).kx 2).trans ku3, u3.mono (by omega), fun j hj => by
            rw [jla] at hj
            cases hj
            exact ⟨so, rt, jst, by rw [← jth], fun g' hg' => by rw [hdr] at hg'; cases hg'; exact ⟨rt0, rt8⟩⟩⟩
        · exact wm (by omega) (by omega)
      · array_get_dec
        exact ⟨_, _, _, _, rfl, by omega, Kx.refl _ _, t4.mono (by omega), fun j hj => by rw [dn _ (by simpa using c)] at hj; cases hj⟩
    rintro _ U ⟨su, z16, z17, z18, rfl, sb, kU, tU, sut⟩
    have twoU := tU.two
    have kTU := kT4.trans kU
    have hCU := kTU C _ (by omega) hC
    have hSU := kTU Sn _ (by omega) hS
    have hEU := kTU E _ (by omega) hE
    have hWU := kTU W _ (by omega) hW
    have kkU := kk.trans kTU
    clear hC4 kT4 kU kTU hC hS hE hW kk tt t4
    array_get_dec
    refine vPut hCU rfl ?_ (small (by omega))
    intro U1 l_U1 g_U1 k_U1
    have hC1 := g_U1
    have hS1 := k_U1 Sn _ (by omega) hSU
    have hE1 := k_U1 E _ (by omega) hEU
    have hW1 := k_U1 W _ (by omega) hWU
    have t1 : Tq U1 (B + 100 + 6 * i + 4) := tU.kx k_U1 (by omega)
    have kk1 : Kx 2 S U1 := fun k o hk ho => k_U1 k o (by have := lt_of_at ho; omega) (kkU k o hk ho)
    have d1' := putA_len d (.inr h.name) (.tup [.int (now + dt), .int su])
    clear hCU hSU hEU hWU k_U1 g_U1 kkU tU
    array_get_dec
    refine (open_wp fo hS1 (by omega) (fun s hs => ⟨(s1 s hs).1, (s1 s hs).2.1, by have := (s1 s hs).2.2; omega⟩) (by omega)).imp ?_
    rintro _ U2 ⟨ks, Mr, rfl, hM, k2, kl, lMr, kok⟩
    have lM := lt_of_at hM
    have hC2 := k2.at hC1
    have hS2 := k2.at hS1
    have hE2 := k2.at hE1
    have hW2 := k2.at hW1
    have t2 := t1.fr k2
    have kk2 := kk1.trans (k2.kx 2)
    have lM2 : 3 ≤ Mr := by have := t1.two; omega
    clear hC1 hS1 hE1 hW1 t1 kk1
    array_get_dec
    refine .inl ⟨_, rfl, ?_⟩
    refine lc_inv (fun j a V => (∃ ws : List Nat, a = ws.map natV ∧ ws.length ≤ j ∧ ∀ w ∈ ws, w < fl.ls.length) ∧ U2 = V) (by rw [enumV_len, List.length_map]; omega) ⟨⟨[], rfl, Nat.le_refl _, fun w h => (by cases h)⟩, rfl⟩ (fun j a T _ z => trivial) (fun j a T z => by obtain ⟨⟨ws, rfl, h, _⟩, _⟩ := z; rw [List.length_map]; exact h) ?_ ?_
    · rintro j v a _ hv2 ⟨⟨ws, rfl, wl, wok⟩, rfl⟩
      obtain ⟨w, hw, rfl⟩ := enumV_get hv2
      rw [List.getElem?_map] at hw
      obtain ⟨lk, hlk, rfl⟩ := Option.map_eq_some_iff.mp hw
      have lj := (List.getElem?_eq_some_iff.mp hlk).1
      refine bn rfl ?_
      array_get_dec
      refine Br.of (fun c => ?_) (fun c => ?_)
      · array_get_dec
        refine ⟨⟨ws ++ [j], by rw [List.map_append]; rfl, by simp; omega, fun w hw => ?_⟩, rfl⟩
        rcases List.mem_append.mp hw with hw | hw
        · exact wok w hw
        · simp only [List.mem_singleton] at hw
          omega
      · exact ⟨⟨ws, rfl, by omega, wok⟩, rfl⟩
    rintro _ _ ⟨⟨ws, rfl, wl, wok⟩, rfl⟩
    rw [enumV_len, List.length_map] at wl
    have two2 := t2.two
    intro U3 Wr e_Wr l_U3 g_Wr k_U3
    array_get_dec
    refine (draw_wp (t2.fr k_U3) (by decide) (by decide) (by omega)).imp ?_
    rintro _ U4 ⟨way, rfl, way0, way1, t4, k4⟩
    have hM4 : U4[Mr]? = some (.lst (ks.map natV)) := k4 Mr _ (by omega) (k_U3.at hM)
    have hR4 : U4[Wr]? = some (.lst (ws.map natV)) := by array_mem_dec
    have k24 : Kx 2 U2 U4 := (k_U3.kx 2).trans k4
    have hC4 := k24 C _ (by omega) hC2
    have hS4 := k24 Sn _ (by omega) hS2
    have hE4 := k24 E _ (by omega) hE2
    have hW4 := k24 W _ (by omega) hW2
    have kk4 := kk2.trans k24
    have two4 := t4.two
    have lS4 := lt_of_at hS4
    clear hC2 hS2 hE2 hW2 k24 kk2 t2 k_U3 k4 hM g_Wr
    have ksE : ks.map natV = (ks.map fun k : Nat => (k : Int)).map Val.int := by rw [List.map_map]; rfl
    have wsE : ws.map natV = (ws.map fun k : Nat => (k : Int)).map Val.int := by rw [List.map_map]; rfl
    refine wa0 ?_
    let Nn : Rho → Sto → Prop := fun ρ V => ∃ (dd : Dd) (sds' : List Sd), ρ = [some (.ref 2), some (.int mo), some (.int (m : Nat)), some (flV fl), some (.int (0 + (i : Int))), some (.int (now + dt)), some (.ref C), some (.ref Sn), some (.ref E), some (.ref W), some (.str h.name), some (.int su), some (.ref Mr), some (.ref Wr), some (ddV dd), some (.int way), z16, z17, z18, z19, z20] ∧
        (∀ l, dd = .send l → l < fl.ls.length) ∧ (∀ k, dd = .hear k → Opn fl sds h.name (now + dt) k) ∧ (∀ s ∈ sds', s ∈ sds ∨ (s.k = i ∧ s.t = now + dt ∧ dd = .send s.l)) ∧ sds'.length ≤ i + 1 ∧ V[C]? = some (.dic (putA d (.inr h.name) (.tup [.int (now + dt), .int su]))) ∧ V[Sn]? = some (.lst (sds'.map sdV)) ∧ V[E]? = some (.lst (es.map evV)) ∧ V[W]? = some (.lst (ts.map wV)) ∧ Tq V (B + 100 + 6 * i + 6) ∧ Kx 2 S V
    refine bn rfl (ws_seq (ws_cut (N' := Nn) ?_ ?_))
    · have stay : ∀ V, Kn U4 V → Nn [some (.ref 2), some (.int mo), some (.int (m : Nat)), some (flV fl), some (.int (0 + (i : Int))), some (.int (now + dt)), some (.ref C), some (.ref Sn), some (.ref E), some (.ref W), some (.str h.name), some (.int su), some (.ref Mr), some (.ref Wr), some (.tup [.str "mark"]), some (.int way), z16, z17, z18, z19, z20] V := fun V k =>
        ⟨.mark, sds, rfl, fun l z => (by cases z), fun k z => (by cases z), fun s hs => .inl hs, by omega, k.at hC4, k.at hS4, k.at hE4, k.at hW4, (t4.fr k).mono (by omega), kk4.trans (k.kx 2)⟩
      have els : ∀ V, Kn U4 V → Ws (sIf (bAnd (eT (eB gLt (eV 15) (eC (.int 4)))) (eT (eB gNe (eV 13) (eLst aNil)))) (sSeq (sAsg (.nm 14) (eTup (aCons (eC (.str "send")) (aCons (eB gIxA (eV 13) (eDef drawL_ 2 (aCons (eV 0) (aCons (eCall gLen (aCons (eV 13) aNil)) aNil)))) aNil))))
    (sExpr (eMt isL gApp (eV 7) (aCons (eTup (aCons (eV 4) (aCons (eB gIxA (eV 14) (eC (.int 1))) (aCons (eV 5) aNil)))) aNil)))) sNil [some (.ref 2), some (.int mo), some (.int (m : Nat)), some (flV fl), some (.int (0 + (i : Int))), some (.int (now + dt)), some (.ref C), some (.ref Sn), some (.ref E), some (.ref W), some (.str h.name), some (.int su), some (.ref Mr), some (.ref Wr), some (.tup [.str "mark"]), some (.int way), z16, z17, z18, z19, z20] V) Nn (fun v T => ∃ (fl : Fl) (es : List Ev) (ts : List Int), v = .tup [hiV fl es, .tup (ts.map wV)] ∧ F9 10 fl ∧ H9 b fl es ∧ es.length = m ∧ ts.length = m ∧ Tq T (B + 300) ∧ Kx 2 S T ∧ Tr9 fl es ts) := by
        intro V kV
        have tV := t4.fr kV
        have twoV := tV.two
        have lRV := lt_of_at (kV.at hR4)
        have lSV := lt_of_at (kV.at hS4)
        array_get_dec
        refine Br.of (fun c => ?_) (fun c => ?_)
        · array_get_dec
          intro V1 a1 e_a1 l_V1 g_a1 k_V1
          array_get_dec
          refine vNeNil rfl rfl (by rw [← wsE]; exact k_V1.at (kV.at hR4)) g_a1 ?_
          refine tb rfl (Br.of (fun c => ?_) (fun c => ?_))
          · have wne : 0 < ws.length := by cases ws with | nil => simp at c | cons => simp
            have hR1 := k_V1.at (kV.at hR4)
            array_get_dec
            rw [List.length_map]
            refine (draw_wp (tV.fr k_V1) (by omega) (by omega) (by omega)).imp ?_
            rintro _ V2 ⟨x, rfl, x0, x1, t2, k2⟩
            obtain ⟨w, w1, w2, _⟩ := K08.at_map (f := natV) (xs := ws) x0 x1
            have k42 : Kx 2 U4 V2 := ((kV.trans k_V1).kx 2).trans k2
            array_get_dec
            refine vIxL rfl rfl (k42 Wr _ (by omega) hR4) w1 ?_
            array_get_dec
            refine vApp rfl (k42 Sn _ (by omega) hS4) ?_ (small (by rw [List.length_map]; omega))
            intro V3 l_V3 g_V3 k_V3
            refine ⟨.send w, sds ++ [⟨i, w, now + dt⟩], rfl, fun l z => (by cases z; exact wok w w2), fun k z => (by cases z), fun s hs => ?_, by simp; omega, k_V3 C _ (by omega) (k42 C _ (by omega) hC4), ?_, k_V3 E _ (by omega) (k42 E _ (by omega) hE4), k_V3 W _ (by omega) (k42 W _ (by omega) hW4), (t2.kx k_V3 (by omega)).mono (by omega), fun k o hk ho => ?_⟩
            · rcases List.mem_append.mp hs with hs | hs
              · exact .inl hs
              · simp only [List.mem_singleton] at hs
                subst hs
                exact .inr ⟨rfl, rfl, rfl⟩
            · rw [List.map_append, g_V3]
              simp only [sdV, natV, Int.zero_add, List.map_cons, List.map_nil]
            · exact k_V3 k o (by have := lt_of_at ho; omega) (k42 k o hk (kk4 k o hk ho))
          · array_get_dec
            exact stay _ (kV.trans k_V1)
        · array_get_dec
          exact stay _ kV
      array_get_dec
      refine Br.of (fun c => ?_) (fun c => ?_)
      · array_get_dec
        intro V1 a1 e_a1 l_V1 g_a1 k_V1
        array_get_dec
        refine vNeNil rfl rfl (by rw [← ksE]; exact k_V1.at hM4) g_a1 ?_
        refine tb rfl (Br.of (fun c => ?_) (fun c => ?_))
        · have wne : 0 < ks.length := by cases ks with | nil => simp at c | cons => simp
          have hM1 := k_V1.at hM4
          array_get_dec
          rw [List.length_map]
          refine (draw_wp (t4.fr k_V1) (by omega) (by omega) (by omega)).imp ?_
          rintro _ V2 ⟨x, rfl, x0, x1, t2, k2⟩
          obtain ⟨w, w1, w2, _⟩ := K08.at_map (f := natV) (xs := ks) x0 x1
          have k42 : Kx 2 U4 V2 := (k_V1.kx 2).trans k2
          array_get_dec
          refine vIxL rfl rfl (k42 Mr _ (by omega) hM4) w1 ?_
          array_get_dec
          exact ⟨.hear w, sds, rfl, fun l z => (by cases z), fun k z => (by cases z; exact kok w w2), fun s hs => .inl hs, by omega, k42 C _ (by omega) hC4, k42 Sn _ (by omega) hS4, k42 E _ (by omega) hE4, k42 W _ (by omega) hW4, t2.mono (by omega), kk4.trans k42⟩
        · exact els _ k_V1
      · exact brF rfl (els _ (Kn.refl _))
    · rintro _ V ⟨dd, sds', rfl, ds, dh, dss, dsl, hC5, hS5, hE5, hW5, t5, kk5⟩
      have lE5 := lt_of_at hE5
      have lW5 := lt_of_at hW5
      array_get_dec
      refine (frac_wp (by decide) (by decide)).imp ?_
      rintro _ _ ⟨rfl, rfl⟩
      array_get_dec
      refine vApp rfl hE5 ?_ (small (by rw [List.length_map]; omega))
      intro V1 l_V1 g_V1 k_V1
      array_get_dec
      refine vApp rfl (k_V1 W _ (by omega) hW5) ?_ (small (by rw [List.length_map]; omega))
      intro V2 l_V2 g_V2 k_V2
      have sub : su.natAbs ≤ b := by omega
      have hev' := hv_snoc (e := ⟨h.name, Fr.mk su 4, dd⟩) hev hnm ⟨su, rfl, by omega⟩ ds (fun k hk => by
        obtain ⟨s, hs, rfl, _⟩ := dh k hk
        exact ⟨(s2 s hs).1, _, (s2 s hs).2.1⟩)
      have tr' : Tr9 fl (es ++ [⟨h.name, Fr.mk su 4, dd⟩]) (ts ++ [now + dt]) := by
        refine tr.snoc hev (fun j hj => by have := tup j hj; omega) (by omega) (fun j g hj hg => ?_) (fun k hk => ?_)
        · rw [el] at hj
          obtain ⟨k0, rt, e1, e2, e3⟩ := sut j hj
          exact ⟨su, k0, rt, rfl, e1, e2, e3 g hg⟩
        · obtain ⟨s, hs, rfl, lk, h1, _, h2, h3⟩ := dh k hk
          obtain ⟨a, b, c⟩ := s2 s hs
          rw [c] at h2 h3
          exact ⟨a, s.l, lk, b, h1, h2, h3⟩
      refine ⟨⟨now + dt, _, _, _, _, _, _, _, _, _, _, _, _, _, sds', es ++ [⟨h.name, Fr.mk su 4, dd⟩], ts ++ [now + dt], rfl, by omega, by push_cast; omega, k_V2 C _ (by omega) (k_V1 C _ (by omega) hC5), by omega, ?_, ?_, k_V2 Sn _ (by omega) (k_V1 Sn _ (by omega) hS5), dsl, ?_, ?_, ?_, by simp [el], hev', st_snoc hst ⟨su, rfl, sub⟩, ?_, by simp [tl], tr', fun j hj => ?_⟩, (((t5.kx k_V1 (by omega)).kx k_V2 (by omega)).mono (by push_cast; omega)), fun k o hk ho => ?_⟩
      · intro n v hv
        rw [valA_put] at hv
        split at hv
        · next e =>
          cases hv
          cases e
          refine ⟨i, _, _, rfl, by omega, by omega, sb, ?_, by rw [← tl, getI_r], by rw [← el, getD_r]⟩
          unfold lastAt
          rw [← el, getD_r, if_pos rfl]
        · next e =>
          obtain ⟨j, t, st, e', a, b, c, f, g, w⟩ := dv n v hv
          have lj := lastAt_lt f
          refine ⟨j, t, st, e', a, by omega, c, ?_, by rw [getI_l (by omega)]; exact g, by rw [getD_l (by omega)]; exact w⟩
          unfold lastAt
          rw [← el, getD_r, if_neg (fun z => e (by rw [← z])), last_app (Nat.le_refl _), el]
          exact f
      · intro n hn
        rw [valA_put] at hn
        split at hn
        · cases hn
        · next e =>
          unfold lastAt
          rw [← el, getD_r, if_neg (fun z => e (by rw [← z])), last_app (Nat.le_refl _), el]
          exact dn n hn
      · intro s hs
        rcases dss s hs with hs | ⟨a, b, c⟩
        · have := s1 s hs
          exact ⟨this.1, this.2.1, by omega⟩
        · exact ⟨ds _ c, by omega, by omega⟩
      · intro s hs
        rcases dss s hs with hs | ⟨a, b, c⟩
        · have := s2 s hs
          rw [getD_l this.1, getI_l (by omega)]
          exact ⟨by simp; omega, this.2⟩
        · rw [a, b]
          refine ⟨by simp; omega, ?_, ?_⟩
          · rw [← el, getD_r]; exact c
          · rw [← tl, getI_r]
      · rw [List.map_append, k_V2 E _ (by omega) g_V1]
        rfl
      · rw [List.map_append, g_V2]
        rfl
      · rcases Nat.lt_or_ge j es.length with c | c
        · rw [getI_l (by omega)]
          have := tup j c
          omega
        · have : j = ts.length := by simp at hj; omega
          rw [this, getI_r]
          omega
      · have := lt_of_at ho
        exact k_V2 k o (by omega) (k_V1 k o (by omega) (kk5 k o hk ho))
  · rintro ρ T ⟨⟨now, z4, z10, z11, z12, z13, z14, z15, z16, z17, z18, z19, z20, d, sds, es, ts, rfl, n0, n1, hC, dl, dv, dn, hS, sl, s1, s2, hE, el, hev, hst, hW, tl, tr, tup⟩, tt, kk⟩
    rw [rangeV_len] at el tl tt
    array_get_dec
    exact ⟨fl, es, ts, rfl, fo, ⟨by omega, hev, hst⟩, el, tl, tt.mono (by omega), kk, tr⟩
end K19
namespace K19
open PySem PySem.Spec PyProof.Rows L2 G Th AL K37 KL Fr
open K08 (wm wd ws_cut)
section
variable {S : Sto} {Q : Val → Sto → Prop} {x y : Val} {ks : List Nat} {k : Nat}
theorem flat_nats : (ks.map natV).all flatA = true := by
  rw [List.all_eq_true]
  intro v hv
  obtain ⟨k, _, rfl⟩ := List.mem_map.mp hv
  rfl
theorem in_nats : inA (.int (k : Nat)) (ks.map natV) = decide (k ∈ ks) := by
  unfold inA
  rw [List.any_map]
  rw [Bool.eq_iff_iff]
  simp only [List.any_eq_true, Function.comp, natV, eqF, beq_iff_eq, decide_eq_true_eq]
  constructor
  · rintro ⟨z, hz, e⟩
    have : z = k := by omega
    exact this ▸ hz
  · exact fun h => ⟨k, h, rfl⟩
end
structure Ro (es : List Ev) (lf od : List Nat) : Prop where
  pm : (od ++ lf).Perm (List.range es.length)
  up : lf.Pairwise (· < ·)
  hr : ∀ p n k, od[p]? = some n → (es.getD n dEv).deed = .hear k → k ∈ od.take p
theorem Ro.lt {es : List Ev} {lf od : List Nat} (h : Ro es lf od) {n : Nat} (hn : n ∈ od ++ lf) : n < es.length := List.mem_range.mp (h.pm.mem_iff.mp hn)
theorem Ro.all {es : List Ev} {lf od : List Nat} (h : Ro es lf od) {n : Nat} (hn : n < es.length) : n ∈ od ++ lf := h.pm.mem_iff.mpr (List.mem_range.mpr hn)
theorem at_ev' {es : List Ev} {i : Nat} (hi : i < es.length) : atI (es.map evV) ((i : Nat) : Int) = some (evV (es.getD i dEv)) := at_nat (map_get (getD_get hi))
theorem Ro.step {es : List Ev} {lf od : List Nat} (h : Ro es lf od) {n j : Nat} (hj : lf[j]? = some n) (hk : ∀ k, (es.getD n dEv).deed = .hear k → k ∈ od) : Ro es (lf.eraseIdx j) (od ++ [n]) := by
  refine ⟨?_, h.up.sublist (List.eraseIdx_sublist _ _), fun p m k hp hd => ?_⟩
  · refine List.Perm.trans ?_ h.pm
    rw [List.append_assoc]
    exact (perm_erase hj).append_left od
  · rcases Nat.lt_trichotomy p od.length with c | c | c
    · rw [List.getElem?_append_left c] at hp
      rw [List.take_append_of_le_length (by omega)]
      exact h.hr p m k hp hd
    · subst c
      rw [List.getElem?_append_right (Nat.le_refl _)] at hp
      simp at hp
      subst hp
      rw [List.take_append_of_le_length (Nat.le_refl _), List.take_length]
      exact hk k hd
    · rw [List.getElem?_eq_none (by simp; omega)] at hp
      cases hp
end K19
namespace K08
open PySem PySem.Spec PyProof.Rows L2 G Th AL K37 KL Fr
def Fits (l : Lk) (s n : Fq) : Prop := q l.least ≤ q n - q s ∧ ∀ m, l.most = some m → q n - q s ≤ q m
def DdOk (fl : Fl) (es : List Ev) (ws : List Fq) (house : Str) (now : Fq) : Dd → Prop
  | .mark => True
  | .send l => ∃ lk, fl.ls[l]? = some lk ∧ lk.fr = house
  | .hear k => k < es.length ∧ ∃ l lk, (es.getD k dEv).deed = .send l ∧ fl.ls[l]? = some lk ∧ lk.to = house ∧ Fits lk (ws.getD k (0, 1)) now
end K08
namespace K08
open PySem PySem.Spec PyProof.Rows L2 G Th AL K37 KL Fr
abbrev wAt (ws : List Fq) (i : Nat) : Fq := ws.getD i (0, 1)
structure Sc (fl : Fl) (es : List Ev) (ws : List Fq) : Prop where
  len : ws.length = es.length
  nm : ∀ i, i < es.length → (es.getD i dEv).name ∈ fl.hs.map Hs.name
  tm : ∀ i, i < es.length → QN 2 60 (wAt ws i) ∧ 0 ≤ q (wAt ws i)
  st : ∀ i, i < es.length → QN 8 (80 + 960 * (i + 1)) (es.getD i dEv).stamp
  rise : ∀ i j, i ≤ j → j < es.length → q (wAt ws i) ≤ q (wAt ws j)
  dd : ∀ i, i < es.length → DdOk fl (es.take i) ws (es.getD i dEv).name (wAt ws i) (es.getD i dEv).deed
  go : ∀ j i h, j < es.length → lastAt es j (es.getD j dEv).name = some i → driftOf fl (es.getD j dEv).name = some h →
    q h.slow * (q (wAt ws j) - q (wAt ws i)) ≤ q (es.getD j dEv).stamp - q (es.getD i dEv).stamp ∧ q (es.getD j dEv).stamp - q (es.getD i dEv).stamp ≤ q h.fast * (q (wAt ws j) - q (wAt ws i))
  src : ∀ i j, i < es.length → j < es.length → (es.getD i dEv).name = fl.src → (es.getD j dEv).name = fl.src → q (es.getD i dEv).stamp - q (wAt ws i) = q (es.getD j dEv).stamp - q (wAt ws j)
theorem DdOk.ext {fl : Fl} {es es' : List Ev} {ws ws' : List Fq} {n : Str} {w : Fq} {d : Dd} (h : DdOk fl es ws n w d) (h1 : ∀ k, k < es.length → es'.getD k dEv = es.getD k dEv ∧ wAt ws' k = wAt ws k) (h2 : es.length ≤ es'.length) : DdOk fl es' ws' n w d := by
  cases d with
  | mark => trivial
  | send l => exact h
  | hear k =>
    obtain ⟨hk, l, lk, a, b, c, d⟩ := h
    obtain ⟨e1, e2⟩ := h1 k hk
    refine ⟨by omega, l, lk, by rw [e1]; exact a, b, c, ?_⟩
    show Fits lk (wAt ws' k) w
    rw [e2]
    exact d
theorem Sc.nil (fl : Fl) : Sc fl [] [] := ⟨rfl, fun i hi => by simp at hi, fun i hi => by simp at hi, fun i hi => by simp at hi, fun i j _ hi => by simp at hi, fun i hi => by simp at hi, fun j i h hi => by simp at hi, fun i j hi => by simp at hi⟩
end K08
namespace K08
open PySem PySem.Spec PyProof.Rows L2 G Th AL K37 KL Fr
theorem wok {x : Fq} {M : Nat} (h : QN 2 M x) (hM : M ≤ 1000) : Fr.Ok 20 x := h.ok (by have : (2 : Nat) ^ 20 = 1048576 := rfl; omega) (by decide)
end K08
namespace K08
open PySem PySem.Spec PyProof.Rows L2 G Th AL K37 KL Fr
structure Own (es : List Ev) (n : Str) (ks : List Nat) (i : Nat) : Prop where
  len : ks.length ≤ i
  is : ∀ k ∈ ks, k < i ∧ (es.getD k dEv).name = n
  all : ∀ k, k < i → (es.getD k dEv).name = n → k ∈ ks
theorem Own.nil {es : List Ev} {n : Str} : Own es n [] 0 := ⟨Nat.le_refl _, fun _ z => by simp at z, fun _ z => by omega⟩
end K08
namespace K19
open PySem PySem.Spec PyProof.Rows L2 G Th AL K37 KL Fr
open K08 (wm wd ws_cut)
theorem H9.mono {b b' : Nat} {fl : Fl} {es : List Ev} (h : H9 b fl es) (hb : b ≤ b') : H9 b' fl es := ⟨h.len, h.ev, fun i hi => by obtain ⟨k, e, l⟩ := h.st i hi; exact ⟨k, e, by omega⟩⟩
theorem mk2_ok {n : Int} (h0 : 0 ≤ n) (h1 : n ≤ 200) : Fr.Ok 10 (Fr.mk n 2) := Fr.mk_ok (by decide) (Nat.lt_of_lt_of_le (show n.natAbs < 300 by omega) (by decide)) (by decide)
theorem L9.oks {l : Lk} (h : L9 20 l) : Fr.Ok 10 l.least ∧ ∀ m, l.most = some m → Fr.Ok 10 m := by
  obtain ⟨n, e, a, b⟩ := h.a
  refine ⟨by rw [e]; exact mk2_ok a (by omega), fun m hm => ?_⟩
  obtain ⟨n, e, a, b⟩ := h.b m hm
  rw [e]
  exact mk2_ok a b
theorem sh_evs {b : Nat} {fl : Fl} {es : List Ev} (fo : F9 20 fl) (hv : H9 b fl es) : ∀ e ∈ es, Sh 2 60 (evV e) := by
  have l30 := hv.len
  intro e he
  obtain ⟨i, hi, rfl⟩ := List.getElem_of_mem he
  have g : es.getD i dEv = es[i] := by simp [List.getD, List.getElem?_eq_getElem hi]
  have ok := hv.ev i hi
  have nm := ok.name
  rw [g] at nm
  obtain ⟨h, hh, e1⟩ := List.mem_map.mp nm
  have tx : TxOk es[i].name := by rw [← e1]; exact fo.tx.1 h hh
  have st := ok.st.ok
  rw [g] at st
  have d := Sh.dd (d := es[i].deed) (fun l hl => by have := ok.send l (by rw [g]; exact hl); have := fo.lfew; omega) (fun k hk => by have := (ok.hear k (by rw [g]; exact hk)).1; omega)
  have := (ShL.cons ((Sh.str tx).mono (n' := 1) (by omega) (Nat.le_refl _)) (ShL.cons (Sh.fr st (by decide)) (ShL.cons d (ShL.nil (w := 0))))).tup
  exact this.mono (by omega) (by omega)
theorem vNeTup {S : Sto} {n w : Nat} {vs : List Val} {x y : Val} {Q : Val → Sto → Prop} (h : ShL n w vs) (hn : n < 39) (hx : x = .tup vs) (hy : y = .tup []) (q : Q (.bl (!vs.isEmpty)) S) : Wp (gNe x y S) Q := by
  subst hx hy
  obtain ⟨ds, o1, o2, o3, o4⟩ := h
  have c := (ok_show (.tuple ds) o1).2.2.1
  have sh : SeqAt.shaped (.tuple ds) = true := by
    show ((PyData.tuple ds).canLay0 && decide ((PyData.tuple ds).depth ≤ 64)) = true
    rw [c, decide_eq_true (by simp only [PyData.depth]; omega)]
    rfl
  have dl : toD S 40 (.tup vs) = some (.tuple ds) := by
    rw [show (40 : Nat) = 39 + 1 from rfl, toD]
    simp only [o4 S 39 (by omega), Option.map_some]
  have d0 : toD S 40 (.tup []) = some (.tuple []) := rfl
  refine ⟨_, _, ?_, q⟩
  have s0 : SeqAt.shaped (.tuple []) = true := by decide
  have hl := o4 S 39 (by omega)
  unfold gNe eqA
  simp only [eqS, dl, d0, sh, s0, and_self, if_true, Option.map_some]
  cases vs with
  | nil => 
    have : ds = [] := by cases hl; rfl
    subst this
    rfl
  | cons v vs =>
    have : ∃ d r, ds = d :: r := by
      unfold mapO at hl
      obtain ⟨d, _, e⟩ := Option.bind_eq_some_iff.mp hl
      obtain ⟨r, _, e⟩ := Option.bind_eq_some_iff.mp e
      exact ⟨d, r, (Option.some.inj e).symm⟩
    obtain ⟨d, r, rfl⟩ := this
    rfl
theorem F9.up {fl : Fl} (h : F9 10 fl) : F9 20 fl := ⟨h.nd, h.ne, h.few, h.rate, fun l hl => by obtain ⟨⟨n, a, b, c⟩, d, e⟩ := h.lk l hl; exact ⟨⟨n, a, b, by omega⟩, d, e⟩, h.lfew, h.tx, h.so⟩
theorem cut_mk {k b : Int} (hb : b ≠ 0) : (Fr.mk k b).1 * b / (Fr.mk k b).2 = k := by
  have p := Fr.mk_pos (a := k) hb
  rw [Fr.mk_cross hb]
  exact Int.mul_ediv_cancel k (by omega)
theorem st_small {b : Nat} (hb : b ≤ 1000) {x : Fq} (h : StB b x) : x.1.natAbs < 2 ^ 64 ∧ 0 < x.2 ∧ x.2 < 2 ^ 60 := by
  obtain ⟨k, rfl, l⟩ := h
  have := Fr.mk_ok (n := 20) (a := k) (b := 4) (by decide) (Nat.lt_of_le_of_lt (show k.natAbs ≤ 1000 by omega) (by decide)) (by decide)
  have p20 : (2 : Nat) ^ 20 = 1048576 := by decide
  have b1 := this.b1
  have b2 := this.b2
  have := this.pos
  exact ⟨Nat.lt_trans b1 (by decide), by omega, by omega⟩
theorem set_get {es : List Ev} {n j : Nat} {e : Ev} (hn : n < es.length) : (es.set n e).getD j dEv = if j = n then e else es.getD j dEv := by
  simp only [List.getD, List.getElem?_set]
  by_cases c : j = n
  · subst c
    simp [hn]
  · rw [if_neg (fun z => c z.symm), if_neg c]
theorem map_set' {es : List Ev} {n : Nat} {e : Ev} : (es.map evV).set n (evV e) = (es.set n e).map evV := by rw [List.map_set]
theorem ixN_nat {n k : Nat} (h : k < n) : ixN n (k : Int) = some k := by
  unfold ixN
  rw [if_pos (by omega), if_pos (by omega), Int.toNat_natCast]
theorem lk99 : Fr.mk 198 2 = (99, 1) := by decide
end K19
namespace K19
open PySem PySem.Spec PyProof.Rows L2 G Th AL K37 KL Fr
open K08 (wm wd ws_cut)
section
variable {fl : Fl} {es : List Ev} {b : Nat}
theorem is_mk {a b : Int} (hb : b ≠ 0) : Is (Fr.mk a b) a b := ⟨rfl, hb⟩
theorem is0 : Is ((0, 1) : Int × Int) 0 1 := ⟨by decide, by decide⟩
theorem scaled_mk {k b c : Int} (hb : b ≠ 0) : (Fr.mk k b).1 * (b * c) / (Fr.mk k b).2 = k * c := by
  have p := Fr.mk_pos (a := k) hb
  rw [← Int.mul_assoc, Fr.mk_cross hb, Int.mul_assoc, Int.mul_comm (Fr.mk k b).2 c, ← Int.mul_assoc]
  exact Int.mul_ediv_cancel _ (by omega)
theorem slow_step {k1 k0 : Int} {x : Fq} (h : x ∈ slows) : Fr.mk ((30 * k1 - 30 * k0) * 4 / r4 x) 120 = Fr.div (Fr.sub (Fr.mk k1 4) (Fr.mk k0 4)) x := by
  have g := Is.sub (is_mk (a := k1) (b := 4) (by decide)) (is_mk (a := k0) (b := 4) (by decide))
  simp only [slows, List.mem_cons, List.not_mem_nil, or_false] at h
  rcases h with rfl | rfl | rfl
  · have i : Is ((1, 1) : Int × Int) 1 1 := ⟨by decide, by decide⟩
    rw [show r4 (1, 1) = 4 from by decide]
    refine Is.same (is_mk (by decide)) (g.div i (by decide)) ?_
    omega
  · have i : Is ((1, 2) : Int × Int) 1 2 := ⟨by decide, by decide⟩
    rw [show r4 (1, 2) = 2 from by decide]
    refine Is.same (is_mk (by decide)) (g.div i (by decide)) ?_
    omega
  · have i : Is ((3, 4) : Int × Int) 3 4 := ⟨by decide, by decide⟩
    rw [show r4 (3, 4) = 3 from by decide]
    refine Is.same (is_mk (by decide)) (g.div i (by decide)) ?_
    omega
theorem fast_step {k1 k0 : Int} {x : Fq} (h : x ∈ fasts) : Fr.mk (0 - (30 * k1 - 30 * k0) * 4 / r4 x) 120 = Fr.sub (0, 1) (Fr.div (Fr.sub (Fr.mk k1 4) (Fr.mk k0 4)) x) := by
  have g := Is.sub (is_mk (a := k1) (b := 4) (by decide)) (is_mk (a := k0) (b := 4) (by decide))
  simp only [fasts, List.mem_cons, List.not_mem_nil, or_false] at h
  rcases h with rfl | rfl | rfl | rfl
  · have i : Is ((1, 1) : Int × Int) 1 1 := ⟨by decide, by decide⟩
    rw [show r4 (1, 1) = 4 from by decide]
    refine Is.same (is_mk (by decide)) (is0.sub (g.div i (by decide))) ?_
    omega
  · have i : Is ((5, 4) : Int × Int) 5 4 := ⟨by decide, by decide⟩
    rw [show r4 (5, 4) = 5 from by decide]
    refine Is.same (is_mk (by decide)) (is0.sub (g.div i (by decide))) ?_
    omega
  · have i : Is ((3, 2) : Int × Int) 3 2 := ⟨by decide, by decide⟩
    rw [show r4 (3, 2) = 6 from by decide]
    refine Is.same (is_mk (by decide)) (is0.sub (g.div i (by decide))) ?_
    omega
  · have i : Is ((2, 1) : Int × Int) 2 1 := ⟨by decide, by decide⟩
    rw [show r4 (2, 1) = 8 from by decide]
    refine Is.same (is_mk (by decide)) (is0.sub (g.div i (by decide))) ?_
    omega
theorem most_step {n : Int} : Fr.mk (60 * n) 120 = Fr.mk n 2 := Is.same (is_mk (by decide)) (is_mk (by decide)) (by omega)
theorem least_step {n : Int} : Fr.mk (0 - 60 * n) 120 = Fr.sub (0, 1) (Fr.mk n 2) := Is.same (is_mk (by decide)) (is0.sub (is_mk (by decide))) (by omega)
theorem rows_ok (fo : F9 20 fl) (hv : H9 950 fl es) (i : Nat) (hi : i < es.length) : RowOk fl es i := by
  refine ⟨fun j hj => ?_, fun k hk => ?_⟩
  · have lt := lastAt_lt hj
    obtain ⟨x, hx, hm⟩ := drift_some (hv.ev i hi).name
    obtain ⟨r1, r2⟩ := fo.rate x hm
    exact ⟨by omega, ⟨x, hx, (fast_ok r2).2, (slow_ok r1).2, .of (fast_ok r2).1 (by decide), .of (slow_ok r1).1 (by decide)⟩, .of (hv.ev i hi).st.ok (by decide), .of (hv.ev j (by omega)).st.ok (by decide), .of (Fr.sub_ok (hv.ev i hi).st.ok (hv.ev j (by omega)).st.ok) (by decide)⟩
  · obtain ⟨lt, l, hl⟩ := (hv.ev i hi).hear k hk
    have lk := (hv.ev k (by omega)).send l hl
    exact ⟨⟨by omega, l, fl.ls[l], hl, List.getElem?_eq_getElem lk⟩, lt⟩
theorem row_mem (fo : F9 20 fl) (hv : H9 950 fl es) {i : Nat} (hi : i < es.length) {m : Mv} (hm : m ∈ row fl es i) : m.x < i ∧ Fr.Ok 24 m.lo ∧ ∀ q, m.hi = some q → Fr.Ok 24 q := by
  unfold row movesInto at hm
  rcases List.mem_append.mp hm with hm | hm
  · unfold mv1 at hm
    split at hm
    · next j h hj hh =>
      simp only [List.mem_cons, List.not_mem_nil, or_false] at hm
      subst hm
      have lt := lastAt_lt hj
      have hmem : h ∈ fl.hs := List.mem_of_find?_eq_some hh
      obtain ⟨r1, r2⟩ := fo.rate h hmem
      have g := Fr.sub_ok (hv.ev i hi).st.ok (hv.ev j (by omega)).st.ok
      refine ⟨lt, Fr.div_ok g (fast_ok r2).1 (by have := (fast_ok r2).2; omega), fun q hq => ?_⟩
      have hq : some _ = some q := hq
      cases hq
      exact Fr.div_ok g (slow_ok r1).1 (by have := (slow_ok r1).2; omega)
    · cases hm
  · unfold mv2 at hm
    split at hm
    · next k hk =>
      obtain ⟨lt, l, hl⟩ := (hv.ev i hi).hear k hk
      split at hm
      · next lk hlk =>
        simp only [List.mem_cons, List.not_mem_nil, or_false] at hm
        subst hm
        have ml : lk ∈ fl.ls := by
          unfold linkAt at hlk
          rw [hl] at hlk
          exact List.mem_of_getElem? hlk
        obtain ⟨o1, o2⟩ := (fo.lk lk ml).oks
        exact ⟨lt, o1.mono (by decide), fun q hq => (o2 q hq).mono (by decide)⟩
      · cases hm
    · cases hm

def stM (y : Nat) (m : Mv) : List Val := (match m.hi with | none => [] | some h => [.tup [.int (m.x : Nat), .int (y : Nat), frV h]]) ++ [.tup [.int (y : Nat), .int (m.x : Nat), frV (Fr.sub (0, 1) m.lo)]]
def stR (fl : Fl) (es : List Ev) (y : Nat) : List Val := (row fl es y).flatMap (stM y)
def stA (fl : Fl) (es : List Ev) : Nat → List Val
  | 0 => []
  | i + 1 => stA fl es i ++ stR fl es i
theorem stM_len (y : Nat) (m : Mv) : (stM y m).length ≤ 2 := by
  unfold stM
  cases m.hi <;> simp
theorem flat_len {y : Nat} : ∀ ms : List Mv, (ms.flatMap (stM y)).length ≤ 2 * ms.length
  | [] => by simp
  | m :: ms => by
    have := stM_len y m
    have := flat_len (y := y) ms
    simp only [List.flatMap_cons, List.length_append, List.length_cons]
    omega
theorem stA_len : ∀ i, (stA fl es i).length ≤ 4 * i
  | 0 => by simp [stA]
  | i + 1 => by
    have := stA_len i
    have := flat_len (y := i) (row fl es i)
    have := row_len fl es i
    simp only [stA, List.length_append, stR]
    omega
theorem bd01 : Bd ((0, 1) : Fq) := ⟨by decide, by decide, by decide⟩
theorem history_wp {S : Sto} (fo : F9 20 fl) (hv : H9 950 fl es) : Wp (history_steps_ [hiV fl es] S) fun v T => v = .tup (stA fl es es.length) ∧ Kn S T := by
  have l30 := hv.len
  refine AL.wf ?_; simp only [List.map_cons, List.map_nil, List.length_cons, List.length_nil, Nat.reduceAdd, Nat.reduceSub, List.replicate_succ, List.replicate_zero, List.cons_append, List.nil_append]; unfold history_steps_B; array_get_dec
  intro S1 St e_St l_S1 g_St k_S1
  array_get_dec
  obtain ⟨R, rs, S2, e2, k2, hR, rl, lR, hrs⟩ := hist_eq (S := S1) hv.len (rows_ok fo hv)
  refine Wp.of e2 ?_
  array_get_dec
  refine .inr ⟨R, _, rfl, hR, ?_⟩
  have gSt := k2.at g_St
  have lS := lt_of_at gSt
  refine ws_loop (fun i ρ T => (∃ z2 z3 z4 z5 z6 z7, ρ = [some (hiV fl es), some (.ref St), z2, z3, z4, z5, z6, z7]) ∧ T[St]? = some (.lst (stA fl es i)) ∧ Kx St S2 T)
    ⟨⟨_, _, _, _, _, _, rfl⟩, gSt, Kx.refl _ _⟩ (fun i ρ T _ z => z.2.2 R _ (by omega) hR) ?_ ?_
  · rintro y v ρ T hv2 ⟨⟨z2, z3, z4, z5, z6, z7, rfl⟩, hS, kx⟩
    obtain ⟨w, hw, rfl⟩ := enumV_get hv2
    rw [List.getElem?_map] at hw
    obtain ⟨r, hr, rfl⟩ := Option.map_eq_some_iff.mp hw
    have ly : y < es.length := by have := (List.getElem?_eq_some_iff.mp hr).1; omega
    obtain ⟨lr, hrr⟩ := hrs y r hr
    have hT := kx r _ (by omega) hrr
    have rln := row_len fl es y
    have sal := stA_len (fl := fl) (es := es) y
    refine bn rfl ?_
    array_get_dec
    refine .inr ⟨r, _, rfl, hT, ?_⟩
    refine ws_loop (fun i ρ U => (∃ z4 z5 z6 z7, ρ = [some (hiV fl es), some (.ref St), some (.int (y : Nat)), some (.ref r), z4, z5, z6, z7]) ∧ U[St]? = some (.lst (stA fl es y ++ ((row fl es y).take i).flatMap (stM y))) ∧ Kx St T U)
      ⟨⟨_, _, _, _, rfl⟩, by simpa using hS, Kx.refl _ _⟩ (fun i ρ U _ z => z.2.2 r _ (by omega) hT) ?_ ?_
    · rintro i v ρ U hv3 ⟨⟨z4, z5, z6, z7, rfl⟩, hSU, kxU⟩
      rw [List.getElem?_map] at hv3
      obtain ⟨m, hm, rfl⟩ := Option.map_eq_some_iff.mp hv3
      have li := (List.getElem?_eq_some_iff.mp hm).1
      obtain ⟨mx, o1, o2⟩ := row_mem fo hv ly (List.mem_of_getElem? hm)
      have lU := lt_of_at hSU
      have fl2 := flat_len (y := y) ((row fl es y).take i)
      have tkl : ((row fl es y).take i).length ≤ 2 := Nat.le_trans (List.length_take_le' _ _) rln
      have tk : ((row fl es y).take (i + 1)).flatMap (stM y) = ((row fl es y).take i).flatMap (stM y) ++ stM y m := by
        rw [List.take_add_one, hm, List.flatMap_append]
        simp
      refine bn rfl ?_
      array_get_dec
      cases hh : m.hi with
      | none =>
        array_get_dec
        refine Wp.of (less_eq (x := (0, 1)) bd01 (.of o1 (by decide))) ?_
        array_get_dec
        refine vApp rfl hSU ?_ (small (by rw [List.length_append]; omega))
        intro U1 l_U1 g_U1 k_U1
        refine ⟨⟨_, _, _, _, rfl⟩, ?_, kxU.trans k_U1⟩
        rw [g_U1, tk, List.append_assoc]
        unfold stM
        rw [hh]
        rfl
      | some h =>
        array_get_dec
        refine vApp rfl hSU ?_ (small (by rw [List.length_append]; omega))
        intro U1 l_U1 g_U1 k_U1
        array_get_dec
        refine Wp.of (less_eq (x := (0, 1)) bd01 (.of o1 (by decide))) ?_
        array_get_dec
        refine vApp rfl g_U1 ?_ (small (by rw [List.length_append, List.length_append]; simp only [List.length_singleton]; omega))
        intro U2 l_U2 g_U2 k_U2
        refine ⟨⟨_, _, _, _, rfl⟩, ?_, (kxU.trans k_U1).trans k_U2⟩
        rw [g_U2, tk, List.append_assoc, List.append_assoc]
        unfold stM
        rw [hh]
        rfl
    · rintro ρ U ⟨⟨z4, z5, z6, z7, rfl⟩, hSU, kxU⟩
      rw [List.length_map, List.take_length] at hSU
      exact ⟨⟨_, _, _, _, _, _, rfl⟩, hSU, kx.trans kxU⟩
  · rintro ρ T ⟨⟨z2, z3, z4, z5, z6, z7, rfl⟩, hS, kx⟩
    rw [enumV_len, List.length_map, rl] at hS
    array_get_dec
    refine ⟨rfl, fun k o ho => kx k o (by have := lt_of_at ho; omega) (k2.at (k_S1.at ho))⟩

def wsV (w : Nat × Nat × Int) : Val := .tup [.int (w.1 : Nat), .int (w.2.1 : Nat), .int w.2.2]
def toV (w : Nat × Nat × Int) : Val := .tup [.int (w.1 : Nat), .int (w.2.1 : Nat), frV (Fr.mk w.2.2 120)]
theorem scaled_wp {S : Sto} {k b c : Int} (hb : b ≠ 0) (h : b * c = 120) (s1 : (Fr.mk k b).1.natAbs < 2 ^ 64) (s2 : (Fr.mk k b).2 < 2 ^ 60) : Wp (scaledL_ [frV (Fr.mk k b)] S) fun v T => v = .int (k * c) ∧ S = T := by
  have p := Fr.mk_pos (a := k) hb
  refine AL.wf ?_; simp only [List.map_cons, List.map_nil, List.length_cons, List.length_nil, Nat.reduceAdd, Nat.reduceSub, List.replicate_succ, List.replicate_zero, List.cons_append, List.nil_append]; unfold scaledL_B; array_get_dec
  · refine ⟨?_, rfl⟩
    rw [← h, scaled_mk hb]
  · exact wd p s2
  · exact wm s1 (by decide)
theorem sc4 {S : Sto} {k : Int} (h : k.natAbs ≤ 1000) : Wp (scaledL_ [frV (Fr.mk k 4)] S) fun v T => v = .int (30 * k) ∧ S = T := by
  obtain ⟨s1, s2, s3⟩ := st_small (b := 1000) (Nat.le_refl _) (x := Fr.mk k 4) ⟨k, rfl, h⟩
  rw [Int.mul_comm]
  exact scaled_wp (by decide) (by decide) s1 s3
theorem sc2 {S : Sto} {n : Int} (h0 : 0 ≤ n) (h1 : n ≤ 200) : Wp (scaledL_ [frV (Fr.mk n 2)] S) fun v T => v = .int (60 * n) ∧ S = T := by
  have s := mk2_small h0 h1
  have o2 := (mk2_ok h0 h1).b2
  have p10 : (2 : Nat) ^ 10 = 1024 := by decide
  have p60 := p60
  rw [Int.mul_comm]
  exact scaled_wp (by decide) (by decide) s.1 (by omega)
end
end K19
namespace K19
open PySem PySem.Spec PyProof.Rows L2 G Th AL K37 KL Fr
open K08 (wm wd ws_cut)
section
variable {fl : Fl} {es : List Ev} {S : Sto}
theorem steps_wp (fo : F9 20 fl) (hv : H9 950 fl es) : Wp (stepsL_ [hiV fl es] S) fun v T => ∃ (r : Nat) (ws : List (Nat × Nat × Int)), v = .ref r ∧ T[r]? = some (.lst (ws.map wsV)) ∧ ws.map toV = stA fl es es.length ∧ ws.length ≤ 120 ∧ Kn S T := by
  have h60 := p60
  have p64 : (2 : Nat) ^ 64 = 18446744073709551616 := by decide
  have l30 := hv.len
  have few := fo.few
  refine AL.wf ?_; simp only [List.map_cons, List.map_nil, List.length_cons, List.length_nil, Nat.reduceAdd, Nat.reduceSub, List.replicate_succ, List.replicate_zero, List.cons_append, List.nil_append]; unfold stepsL_B; array_get_dec
  intro S1 F0 e_F0 l_S1 g_F0 k_S1
  array_get_dec
  intro S2 D e_D l_S2 g_D k_S2
  have gF : S2[F0]? = some (.lst (([] : List (Nat × Nat × Int)).map wsV)) := by array_mem_dec
  have ord : S.length ≤ F0 ∧ F0 < D := by omega
  have k02 := k_S1.trans k_S2
  clear e_F0 e_D l_S1 l_S2 g_F0 k_S1 k_S2
  array_get_dec
  refine .inl ⟨_, rfl, ?_⟩
  refine ws_loop (fun i ρ T => (∃ (F : Nat) (z5 z6 z7 z8 z9 z10 z11 z12 z13 z14 : Option Val), ρ = [some (hiV fl es), some (flV fl), some (.tup (es.map evV)), some (.ref F), some (.ref D), z5, z6, z7, z8, z9, z10, z11, z12, z13, z14] ∧ S.length ≤ F ∧ F ≠ D ∧ ∃ ws : List (Nat × Nat × Int), T[F]? = some (.lst (ws.map wsV)) ∧ ws.map toV = stA fl es i) ∧ (∃ d, T[D]? = some (.dic d) ∧ (∀ n, valA d (.inr n) = (lastAt es i n).map fun j => .int (j : Nat)) ∧ d.length ≤ i) ∧ Kn S T)
    ⟨⟨F0, _, _, _, _, _, _, _, _, _, _, rfl, ord.1, by omega, [], gF, rfl⟩, ⟨[], g_D, fun n => rfl, Nat.le_refl _⟩, k02⟩ (fun _ _ _ _ _ => trivial) ?_ ?_
  · clear gF g_D k02
    rintro i v ρ T hv2 ⟨⟨F, z5, z6, z7, z8, z9, z10, z11, z12, z13, z14, rfl, lF, nF, ws, hF, wsE⟩, ⟨d, hD, dv, dl⟩, kk⟩
    obtain ⟨w, hw, rfl⟩ := enumV_get hv2
    rw [List.getElem?_map] at hw
    obtain ⟨e, he, rfl⟩ := Option.map_eq_some_iff.mp hw
    have li : i < es.length := (List.getElem?_eq_some_iff.mp he).1
    have ee : e = es.getD i dEv := by rw [getD_get li] at he; exact (Option.some.inj he).symm
    subst ee
    have eo := hv.ev i li
    obtain ⟨k1, s1, l1⟩ := hv.st i li
    have lFT := lt_of_at hF
    have lDT := lt_of_at hD
    have wl : ws.length ≤ 4 * i := by
      have := congrArg List.length wsE
      rw [List.length_map] at this
      have := stA_len (fl := fl) (es := es) i
      omega
    have dvi := dv (es.getD i dEv).name
    refine bn rfl ?_
    refine ws_seq (ws_cut (N' := fun ρ T' => ∃ (F : Nat) (z9 z10 z11 z12 : Option Val) (ws' : List (Nat × Nat × Int)), ρ = [some (hiV fl es), some (flV fl), some (.tup (es.map evV)), some (.ref F), some (.ref D), some (.int (i : Nat)), some (.str (es.getD i dEv).name), some (frV (es.getD i dEv).stamp), some (ddV (es.getD i dEv).deed), z9, z10, z11, z12, z13, z14] ∧ S.length ≤ F ∧ F ≠ D ∧ T'[F]? = some (.lst (ws'.map wsV)) ∧ ws'.map toV = stA fl es i ++ (mv1 fl es (lastAt es i (es.getD i dEv).name) (es.getD i dEv)).flatMap (stM i) ∧ ws'.length ≤ ws.length + 2 ∧ T'[D]? = some (.dic d) ∧ Kn S T') ?_ ?_)
    · array_get_dec
      refine vIn rfl hD rfl ?_
      simp only [Bool.false_eq_true, if_false]
      refine tb rfl (Br.of (fun c => ?_) (fun c => ?_))
      · cases hla : lastAt es i (es.getD i dEv).name with
        | none => rw [dvi, hla] at c; cases c
        | some j =>
          have dvj : valA d (.inr (es.getD i dEv).name) = some (.int (j : Nat)) := by rw [dvi, hla]; rfl
          have lj := lastAt_lt hla
          obtain ⟨k0, s0, l0⟩ := hv.st j (by omega)
          array_get_dec
          refine vIxD rfl hD rfl dvj ?_
          array_get_dec
          refine (rates_wp fo eo.name).imp ?_
          rintro _ U1 ⟨h, hm, hdr, rfl, ku1⟩
          obtain ⟨_, _, _, sr1, sr2⟩ := slow_small (fo.rate h hm).1
          obtain ⟨_, _, _, fr1, fr2⟩ := fast_small (fo.rate h hm).2
          have hFU := ku1.at hF
          have hDU := ku1.at hD
          have kU := kk.trans ku1
          array_get_dec
          rw [s1]
          refine (sc4 (by omega)).imp ?_
          rintro _ _ ⟨rfl, rfl⟩
          array_get_dec
          refine vIxT rfl rfl (at_ev' (by omega)) ?_
          array_get_dec
          rw [s0]
          refine (sc4 (by omega)).imp ?_
          rintro _ _ ⟨rfl, rfl⟩
          array_get_dec
          · intro U2 a2 e_a2 l_U2 g_a2 k_U2
            refine vCatL rfl rfl (k_U2.at hFU) g_a2 (by simp; omega) ?_
            intro U3 FF e_FF l_U3 g_FF k_U3
            array_get_dec
            refine ⟨FF, _, _, _, _, ws ++ [(j, i, (30 * k1 - 30 * k0) * 4 / r4 h.slow), (i, j, 0 - (30 * k1 - 30 * k0) * 4 / r4 h.fast)], rfl, by have := lt_of_at hFU; omega, by have := lt_of_at hDU; omega, by rw [g_FF, List.map_append]; rfl, ?_, by simp, k_U3.at (k_U2.at hDU), (kU.trans k_U2).trans k_U3⟩
            rw [List.map_append, wsE]
            congr 1
            unfold mv1
            rw [hdr]
            simp only [List.map_cons, List.map_nil, toV, slow_step (fo.rate h hm).1, fast_step (fo.rate h hm).2, List.flatMap_cons, List.flatMap_nil, List.append_nil, stM, s1, s0, List.cons_append, List.nil_append]
          all_goals first | exact wd (by omega) (by omega) | exact wm (by omega) (by decide)
      · cases hla : lastAt es i (es.getD i dEv).name with
        | some j => rw [dvi, hla] at c; cases c
        | none =>
          array_get_dec
          exact ⟨F, _, _, _, _, ws, rfl, lF, nF, hF, by rw [wsE]; simp [mv1], by omega, hD, kk⟩
    · rintro _ T1 ⟨F1, z9', z10', z11', z12', ws1, rfl, lF1, nF1, hF1, wsE1, wl1, hD1, kk1⟩
      have row1 : stA fl es (i + 1) = (stA fl es i ++ (mv1 fl es (lastAt es i (es.getD i dEv).name) (es.getD i dEv)).flatMap (stM i)) ++ (mv2 fl es (es.getD i dEv).deed).flatMap (stM i) := by
        show stA fl es i ++ stR fl es i = _
        unfold stR row movesInto
        rw [List.flatMap_append, List.append_assoc]
      refine ws_seq (ws_cut (N' := fun ρ T' => ∃ (F : Nat) (z9 z10 z11 z12 z13 z14 : Option Val) (ws' : List (Nat × Nat × Int)), ρ = [some (hiV fl es), some (flV fl), some (.tup (es.map evV)), some (.ref F), some (.ref D), some (.int (i : Nat)), some (.str (es.getD i dEv).name), some (frV (es.getD i dEv).stamp), some (ddV (es.getD i dEv).deed), z9, z10, z11, z12, z13, z14] ∧ S.length ≤ F ∧ F ≠ D ∧ T'[F]? = some (.lst (ws'.map wsV)) ∧ ws'.map toV = stA fl es (i + 1) ∧ T'[D]? = some (.dic d) ∧ Kn S T') ?_ ?_)
      · have lF1T := lt_of_at hF1
        have lD1T := lt_of_at hD1
        cases hdd : (es.getD i dEv).deed with
        | mark =>
          array_get_dec
          exact ⟨F1, _, _, _, _, _, _, ws1, rfl, lF1, nF1, hF1, by rw [wsE1, row1, hdd]; simp [mv2], hD1, kk1⟩
        | send l =>
          array_get_dec
          exact ⟨F1, _, _, _, _, _, _, ws1, rfl, lF1, nF1, hF1, by rw [wsE1, row1, hdd]; simp [mv2], hD1, kk1⟩
        | hear k =>
          obtain ⟨lk_, l, hl⟩ := eo.hear k hdd
          have ll := (hv.ev k (by omega)).send l hl
          obtain ⟨lk, hlk⟩ : ∃ lk, fl.ls[l]? = some lk := ⟨_, List.getElem?_eq_getElem ll⟩
          obtain ⟨⟨n, ne, n0, n1⟩, mo, tx⟩ := fo.lk lk (List.mem_of_getElem? hlk)
          have hla : linkAt fl es k = some lk := by unfold linkAt; rw [hl]; exact hlk
          array_get_dec
          refine vIxT rfl rfl (at_ev' (by omega)) ?_
          have evE : evV (es.getD k dEv) = .tup [.str (es.getD k dEv).name, frV (es.getD k dEv).stamp, .tup [.str "send", .int (l : Nat)]] := by unfold evV; rw [hl]; rfl
          rw [evE]
          array_get_dec
          refine vIxT rfl rfl (at_lk hlk) ?_
          array_get_dec
          refine vSlFrom (k := 2) rfl (by decide) (by simp) ?_
          refine bn rfl ?_
          have fin : ∀ (ws' : List (Nat × Nat × Int)) (F' : Nat) (V : Sto), V[F']? = some (.lst (ws'.map wsV)) → ws'.length ≤ ws1.length + 1 → S.length ≤ F' → F' ≠ D → V[D]? = some (.dic d) → Kn S V → ws'.map toV ++ [toV (i, k, 0 - 60 * n)] = stA fl es (i + 1) →
              Ws (sExpr (eMt isL gApp (eV 3) (aCons (eTup (aCons (eV 5) (aCons (eB gIxA (eV 8) (eC (.int 1))) (aCons (eB AL.gSub (eC (.int 0)) (eDef scaledL_ 1 (aCons (eV 13) aNil))) aNil)))) aNil)) [some (hiV fl es), some (flV fl), some (.tup (es.map evV)), some (.ref F'), some (.ref D), some (.int (i : Nat)), some (.str (es.getD i dEv).name), some (frV (es.getD i dEv).stamp), some (ddV (.hear k)), z9', z10', z11', z12', some (frV lk.least), some (oV lk.most)] V)
                (fun ρ T' => ∃ (F : Nat) (z9 z10 z11 z12 z13 z14 : Option Val) (ws' : List (Nat × Nat × Int)), ρ = [some (hiV fl es), some (flV fl), some (.tup (es.map evV)), some (.ref F), some (.ref D), some (.int (i : Nat)), some (.str (es.getD i dEv).name), some (frV (es.getD i dEv).stamp), some (ddV (.hear k)), z9, z10, z11, z12, z13, z14] ∧ S.length ≤ F ∧ F ≠ D ∧ T'[F]? = some (.lst (ws'.map wsV)) ∧ ws'.map toV = stA fl es (i + 1) ∧ T'[D]? = some (.dic d) ∧ Kn S T')
                (fun v T => ∃ (r : Nat) (ws : List (Nat × Nat × Int)), v = .ref r ∧ T[r]? = some (.lst (ws.map wsV)) ∧ ws.map toV = stA fl es es.length ∧ ws.length ≤ 120 ∧ Kn S T) := by
            intro ws' F' V h1 h2 h3 h4 h5 h6 h7
            have lV := lt_of_at h1
            rw [ne]
            array_get_dec
            refine (sc2 n0 (by omega)).imp ?_
            rintro _ _ ⟨rfl, rfl⟩
            array_get_dec
            refine vApp rfl h1 ?_ (small (by rw [List.length_map]; omega))
            intro V1 l_V1 g_V1 k_V1
            refine ⟨F', _, _, _, _, _, _, ws' ++ [(i, k, 0 - 60 * n)], rfl, h3, h4, by rw [g_V1, List.map_append]; rfl, by rw [List.map_append]; exact h7, k_V1 D _ (by omega) h5, fun k o ho => k_V1 k o (by have := lt_of_at ho; omega) (h6.at ho)⟩
          cases hm : lk.most with
          | none =>
            rw [hm] at fin
            array_get_dec
            intro V1 a1 e_a1 l_V1 g_a1 k_V1
            array_get_dec
            refine vCatL rfl rfl (k_V1.at hF1) g_a1 (by simp; omega) ?_
            intro V2 FF e_FF l_V2 g_FF k_V2
            refine bn rfl ?_
            refine fin ws1 FF V2 (by rw [g_FF, List.append_nil]) (by omega) (by omega) (by omega) (k_V2.at (k_V1.at hD1)) ((kk1.trans k_V1).trans k_V2) ?_
            rw [wsE1, row1, hdd]
            congr 1
            simp only [mv2, hla, List.flatMap_cons, List.flatMap_nil, List.append_nil, stM, hm, List.nil_append, toV, least_step, ne]
          | some m =>
            obtain ⟨m', me, m0, m1⟩ := mo m hm
            rw [hm] at fin
            array_get_dec
            rw [me]
            refine (sc2 m0 m1).imp ?_
            rintro _ _ ⟨rfl, rfl⟩
            array_get_dec
            intro V1 a1 e_a1 l_V1 g_a1 k_V1
            array_get_dec
            refine vCatL rfl rfl (k_V1.at hF1) g_a1 (by simp; omega) ?_
            intro V2 FF e_FF l_V2 g_FF k_V2
            refine bn rfl ?_
            rw [← me]
            refine fin (ws1 ++ [(k, i, 60 * m')]) FF V2 (by rw [g_FF, List.map_append]; rfl) (by simp) (by omega) (by omega) (k_V2.at (k_V1.at hD1)) ((kk1.trans k_V1).trans k_V2) ?_
            rw [List.map_append, wsE1, row1, hdd, List.append_assoc]
            congr 1
            simp only [mv2, hla, List.flatMap_cons, List.flatMap_nil, List.append_nil, stM, hm, List.cons_append, List.nil_append, List.map_cons, List.map_nil, toV, least_step, most_step, ne, me]
      · rintro _ T2 ⟨F2, z9', z10', z11', z12', z13', z14', ws2, rfl, lF2, nF2, hF2, wsE2, hD2, kk2⟩
        array_get_dec
        refine vPut hD2 rfl ?_ (small (by omega))
        intro T3 l_T3 g_T3 k_T3
        refine ⟨⟨F2, _, _, _, _, _, _, _, _, _, _, rfl, lF2, nF2, ws2, k_T3 F2 _ nF2 hF2, wsE2⟩, ⟨_, g_T3, fun n => ?_, by have := putA_len d (.inr (es.getD i dEv).name) (.int (i : Nat)); omega⟩, fun k o ho => k_T3 k o (by have := lt_of_at ho; omega) (kk2.at ho)⟩
        rw [valA_put]
        unfold lastAt
        by_cases c : (es.getD i dEv).name = n
        · rw [if_pos (by rw [c]), if_pos c]
          rfl
        · rw [if_neg (by intro z; exact c (Sum.inr.inj z).symm), if_neg c]
          exact dv n
  · rintro ρ T ⟨⟨F, z5, z6, z7, z8, z9, z10, z11, z12, z13, z14, rfl, lF, nF, ws, hF, wsE⟩, ⟨d, hD, dv, dl⟩, kk⟩
    rw [enumV_len, List.length_map] at wsE
    array_get_dec
    have wl : ws.length ≤ 4 * es.length := by
      have := congrArg List.length wsE
      rw [List.length_map] at this
      have := stA_len (fl := fl) (es := es) es.length
      omega
    exact ⟨F, ws, rfl, hF, wsE, by omega, kk⟩
end
end K19
namespace K19
open PySem PySem.Spec PyProof.Rows L2 G Th AL K37 KL Fr
section
variable {fl : Fl} {es : List Ev} {ts : List Int}
theorem q_slow {x : Fq} (h : x ∈ slows) : q x = (r4 x : Rat) / 4 ∧ x.2 ≠ 0 ∧ x.1 ≠ 0 := by
  simp only [slows, List.mem_cons, List.not_mem_nil, or_false] at h
  rcases h with rfl | rfl | rfl <;> refine ⟨?_, by decide, by decide⟩ <;> first | (show ((1 : Int) : Rat) / ((1 : Int) : Rat) = ((4 : Int) : Rat) / 4; decide +kernel) | (show ((1 : Int) : Rat) / ((2 : Int) : Rat) = ((2 : Int) : Rat) / 4; decide +kernel) | (show ((3 : Int) : Rat) / ((4 : Int) : Rat) = ((3 : Int) : Rat) / 4; decide +kernel)
theorem q_fast {x : Fq} (h : x ∈ fasts) : q x = (r4 x : Rat) / 4 ∧ x.2 ≠ 0 ∧ x.1 ≠ 0 := by
  simp only [fasts, List.mem_cons, List.not_mem_nil, or_false] at h
  rcases h with rfl | rfl | rfl | rfl <;> refine ⟨?_, by decide, by decide⟩ <;> first | (show ((1 : Int) : Rat) / ((1 : Int) : Rat) = ((4 : Int) : Rat) / 4; decide +kernel) | (show ((5 : Int) : Rat) / ((4 : Int) : Rat) = ((5 : Int) : Rat) / 4; decide +kernel) | (show ((3 : Int) : Rat) / ((2 : Int) : Rat) = ((6 : Int) : Rat) / 4; decide +kernel) | (show ((2 : Int) : Rat) / ((1 : Int) : Rat) = ((8 : Int) : Rat) / 4; decide +kernel)
theorem q_le_int {p : Fq} {d : Int} (hp : 0 < p.2) (h : p.1 ≤ d * p.2) : q p ≤ (d : Rat) := by
  rw [← q_int]
  refine (q_le hp (show (0 : Int) < 1 by decide)).mp ?_
  show ¬ d * p.2 < p.1 * 1
  omega
theorem int_le_q {p : Fq} {d : Int} (hp : 0 < p.2) (h : d * p.2 ≤ p.1) : (d : Rat) ≤ q p := by
  rw [← q_int]
  refine (q_le (show (0 : Int) < 1 by decide) hp).mp ?_
  show ¬ p.1 * 1 < d * p.2
  omega
theorem move_true (fo : F9 20 fl) (hv : H9 950 fl es) (tr : Tr9 fl es ts) {y : Nat} (hy : y < es.length) {m : Mv} (hm : m ∈ row fl es y) :
    q m.lo ≤ ((ts.getD y 0 - ts.getD m.x 0 : Int) : Rat) ∧ ∀ h, m.hi = some h → ((ts.getD y 0 - ts.getD m.x 0 : Int) : Rat) ≤ q h := by
  unfold row movesInto at hm
  rcases List.mem_append.mp hm with hm | hm
  · unfold mv1 at hm
    split at hm
    · next j h hj hh =>
      simp only [List.mem_cons, List.not_mem_nil, or_false] at hm
      subst hm
      have lt := lastAt_lt hj
      have hmem : h ∈ fl.hs := List.mem_of_find?_eq_some hh
      obtain ⟨r1, r2⟩ := fo.rate h hmem
      obtain ⟨k1, k0, rt, e1, e0, ek, l1, l2⟩ := tr.same y j h hy hj hh
      have up := tr.up j y lt hy
      obtain ⟨qs, s2, s1⟩ := q_slow r1
      obtain ⟨qf, f2, f1⟩ := q_fast r2
      obtain ⟨_, _, _, sr1, _⟩ := slow_small r1
      obtain ⟨_, _, _, fr1, _⟩ := fast_small r2
      have p1 := Fr.mk_pos (a := k1) (b := 4) (by decide)
      have p0 := Fr.mk_pos (a := k0) (b := 4) (by decide)
      have pg := Fr.mk_pos (a := (Fr.mk k1 4).1 * (Fr.mk k0 4).2 - (Fr.mk k0 4).1 * (Fr.mk k1 4).2) (b := (Fr.mk k1 4).2 * (Fr.mk k0 4).2) (Int.mul_ne_zero (by omega) (by omega))
      have gone : q (Fr.sub (es.getD y dEv).stamp (es.getD j dEv).stamp) = ((ts.getD y 0 - ts.getD j 0 : Int) : Rat) * (rt : Rat) / 4 := by
        rw [e1, e0, q_sub (by omega) (by omega), q_mk (by decide), q_mk (by decide), ek, Rat.intCast_add, Rat.intCast_mul]
        have : (((4 : Int) : Int) : Rat) = 4 := rfl
        rw [this]
        grind
      have g2 : (Fr.sub (es.getD y dEv).stamp (es.getD j dEv).stamp).2 ≠ 0 := by rw [e1, e0]; unfold Fr.sub; omega
      have dn : (0 : Rat) ≤ ((ts.getD y 0 - ts.getD j 0 : Int) : Rat) := Rat.intCast_nonneg.mpr (by omega)
      have a1 : (r4 h.slow : Rat) ≤ (rt : Rat) := Rat.intCast_le_intCast.mpr l1
      have a2 : (rt : Rat) ≤ (r4 h.fast : Rat) := Rat.intCast_le_intCast.mpr l2
      have a3 : (0 : Rat) < (r4 h.slow : Rat) := Rat.intCast_pos.mpr (by omega)
      have a4 : (0 : Rat) < (r4 h.fast : Rat) := Rat.intCast_pos.mpr (by omega)
      show q (Fr.div _ h.fast) ≤ ((ts.getD y 0 - ts.getD j 0 : Int) : Rat) ∧ ∀ h', some (Fr.div _ h.slow) = some h' → ((ts.getD y 0 - ts.getD j 0 : Int) : Rat) ≤ q h'
      generalize ((ts.getD y 0 - ts.getD j 0 : Int) : Rat) = D at gone dn
      have m1 : D * (rt : Rat) ≤ D * (r4 h.fast : Rat) := Rat.mul_le_mul_of_nonneg_left a2 dn
      have m2 : D * (r4 h.slow : Rat) ≤ D * (rt : Rat) := Rat.mul_le_mul_of_nonneg_left a1 dn
      refine ⟨?_, fun h' hh' => ?_⟩
      · rw [q_div g2 f2 f1, gone, qf]
        have e : D * (rt : Rat) / 4 / ((r4 h.fast : Rat) / 4) = D * (rt : Rat) / (r4 h.fast : Rat) := by grind
        rw [e]
        have e2 : D * (rt : Rat) / (r4 h.fast : Rat) * (r4 h.fast : Rat) = D * (rt : Rat) := by grind
        refine Rat.not_lt.mp fun c => ?_
        have := Rat.mul_lt_mul_of_pos_right c a4
        rw [e2] at this
        exact absurd m1 (Rat.not_le.mpr this)
      · cases hh'
        rw [q_div g2 s2 s1, gone, qs]
        have e : D * (rt : Rat) / 4 / ((r4 h.slow : Rat) / 4) = D * (rt : Rat) / (r4 h.slow : Rat) := by grind
        rw [e]
        have e2 : D * (rt : Rat) / (r4 h.slow : Rat) * (r4 h.slow : Rat) = D * (rt : Rat) := by grind
        refine Rat.not_lt.mp fun c => ?_
        have := Rat.mul_lt_mul_of_pos_right c a3
        rw [e2] at this
        exact absurd m2 (Rat.not_le.mpr this)
    · cases hm
  · unfold mv2 at hm
    split at hm
    · next k hk =>
      split at hm
      · next lk hlk =>
        simp only [List.mem_cons, List.not_mem_nil, or_false] at hm
        subst hm
        obtain ⟨l, lk', h1, h2, h3, h4⟩ := tr.hear y k hy hk
        have : lk' = lk := by
          unfold linkAt at hlk
          rw [h1] at hlk
          have := h2.symm.trans hlk
          exact Option.some.inj this
        subst this
        obtain ⟨o1, o2⟩ := (fo.lk lk' (List.mem_of_getElem? h2)).oks
        exact ⟨q_le_int o1.pos h3, fun h hh => int_le_q (o2 h hh).pos (h4 h hh)⟩
      · cases hm
    · cases hm
end
end K19
namespace K24
open PySem PySem.Spec PyProof.Rows L2 G Th AL K37 KL Fr
open K19 (F9 H9 Tr9 stA stM stR toV steps_wp row_mem move_true)
section
variable {fl : Fl} {es : List Ev} {ts : List Int}

abbrev Sp := Nat × Nat × Int
theorem steps_120 (fo : F9 20 fl) (hv : H9 950 fl es) : ∃ ws : List Sp, ws.map toV = stA fl es es.length ∧ ws.length ≤ 120 := by
  obtain ⟨v, T, _, r, ws, _, _, h1, h2, _⟩ := steps_wp (S := []) fo hv
  exact ⟨ws, h1, h2⟩
theorem stA_mem : ∀ {i : Nat} {v : Val}, v ∈ stA fl es i → ∃ y, y < i ∧ ∃ m ∈ row fl es y, v ∈ stM y m
  | 0, v, h => by cases h
  | i + 1, v, h => by
    rcases List.mem_append.mp h with h | h
    · obtain ⟨y, hy, r⟩ := stA_mem h
      exact ⟨y, by omega, r⟩
    · obtain ⟨m, hm, hv⟩ := List.mem_flatMap.mp h
      exact ⟨i, by omega, m, hm, hv⟩
theorem to_inj {w : Sp} {x y : Nat} {f : Fq} (h : toV w = .tup [.int (x : Nat), .int (y : Nat), frV f]) : w.1 = x ∧ w.2.1 = y ∧ Fr.mk w.2.2 120 = f := by
  unfold toV frV at h
  injection h with h
  injection h with h1 h
  injection h with h2 h
  injection h with h3 _
  injection h1 with h1
  injection h2 with h2
  injection h3 with h3
  injection h3 with h4 h5
  injection h5 with h5 _
  injection h4 with h4
  injection h5 with h5
  exact ⟨by omega, by omega, Prod.ext h4 h5⟩
theorem q120 {w d : Int} (h : (d : Rat) ≤ q (Fr.mk w 120)) : 120 * d ≤ w := by
  rw [q_mk (by decide)] at h
  have e : ((120 : Int) : Rat) = 120 := rfl
  rw [e] at h
  have : ((120 * d : Int) : Rat) ≤ (w : Rat) := by
    rw [Rat.intCast_mul, e]
    grind
  exact Rat.intCast_le_intCast.mp this

theorem step_true (fo : F9 20 fl) (hv : H9 950 fl es) (tr : Tr9 fl es ts) {ws : List Sp} (hw : ws.map toV = stA fl es es.length) : ∀ w ∈ ws, w.1 < es.length ∧ w.2.1 < es.length ∧ 120 * ts.getD w.2.1 0 ≤ 120 * ts.getD w.1 0 + w.2.2 := by
  intro w hm
  have hv' : toV w ∈ stA fl es es.length := by rw [← hw]; exact List.mem_map_of_mem hm
  obtain ⟨y, hy, m, hmr, hin⟩ := stA_mem hv'
  obtain ⟨mx, _, _⟩ := row_mem fo hv hy hmr
  obtain ⟨t1, t2⟩ := move_true fo hv tr hy hmr
  unfold K19.stM at hin
  rcases List.mem_append.mp hin with hin | hin
  · cases hh : m.hi with
    | none => rw [hh] at hin; cases hin
    | some h =>
      rw [hh] at hin
      simp only [List.mem_cons, List.not_mem_nil, or_false] at hin
      obtain ⟨e1, e2, e3⟩ := to_inj hin
      have := t2 h hh
      rw [← e3] at this
      have := q120 this
      rw [e1, e2]
      exact ⟨by omega, by omega, by omega⟩
  · simp only [List.mem_cons, List.not_mem_nil, or_false] at hin
    obtain ⟨e1, e2, e3⟩ := to_inj hin
    have n : ((ts.getD m.x 0 - ts.getD y 0 : Int) : Rat) ≤ q (Fr.sub (0, 1) m.lo) := by
      have o1 := (row_mem fo hv hy hmr).2.1
      have : q ((0, 1) : Fq) = 0 := by decide +kernel
      rw [q_sub (by decide) (by have := o1.pos; omega), this]
      rw [Rat.intCast_sub] at t1 ⊢
      grind
    rw [← e3] at n
    have := q120 n
    rw [e1, e2]
    exact ⟨by omega, by omega, by omega⟩
end
end K24
namespace K24
open PySem PySem.Spec PyProof.Rows L2 G Th AL K37 KL Fr
open K19 (F9 H9 Tr9 stA toV wsV)
open K08 (wm wd)
theorem lcm_eq {u e : Nat} : ((u : Int) / ((Int.gcd (u : Int) (e : Int) : Nat) : Int)) * (e : Int) = ((Nat.lcm u e : Nat) : Int) := by
  have g : Int.gcd (u : Int) (e : Int) = Nat.gcd u e := rfl
  rw [g, ← Int.natCast_ediv, ← Int.natCast_mul]
  congr 1
  unfold Nat.lcm
  exact Nat.div_mul_right_comm (Nat.gcd_dvd_left u e) e
theorem unit_wp {S : Sto} {R : Nat} {fs : List Fq} (h : S[R]? = some (.lst (fs.map frV))) (hd : ∀ f ∈ fs, ∃ e : Nat, f.2 = (e : Int) ∧ 0 < e ∧ e ∣ 120) :
    Wp (common_unit_ [.ref R] S) fun v T => ∃ u : Nat, v = .int (u : Nat) ∧ 0 < u ∧ u ∣ 120 ∧ (∀ f ∈ fs, ∃ e : Nat, f.2 = (e : Int) ∧ e ∣ u) ∧ S = T := by
  have h60 := p60
  have p64 : (2 : Nat) ^ 64 = 18446744073709551616 := by decide
  refine AL.wf ?_; simp only [List.map_cons, List.map_nil, List.length_cons, List.length_nil, Nat.reduceAdd, Nat.reduceSub, List.replicate_succ, List.replicate_zero, List.cons_append, List.nil_append]; unfold common_unit_B; array_get_dec
  refine .inr ⟨R, _, rfl, h, ?_⟩
  refine ws_loop (fun i ρ T => (∃ (u : Nat) (z2 : Option Val), ρ = [some (.ref R), some (.int (u : Nat)), z2] ∧ 0 < u ∧ u ∣ 120 ∧ ∀ f ∈ fs.take i, ∃ e : Nat, f.2 = (e : Int) ∧ e ∣ u) ∧ S = T) ⟨⟨1, _, rfl, by decide, by decide, fun f h => (by cases h)⟩, rfl⟩ (fun i ρ T _ z => by rw [← z.2]; exact h) ?_ ?_
  · rintro i v ρ _ hv ⟨⟨u, z2, rfl, u0, ud, uf⟩, rfl⟩
    rw [List.getElem?_map] at hv
    obtain ⟨f, hf, rfl⟩ := Option.map_eq_some_iff.mp hv
    obtain ⟨e, fe, e0, ed⟩ := hd f (List.mem_of_getElem? hf)
    have ul := Nat.le_of_dvd (by decide) ud
    have el := Nat.le_of_dvd (by decide) ed
    have gp : 0 < Int.gcd (u : Int) (e : Int) := Nat.gcd_pos_of_pos_left e u0
    have gl : Int.gcd (u : Int) (e : Int) ≤ 120 := Nat.le_trans (Nat.le_of_dvd u0 (Nat.gcd_dvd_left u e)) ul
    have dl : (u : Int) / ((Int.gcd (u : Int) (e : Int) : Nat) : Int) = ((u / Nat.gcd u e : Nat) : Int) := by rw [Int.natCast_ediv]; rfl
    have dl2 : u / Nat.gcd u e ≤ 120 := Nat.le_trans (Nat.div_le_self _ _) ul
    refine bn rfl ?_
    array_get_dec
    rw [fe]
    refine Wp.of (cd_eq (by omega)) ?_
    array_get_dec
    · rw [fe, lcm_eq]
      refine ⟨⟨Nat.lcm u e, _, rfl, Nat.lcm_pos u0 e0, Nat.lcm_dvd ud ed, fun g hg => ?_⟩, rfl⟩
      rw [List.take_add_one, hf] at hg
      rcases List.mem_append.mp hg with hg | hg
      · obtain ⟨e', a, b⟩ := uf g hg
        exact ⟨e', a, Nat.dvd_trans b (Nat.dvd_lcm_left u e)⟩
      · simp only [Option.toList_some, List.mem_singleton] at hg
        subst hg
        exact ⟨e, fe, Nat.dvd_lcm_right u e⟩
    · rw [dl]
      exact wm (by rw [Int.natAbs_natCast]; omega) (by rw [fe]; omega)
    · exact wd (by omega) (by omega)
  · rintro ρ _ ⟨⟨u, z2, rfl, u0, ud, uf⟩, rfl⟩
    rw [List.length_map, List.take_length] at uf
    array_get_dec
    exact ⟨u, rfl, u0, ud, uf, rfl⟩
theorem den120 (w : Int) : ∃ e : Nat, (Fr.mk w 120).2 = (e : Int) ∧ 0 < e ∧ e ∣ 120 := by
  have gd : Int.gcd w 120 ∣ 120 := Nat.gcd_dvd_right w.natAbs 120
  refine ⟨120 / Int.gcd w 120, ?_, Nat.div_pos (Nat.le_of_dvd (by decide) gd) (Nat.pos_of_dvd_of_pos gd (by decide)), Nat.div_dvd_of_dvd gd⟩
  unfold Fr.mk
  rw [if_neg (by decide), Int.natCast_ediv]
  rfl

def whl (u : Nat) (w : Sp) : Sp := (w.1, w.2.1, (Fr.mk w.2.2 120).1 * ((u : Int) / (Fr.mk w.2.2 120).2))
theorem whl_eq {u : Nat} {w : Sp} (h : ∃ e : Nat, (Fr.mk w.2.2 120).2 = (e : Int) ∧ e ∣ u) : (whl u w).2.2 * 120 = w.2.2 * (u : Int) := by
  obtain ⟨e, he, k, rfl⟩ := h
  have c := Fr.mk_cross (a := w.2.2) (b := 120) (by decide)
  have p := Fr.mk_pos (a := w.2.2) (b := 120) (by decide)
  show (Fr.mk w.2.2 120).1 * (((e * k : Nat) : Int) / (Fr.mk w.2.2 120).2) * 120 = w.2.2 * ((e * k : Nat) : Int)
  rw [he] at c p ⊢
  rw [Int.natCast_mul, Int.mul_ediv_cancel_left _ (by omega)]
  rw [Int.mul_assoc, Int.mul_comm (k : Int) 120, ← Int.mul_assoc, c, Int.mul_assoc]
theorem whole_wp {S : Sto} {ws : List Sp} (hl : ws.length ≤ 120) (hb : ∀ w ∈ ws, Fr.Ok 26 (Fr.mk w.2.2 120)) :
    Wp (whole_steps_ [.tup (ws.map toV)] S) fun v T => ∃ (u r : Nat), v = .tup [.int (u : Nat), .ref r] ∧ T[r]? = some (.lst ((ws.map (whl u)).map wsV)) ∧ 0 < u ∧ u ∣ 120 ∧ (∀ w ∈ ws, (whl u w).2.2 * 120 = w.2.2 * (u : Int)) ∧ S.length ≤ r ∧ Kn S T := by
  have h60 := p60
  have p64 : (2 : Nat) ^ 64 = 18446744073709551616 := by decide
  have p26 : (2 : Nat) ^ 26 = 67108864 := by decide
  refine AL.wf ?_; simp only [List.map_cons, List.map_nil, List.length_cons, List.length_nil, Nat.reduceAdd, Nat.reduceSub, List.replicate_succ, List.replicate_zero, List.cons_append, List.nil_append]; unfold whole_steps_B; array_get_dec
  refine .inl ⟨_, rfl, ?_⟩
  refine lc_inv (fun j a T => a = ((ws.take j).map fun w => Fr.mk w.2.2 120).map frV ∧ S = T) (by rw [List.length_map]; omega) ⟨rfl, rfl⟩ (fun _ _ _ _ _ => trivial) (fun j a T z => by rw [z.1, List.length_map, List.length_map]; exact List.length_take_le _ _) ?_ ?_
  · rintro j v a _ hv ⟨rfl, rfl⟩
    rw [List.getElem?_map] at hv
    obtain ⟨w, hw, rfl⟩ := Option.map_eq_some_iff.mp hv
    refine bn rfl ?_
    array_get_dec
    refine ⟨?_, rfl⟩
    rw [List.take_add_one, hw, List.map_append, List.map_append]
    rfl
  rintro _ _ ⟨rfl, rfl⟩
  rw [List.length_map, List.take_length]
  intro S1 R e_R l_S1 g_R k_S1
  array_get_dec
  refine (unit_wp g_R (fun f hf => ?_)).imp ?_
  · obtain ⟨w, _, rfl⟩ := List.mem_map.mp hf
    exact den120 _
  rintro _ _ ⟨u, rfl, u0, ud, uf, rfl⟩
  have ul := Nat.le_of_dvd (by decide) ud
  have uw : ∀ w ∈ ws, ∃ e : Nat, (Fr.mk w.2.2 120).2 = (e : Int) ∧ e ∣ u := fun w hw => uf _ (List.mem_map_of_mem hw)
  array_get_dec
  refine .inl ⟨_, rfl, ?_⟩
  refine lc_inv (fun j a T => a = ((ws.take j).map (whl u)).map wsV ∧ S1 = T) (by rw [List.length_map]; omega) ⟨rfl, rfl⟩ (fun _ _ _ _ _ => trivial) (fun j a T z => by rw [z.1, List.length_map, List.length_map]; exact List.length_take_le _ _) ?_ ?_
  · rintro j v a _ hv ⟨rfl, rfl⟩
    rw [List.getElem?_map] at hv
    obtain ⟨w, hw, rfl⟩ := Option.map_eq_some_iff.mp hv
    have wm' := List.mem_of_getElem? hw
    obtain ⟨e, he, e0, ed⟩ := den120 w.2.2
    have el := Nat.le_of_dvd (by decide) ed
    have b1 := (hb w wm').b1
    have dl : (u : Int) / (e : Int) = ((u / e : Nat) : Int) := (Int.natCast_ediv u e).symm
    have dl2 : u / e ≤ 120 := Nat.le_trans (Nat.div_le_self _ _) ul
    refine bn rfl ?_
    array_get_dec
    · refine ⟨?_, rfl⟩
      rw [List.take_add_one, hw, List.map_append, List.map_append]
      rfl
    · rw [he, dl]
      exact wm (by omega) (by rw [Int.natAbs_natCast]; omega)
    · rw [he]
      exact wd (by omega) (by omega)
  rintro _ _ ⟨rfl, rfl⟩
  rw [List.length_map, List.take_length]
  intro S2 r e_r l_S2 g_r k_S2
  array_get_dec
  exact ⟨u, r, rfl, g_r, u0, ud, fun w hw => whl_eq (uw w hw), by omega, k_S1.trans k_S2⟩
end K24
namespace K24
open PySem PySem.Spec PyProof.Rows L2 G Th AL K37 KL Fr
open K19 (F9 H9 Tr9 stA toV wsV ixN_nat enumV_len)
open K08 (wm wd)
def moV : Option Int → Val
  | none => .non
  | some i => .int i
abbrev Mo := List (Option Int)

def Sat (mo : Mo) (z : Sp) : Prop := ∀ a, mo.getD z.1 none = some a → ∃ b, mo.getD z.2.1 none = some b ∧ b ≤ a + z.2.2
def Lw (a b : Mo) : Prop := ∀ i x, b.getD i none = some x → ∃ y, a.getD i none = some y ∧ y ≤ x

theorem get_set {mo : Mo} {i j : Nat} {o : Option Int} (h : i < mo.length) : (mo.set i o).getD j none = if j = i then o else mo.getD j none := by
  simp only [List.getD, List.getElem?_set]
  by_cases c : j = i
  · subst c
    simp [h]
  · rw [if_neg (fun z => c z.symm), if_neg c]
theorem set_lw {mo : Mo} {i : Nat} {c : Int} (hi : i < mo.length) (h : ∀ b, mo.getD i none = some b → c < b) : Lw (mo.set i (some c)) mo := by
  intro j x hx
  rw [get_set hi]
  split
  · next e =>
    subst e
    exact ⟨c, rfl, Int.le_of_lt (h x hx)⟩
  · exact ⟨x, hx, Int.le_refl _⟩
theorem at_mo {mo : Mo} {i : Nat} (h : i < mo.length) : atI (mo.map moV) ((i : Nat) : Int) = some (moV (mo.getD i none)) := at_nat (map_get (by simp [List.getD, List.getElem?_eq_getElem h]))
theorem mo_set {mo : Mo} {i : Nat} {a : Int} : (mo.map moV).set i (.int a) = (mo.set i (some a)).map moV := by rw [List.map_set]; rfl
end K24
namespace K24
section
variable {zs : List Sp} {I : Nat → Prop} {mo : Mo}

inductive Wk (zs : List Sp) (I : Nat → Prop) : Nat → Int → Prop
  | start {s : Nat} : I s → Wk zs I s 0
  | step {z : Sp} {v : Int} : Wk zs I z.1 v → z ∈ zs → Wk zs I z.2.1 (v + z.2.2)

def AllW (zs : List Sp) (I : Nat → Prop) (mo : Mo) : Prop := ∀ y v, mo.getD y none = some v → Wk zs I y v
theorem set_allW {z : Sp} {a : Int} (h : AllW zs I mo) (hz : z ∈ zs) (ha : mo.getD z.1 none = some a) (hl : z.2.1 < mo.length) : AllW zs I (mo.set z.2.1 (some (a + z.2.2))) := by
  intro y v hv
  rw [get_set hl] at hv
  split at hv
  · next e =>
    cases hv
    subst e
    exact .step (h _ _ ha) hz
  · exact h y v hv
theorem sat_least (hs : ∀ z ∈ zs, Sat mo z) (h0 : ∀ s, I s → ∃ b, mo.getD s none = some b ∧ b ≤ 0) {y : Nat} {v : Int} (w : Wk zs I y v) : ∃ b, mo.getD y none = some b ∧ b ≤ v := by
  induction w with
  | start h => exact h0 _ h
  | @step z v _ hz ih =>
    obtain ⟨a, h1, h2⟩ := ih
    obtain ⟨b, h3, h4⟩ := hs z hz a h1
    exact ⟨b, h3, by omega⟩
theorem pot_le {P : Nat → Int} (hp : ∀ z ∈ zs, P z.2.1 ≤ P z.1 + z.2.2) {m : Int} (h0 : ∀ s, I s → P s ≤ m) {y : Nat} {v : Int} (w : Wk zs I y v) : P y ≤ m + v := by
  induction w with
  | start h => have := h0 _ h; omega
  | @step z v _ hz ih => have := hp z hz; omega
end
end K24
namespace K24
section
variable {zs : List Sp} {I : Nat → Prop}
theorem least {W : Int → Prop} {B v : Int} (hv : W v) (hb : ∀ v, W v → B ≤ v) : ∃ d, W d ∧ ∀ v, W v → d ≤ v := by
  have go : ∀ (n : Nat) (v : Int), W v → (v - B).toNat < n → ∃ d, W d ∧ ∀ v, W v → d ≤ v := by
    intro n
    induction n with
    | zero => intro v _ h; omega
    | succ n ih =>
      intro v hv hn
      by_cases c : ∃ u, W u ∧ u < v
      · obtain ⟨u, hu, l⟩ := c
        have := hb u hu
        have := hb v hv
        exact ih u hu (by omega)
      · exact ⟨v, hv, fun u hu => Int.not_lt.mp fun l => c ⟨u, hu, l⟩⟩
  exact go _ v hv (Nat.lt_succ_self _)

end
end K24
namespace K24
end K24
namespace K24
open PySem PySem.Spec PyProof.Rows L2 G Th AL K37 KL Fr
open K19 (wsV)
end K24
namespace K24
open PySem PySem.Spec PyProof.Rows L2 G Th AL K37 KL Fr
open K19 (F9 H9 Tr9 stA toV wsV)
section
variable {fl : Fl} {es : List Ev} {ts : List Int}
end
end K24
namespace K24
open PySem PySem.Spec PyProof.Rows L2 G Th AL K37 KL Fr
open K19 (F9 H9 Tr9 stA toV wsV row_mem history_wp)
section
variable {fl : Fl} {es : List Ev} {ts : List Int} {S : Sto}
theorem step_ok (fo : F9 20 fl) (hv : H9 950 fl es) {ws : List Sp} (hw : ws.map toV = stA fl es es.length) : ∀ w ∈ ws, Fr.Ok 26 (Fr.mk w.2.2 120) := by
  intro w hm
  have hv' : toV w ∈ stA fl es es.length := by rw [← hw]; exact List.mem_map_of_mem hm
  obtain ⟨y, hy, m, hmr, hin⟩ := stA_mem hv'
  obtain ⟨mx, o1, o2⟩ := row_mem fo hv hy hmr
  unfold K19.stM at hin
  rcases List.mem_append.mp hin with hin | hin
  · cases hh : m.hi with
    | none => rw [hh] at hin; cases hin
    | some h =>
      rw [hh] at hin
      simp only [List.mem_cons, List.not_mem_nil, or_false] at hin
      rw [(to_inj hin).2.2]
      exact (o2 h hh).mono (by decide)
  · simp only [List.mem_cons, List.not_mem_nil, or_false] at hin
    rw [(to_inj hin).2.2]
    have ok01 : Fr.Ok 1 ((0, 1) : Int × Int) := ⟨by decide, by decide, by decide, by decide⟩
    exact Fr.sub_ok ok01 o1
end
end K24
namespace AL
open PySem PySem.Spec PyProof.Rows L2 G Th
section
variable {ρ : Rho} {S : Sto} {N : Rho → Sto → Prop} {R : Val → Sto → Prop}
theorem ws_whileG {α : Type} {rel : α → α → Prop} (wfr : WellFounded rel) {tb : BF} {g : SF} (I : α → Rho → Sto → Prop) {a : α} (h0 : I a ρ S)
    (step : ∀ a ρ S, I a ρ S → Wp (tb ρ S) fun b S1 => Br b (Ws (g ρ S1) (fun ρ2 S2 => ∃ a', I a' ρ2 S2 ∧ rel a' a) R) (N ρ S1)) : Ws (sWhile tb g ρ S) N R := by
  have go : ∀ (a : α) (ρ : Rho) (S : Sto), I a ρ S → ∃ n, Ws (whR tb g n ρ S) N R := by
    intro a
    induction a using wfr.induction with
    | _ a ih =>
      intro ρ S hI
      obtain ⟨b, S1, e, h1, h2⟩ := step a ρ S hI
      cases b with
      | false =>
        refine ⟨1, ?_⟩
        rw [whR]
        simp only [e]
        exact ⟨h2 rfl⟩
      | true =>
        obtain ⟨h3⟩ := h1 rfl
        cases e2 : g ρ S1 with
        | nx ρ2 S2 =>
          rw [e2] at h3
          obtain ⟨a', hI', hr⟩ := h3
          obtain ⟨n, hn⟩ := ih a' hr ρ2 S2 hI'
          refine ⟨n + 1, ?_⟩
          rw [whR]
          simp only [e, e2]
          exact hn
        | rt v S2 =>
          rw [e2] at h3
          refine ⟨1, ?_⟩
          rw [whR]
          simp only [e, e2]
          exact ⟨h3⟩
        | stuck => rw [e2] at h3; exact h3.elim
        | bk _ _ => rw [e2] at h3; exact h3.elim
        | ct _ _ => rw [e2] at h3; exact h3.elim
  obtain ⟨n, h⟩ := go a ρ S h0
  have ns : whR tb g n ρ S ≠ .stuck := fun z => by rw [z] at h; exact h.h
  rw [sWhile_eq rfl ns]
  exact h
end
end AL
namespace K24
def nn (mo : Mo) : Nat := mo.countP Option.isNone
def wt1 (L : Nat → Int) (i : Nat) : Option Int → Nat
  | none => 0
  | some v => (v - L i).toNat
def wt (L : Nat → Int) : Nat → Mo → Nat
  | _, [] => 0
  | i, o :: os => wt1 L i o + wt L (i + 1) os
theorem wt_set {L : Nat → Int} {c b : Int} : ∀ {mo : Mo} {y i : Nat}, mo[y]? = some (some b) → c < b → L (i + y) ≤ c → wt L i (mo.set y (some c)) < wt L i mo
  | [], _, _, h, _, _ => by cases h
  | o :: os, 0, i, h, l, k => by
    rw [List.getElem?_cons_zero] at h
    cases h
    rw [List.set_cons_zero, wt, wt]
    show (c - L i).toNat + _ < (b - L i).toNat + _
    have k : L i ≤ c := k
    omega
  | o :: os, y + 1, i, h, l, k => by
    rw [List.getElem?_cons_succ] at h
    rw [List.set_cons_succ, wt, wt]
    have := wt_set (i := i + 1) h l (by rw [show i + 1 + y = i + (y + 1) from by omega]; exact k)
    omega
theorem nn_set {c b : Int} : ∀ {mo : Mo} {y : Nat}, mo[y]? = some (some b) → nn (mo.set y (some c)) = nn mo
  | [], _, h => by cases h
  | o :: os, 0, h => by
    rw [List.getElem?_cons_zero] at h
    cases h
    unfold nn
    rw [List.set_cons_zero, List.countP_cons, List.countP_cons]
    rfl
  | o :: os, y + 1, h => by
    rw [List.getElem?_cons_succ] at h
    have := nn_set (c := c) h
    unfold nn at this ⊢
    rw [List.set_cons_succ, List.countP_cons, List.countP_cons, this]
theorem nn_none {c : Int} : ∀ {mo : Mo} {y : Nat}, mo[y]? = some none → nn (mo.set y (some c)) < nn mo
  | [], _, h => by cases h
  | o :: os, 0, h => by
    rw [List.getElem?_cons_zero] at h
    cases h
    unfold nn
    rw [List.set_cons_zero, List.countP_cons, List.countP_cons]
    show List.countP _ os + 0 < List.countP _ os + 1
    omega
  | o :: os, y + 1, h => by
    rw [List.getElem?_cons_succ] at h
    have := nn_none (c := c) h
    unfold nn at this ⊢
    rw [List.set_cons_succ, List.countP_cons, List.countP_cons]
    omega

def Lt2 (L : Nat → Int) (a b : Mo) : Prop := nn a < nn b ∨ (nn a = nn b ∧ wt L 0 a < wt L 0 b)
theorem Lt2.trans {L : Nat → Int} {a b c : Mo} (h : Lt2 L a b) (h' : Lt2 L b c) : Lt2 L a c := by
  unfold Lt2 at *
  omega
theorem set_lt2 {L : Nat → Int} {mo : Mo} {y : Nat} {c : Int} (hy : y < mo.length) (h : ∀ b, mo.getD y none = some b → c < b) (k : L y ≤ c) : Lt2 L (mo.set y (some c)) mo := by
  have e : mo[y]? = some (mo.getD y none) := by simp [List.getD, List.getElem?_eq_getElem hy]
  cases hv : mo.getD y none with
  | none => rw [hv] at e; exact .inl (nn_none e)
  | some b =>
    rw [hv] at e
    exact .inr ⟨nn_set e, wt_set e (h b hv) (by rw [Nat.zero_add]; exact k)⟩

abbrev Gh := Mo × List Nat
def gMu (L : Nat → Int) (g : Gh) : Nat × Nat × Nat := (nn g.1, wt L 0 g.1, g.2.length)
def gRel (L : Nat → Int) : Gh → Gh → Prop := InvImage (Prod.Lex (· < ·) (Prod.Lex (· < ·) (· < ·))) (gMu L)
theorem gRel_wf (L : Nat → Int) : WellFounded (gRel L) := InvImage.wf _ (Prod.lex Nat.lt_wfRel (Prod.lex Nat.lt_wfRel Nat.lt_wfRel)).wf
theorem gRel_lt {L : Nat → Int} {a b : Mo} {p q : List Nat} (h : Lt2 L a b) : gRel L (a, p) (b, q) := by
  unfold gRel InvImage gMu
  rcases h with h | ⟨h1, h2⟩
  · exact Prod.Lex.left _ _ h
  · rw [show nn (a, p).1 = nn (b, q).1 from h1]
    exact Prod.Lex.right _ (Prod.Lex.left _ _ h2)
theorem gRel_q {L : Nat → Int} {a : Mo} {p q : List Nat} (h : p.length < q.length) : gRel L (a, p) (a, q) := by
  unfold gRel InvImage gMu
  exact Prod.Lex.right _ (Prod.Lex.right _ h)
end K24
namespace K24
open PySem PySem.Spec PyProof.Rows L2 G Th AL K37 KL Fr
open K19 (wsV ixN_nat)
section
variable {S : Sto}

def oA (n s : Nat) : Mo := (List.range n).map fun i => if i = s then some 0 else none
theorem oA_len (n s : Nat) : (oA n s).length = n := by simp [oA]
theorem oA_get (n s y : Nat) : (oA n s).getD y none = if y = s ∧ y < n then some 0 else none := by
  unfold oA List.getD
  rw [List.getElem?_map]
  rcases Nat.lt_or_ge y n with h | h
  · rw [List.getElem?_range h]
    simp [h]
  · rw [List.getElem?_eq_none (by simpa using h)]
    simp [Nat.not_lt.mpr h]
theorem oA_succ (n s : Nat) : oA (n + 1) s = oA n s ++ [if n = s then some 0 else none] := by
  unfold oA
  rw [List.range_succ, List.map_append]
  rfl
theorem oA_allW {zs : List Sp} (n s : Nat) : AllW zs (· = s) (oA n s) := by
  intro y v h
  rw [oA_get] at h
  split at h
  · next c => cases h; exact .start c.1
  · cases h
theorem oA_st {n s : Nat} (h : s < n) : ∀ x, x = s → ∃ b, (oA n s).getD x none = some b ∧ b ≤ 0 := by
  rintro x rfl
  exact ⟨0, by rw [oA_get, if_pos ⟨rfl, h⟩], Int.le_refl _⟩
theorem only_wp {n s : Nat} (hn : n ≤ 1000) : Wp (only_at_ [.int (n : Nat), .int (s : Nat)] S) fun v T => ∃ M, v = .ref M ∧ M = S.length ∧ T.length = S.length + 1 ∧ T[M]? = some (.lst ((oA n s).map moV)) ∧ Kn S T := by
  refine AL.wf ?_; simp only [List.map_cons, List.map_nil, List.length_cons, List.length_nil, Nat.reduceAdd, Nat.reduceSub, List.replicate_succ, List.replicate_zero, List.cons_append, List.nil_append]; unfold only_at_B; array_get_dec
  refine ⟨_, rfl, ?_, by omega, by omega⟩
  refine lc_inv (fun j a T => a = (oA j s).map moV ∧ S = T) (by rw [rangeV_len]; omega) ⟨rfl, rfl⟩ (fun _ _ _ _ _ => trivial) (fun j a T z => by rw [z.1, List.length_map, oA_len]; exact Nat.le_refl _) ?_ ?_
  · rintro j v a _ hv ⟨rfl, rfl⟩
    obtain ⟨rfl, hj⟩ := rangeV_get hv
    rw [Int.zero_add]
    refine bn rfl ?_
    array_get_dec
    refine Br.of (fun c => ?_) (fun c => ?_)
    · have c : (j : Int) = (s : Nat) := of_decide_eq_true c
      array_get_dec
      exact ⟨by rw [oA_succ, if_pos (by omega), List.map_append]; rfl, rfl⟩
    · have c : ¬ (j : Int) = (s : Nat) := of_decide_eq_false c
      array_get_dec
      exact ⟨by rw [oA_succ, if_neg (by omega), List.map_append]; rfl, rfl⟩
  rintro _ _ ⟨rfl, rfl⟩
  rw [rangeV_len, Int.toNat_natCast]
  intro T M e_M l_T g_M k_T
  exact ⟨M, rfl, e_M, l_T, g_M, k_T⟩

structure Tb (zs : List Sp) (n s : Nat) (mo : Mo) : Prop where
  len : mo.length = n
  aw : AllW zs (· = s) mo
  st : ∀ x, x = s → ∃ b, mo.getD x none = some b ∧ b ≤ 0
  sat : ∀ z ∈ zs, Sat mo z
def paV (u : Nat) : Option Int → Val
  | none => .non
  | some a => frV (Fr.mk a u)
theorem parted_wp {M u : Nat} {mo : Mo} (hM : S[M]? = some (.lst (mo.map moV))) (u0 : 0 < u) (ud : u ≤ 120) (hl : mo.length ≤ 1000) : Wp (sums_parted_ [.ref M, .int (u : Nat)] S) fun v T => v = .tup (mo.map (paV u)) ∧ Kn S T := by
  refine AL.wf ?_; simp only [List.map_cons, List.map_nil, List.length_cons, List.length_nil, Nat.reduceAdd, Nat.reduceSub, List.replicate_succ, List.replicate_zero, List.cons_append, List.nil_append]; unfold sums_parted_B; array_get_dec
  refine .inr ⟨M, _, rfl, hM, ?_⟩
  refine lc_inv (fun j a T => a = (mo.take j).map (paV u) ∧ S = T) (by rw [List.length_map]; omega) ⟨rfl, rfl⟩ (fun j a T _ z => by rw [← z.2]; exact hM) (fun j a T z => by rw [z.1, List.length_map]; exact List.length_take_le _ _) ?_ ?_
  · rintro j v a _ hv ⟨rfl, rfl⟩
    rw [List.getElem?_map] at hv
    obtain ⟨o, ho, rfl⟩ := Option.map_eq_some_iff.mp hv
    have tk : ∀ x, x = paV u o → (mo.take j).map (paV u) ++ [x] = (mo.take (j + 1)).map (paV u) := by
      rintro _ rfl
      rw [List.take_add_one, ho, List.map_append]
      rfl
    refine bn rfl ?_
    cases o with
    | none =>
      array_get_dec
      exact ⟨tk _ rfl, rfl⟩
    | some x =>
      array_get_dec
      refine Wp.of (ratio_eq (by omega) (Nat.lt_of_le_of_lt (show ((u : Int)).natAbs ≤ 120 by omega) (by decide))) ?_
      exact ⟨tk _ rfl, rfl⟩
  rintro _ _ ⟨rfl, rfl⟩
  rw [List.length_map, List.take_length]
  intro T r e_r l_T g_r k_T
  array_get_dec
  exact ⟨rfl, k_T⟩
end
end K24
namespace K24
open PySem PySem.Spec PyProof.Rows L2 G Th AL K37 KL Fr
open K19 (wsV ixN_nat flat_nats in_nats)

def lv (zs : List Sp) (x : Nat) : List Sp := zs.filter fun z => z.1 == x
def prV (z : Sp) : Val := .tup [.int (z.2.1 : Nat), .int z.2.2]
theorem lv_mem {zs : List Sp} {x : Nat} {z : Sp} : z ∈ lv zs x ↔ z ∈ zs ∧ z.1 = x := by
  unfold lv
  rw [List.mem_filter, beq_iff_eq]
theorem lv_app (zs : List Sp) (z : Sp) (x : Nat) : lv (zs ++ [z]) x = if z.1 = x then lv zs x ++ [z] else lv zs x := by
  unfold lv
  rw [List.filter_append]
  by_cases c : z.1 = x
  · simp [c]
  · simp [c]
theorem lv_len (zs : List Sp) (x : Nat) : (lv zs x).length ≤ zs.length := List.length_filter_le _ _

structure Cl (zs : List Sp) (n s : Nat) (mo : Mo) (q : List Nat) : Prop where
  len : mo.length = n
  aw : AllW zs (· = s) mo
  st : ∀ x, x = s → ∃ b, mo.getD x none = some b ∧ b ≤ 0
  nd : q.Nodup
  qi : ∀ x ∈ q, x < n ∧ ∃ a, mo.getD x none = some a
theorem set_some {mo : Mo} {y x : Nat} {c a : Int} (hy : y < mo.length) (h : mo.getD x none = some a) : ∃ a, (mo.set y (some c)).getD x none = some a := by
  rw [get_set hy]
  split
  · exact ⟨c, rfl⟩
  · exact ⟨a, h⟩
theorem cl_up {zs : List Sp} {n s : Nat} {mo : Mo} {q : List Nat} (h : Cl zs n s mo q) {z : Sp} {a : Int} (hz : z ∈ zs) (ha : mo.getD z.1 none = some a) (hl : z.2.1 < n) (hb : ∀ b, mo.getD z.2.1 none = some b → a + z.2.2 < b)
    {q' : List Nat} (hq : q' = if z.2.1 ∈ q then q else q ++ [z.2.1]) : Cl zs n s (mo.set z.2.1 (some (a + z.2.2))) q' := by
  have ly : z.2.1 < mo.length := by rw [h.len]; exact hl
  have qm : ∀ x ∈ q', x ∈ q ∨ x = z.2.1 := by
    intro x hx
    rw [hq] at hx
    split at hx
    · exact .inl hx
    · rcases List.mem_append.mp hx with hx | hx
      · exact .inl hx
      · exact .inr (List.mem_singleton.mp hx)
  refine ⟨by rw [List.length_set]; exact h.len, set_allW h.aw hz ha ly, fun x e => ?_, ?_, fun x hx => ?_⟩
  · obtain ⟨b, h1, h2⟩ := h.st x e
    obtain ⟨c, h3, h4⟩ := set_lw ly hb x b h1
    exact ⟨c, h3, by omega⟩
  · rw [hq]
    split
    · exact h.nd
    · next c => exact List.nodup_append.mpr ⟨h.nd, by simp, fun x hx y hy => by rw [List.mem_singleton] at hy; subst hy; rintro rfl; exact c hx⟩
  · rcases qm x hx with hx | rfl
    · obtain ⟨h1, a', h2⟩ := h.qi x hx
      exact ⟨h1, set_some ly h2⟩
    · exact ⟨hl, a + z.2.2, by rw [get_set ly, if_pos rfl]⟩
theorem pd_up {zs : List Sp} {mo : Mo} {q : List Nat} {E : Sp → Prop} {z : Sp} {a : Int} (pd : ∀ w ∈ zs, Sat mo w ∨ w.1 ∈ q ∨ E w) (ha : mo.getD z.1 none = some a) (ly : z.2.1 < mo.length) (hb : ∀ b, mo.getD z.2.1 none = some b → a + z.2.2 < b)
    {q' : List Nat} (hq : q' = if z.2.1 ∈ q then q else q ++ [z.2.1]) : ∀ w ∈ zs, Sat (mo.set z.2.1 (some (a + z.2.2))) w ∨ w.1 ∈ q' ∨ (E w ∧ w ≠ z) := by
  have qs : ∀ x ∈ q, x ∈ q' := by
    intro x hx
    rw [hq]
    split
    · exact hx
    · exact List.mem_append_left _ hx
  have qy : z.2.1 ∈ q' := by
    rw [hq]
    split
    · next c => exact c
    · exact List.mem_append_right _ (by simp)
  intro w hw
  by_cases c : w.1 = z.2.1
  · exact .inr (.inl (by rw [c]; exact qy))
  · have g1 : (mo.set z.2.1 (some (a + z.2.2))).getD w.1 none = mo.getD w.1 none := by rw [get_set ly, if_neg c]
    rcases pd w hw with h | h | h
    · refine .inl fun a' ha' => ?_
      rw [g1] at ha'
      obtain ⟨b, h1, h2⟩ := h a' ha'
      obtain ⟨c', h3, h4⟩ := set_lw ly hb _ _ h1
      exact ⟨c', h3, by omega⟩
    · exact .inr (.inl (qs _ h))
    · by_cases d : w = z
      · subst d
        refine .inl fun a' ha' => ?_
        rw [g1, ha] at ha'
        cases ha'
        exact ⟨_, by rw [get_set ly, if_pos rfl], Int.le_refl _⟩
      · exact .inr (.inr ⟨h, d⟩)
theorem pd_no {zs : List Sp} {mo : Mo} {q : List Nat} {E : Sp → Prop} {z : Sp} (pd : ∀ w ∈ zs, Sat mo w ∨ w.1 ∈ q ∨ E w) (h : Sat mo z) : ∀ w ∈ zs, Sat mo w ∨ w.1 ∈ q ∨ (E w ∧ w ≠ z) := by
  intro w hw
  by_cases d : w = z
  · subst d
    exact .inl h
  · rcases pd w hw with h | h | h
    · exact .inl h
    · exact .inr (.inl h)
    · exact .inr (.inr ⟨h, d⟩)
theorem nodup_len : ∀ {n : Nat} {q : List Nat}, q.Nodup → (∀ x ∈ q, x < n) → q.length ≤ n
  | 0, [], _, _ => Nat.le_refl _
  | 0, x :: _, _, h => absurd (h x (by simp)) (Nat.not_lt_zero _)
  | n + 1, q, nd, h => by
    have ih := nodup_len (n := n) (nd.erase n) (fun x hx => by
      have := (nd.mem_erase_iff).mp hx
      have := h x this.2
      omega)
    rw [List.length_erase] at ih
    split at ih <;> omega
section
variable {S : Sto}
theorem vInN2 {Q : Val → Sto → Prop} {x y : Val} {k n : Nat} {ks : List Nat} (hx : x = .int (k : Nat)) (hy : y = .ref n) (h : S[n]? = some (.lst (ks.map natV))) (q : Q (.bl (!decide (k ∈ ks))) S) : Wp (gIn true x y S) Q := by
  subst hx hy
  refine ⟨_, _, ?_, q⟩
  have f : (flatA (.int (k : Nat)) && (ks.map natV).all flatA) = true := by rw [flat_nats]; rfl
  simp only [gIn, gInS, h, f, if_true, in_nats]
theorem leaving_wp {W n : Nat} {zs : List Sp} (hW : S[W]? = some (.lst (zs.map wsV))) (hn : n ≤ 1000) (hz : ∀ z ∈ zs, z.1 < n) (zl : zs.length ≤ 1000) :
    Wp (steps_leaving_ [.ref W, .int (n : Nat)] S) fun v T => v = .ref (S.length + n) ∧ T.length = S.length + n + 1 ∧ T[S.length + n]? = some (.lst ((List.range n).map fun i => Val.ref (S.length + i))) ∧ (∀ x, x < n → T[S.length + x]? = some (.lst ((lv zs x).map prV))) ∧ Kn S T := by
  refine AL.wf ?_; simp only [List.map_cons, List.map_nil, List.length_cons, List.length_nil, Nat.reduceAdd, Nat.reduceSub, List.replicate_succ, List.replicate_zero, List.cons_append, List.nil_append]; unfold steps_leaving_B; array_get_dec
  refine ⟨_, rfl, ?_, by omega, by omega⟩
  refine lc_inv (fun j a T => a = (List.range j).map (fun i => Val.ref (S.length + i)) ∧ T.length = S.length + j ∧ (∀ x, x < j → T[S.length + x]? = some (.lst [])) ∧ Kn S T) (by rw [rangeV_len]; omega) ⟨rfl, rfl, fun x h => by omega, Kn.refl _⟩ (fun _ _ _ _ _ => trivial) (fun j a T z => by rw [z.1, List.length_map, List.length_range]; exact Nat.le_refl _) ?_ ?_
  · rintro j v a T hv ⟨rfl, hl, hx, kT⟩
    refine bn rfl ?_
    array_get_dec
    intro T1 r e_r l_T1 g_r k_T1
    refine ⟨?_, by omega, fun x hx' => ?_, kT.trans k_T1⟩
    · rw [List.range_succ, List.map_append, e_r, hl]
      rfl
    · rcases Nat.lt_or_ge x j with c | c
      · exact k_T1.at (hx x c)
      · have : S.length + x = r := by omega
        rw [this]
        exact g_r
  rintro _ T ⟨rfl, hl, hx, kT⟩
  rw [rangeV_len, Int.toNat_natCast] at hl hx ⊢
  intro T1 L e_L l_T1 g_L k_T1
  have eL : L = S.length + n := by omega
  subst eL
  have lW := lt_of_at hW
  array_get_dec
  refine .inr ⟨W, _, rfl, k_T1.at (kT.at hW), ?_⟩
  refine ws_loop (fun i ρ T => (∃ (z3 z4 z5 z6 : Option Val), ρ = [some (.ref W), some (.int (n : Nat)), some (.ref (S.length + n)), z3, z4, z5, z6]) ∧ T.length = S.length + n + 1 ∧ T[S.length + n]? = some (.lst ((List.range n).map fun i => Val.ref (S.length + i))) ∧ (∀ x, x < n → T[S.length + x]? = some (.lst ((lv (zs.take i) x).map prV))) ∧ Kn S T)
    ⟨⟨_, _, _, _, rfl⟩, by omega, g_L, fun x h => k_T1.at (hx x h), kT.trans k_T1⟩ (fun i ρ T _ z => z.2.2.2.2.at hW) ?_ ?_
  · rintro i v ρ U hv ⟨⟨z3, z4, z5, z6, rfl⟩, lU, hL, hx', kU⟩
    rw [List.getElem?_map] at hv
    obtain ⟨z, hzz, rfl⟩ := Option.map_eq_some_iff.mp hv
    have lx := hz z (List.mem_of_getElem? hzz)
    have tk : zs.take (i + 1) = zs.take i ++ [z] := by rw [List.take_add_one, hzz]; rfl
    refine bn rfl ?_
    array_get_dec
    refine vIxL rfl rfl hL (at_nat (map_get (List.getElem?_range lx))) ?_
    have l2 := lv_len (zs.take i) z.1
    have l3 : (zs.take i).length ≤ zs.length := by rw [List.length_take]; omega
    refine sd (isL_of (hx' z.1 lx)) ?_
    array_get_dec
    refine vApp rfl (hx' z.1 lx) ?_ (small (by rw [List.length_map]; omega))
    intro U1 l_U1 g_U1 k_U1
    array_get_dec
    refine ⟨⟨_, _, _, _, rfl⟩, by omega, k_U1.at (by omega) hL, fun x hx2 => ?_, fun i o h => k_U1.at (by have := lt_of_at h; omega) (kU.at h)⟩
    rw [tk, lv_app]
    by_cases c : z.1 = x
    · subst c
      rw [if_pos rfl, List.map_append]
      exact g_U1
    · rw [if_neg c]
      exact k_U1.at (by omega) (hx' x hx2)
  · rintro ρ U ⟨⟨z3, z4, z5, z6, rfl⟩, lU, hL, hx', kU⟩
    rw [List.length_map, List.take_length] at hx'
    array_get_dec
    exact ⟨rfl, lU, hL, hx', kU⟩
theorem clever_wp {W n s : Nat} {zs : List Sp} {P : Nat → Int} (hW : S[W]? = some (.lst (zs.map wsV))) (hn : n ≤ 1000) (hs : s < n) (hz : ∀ z ∈ zs, z.1 < n ∧ z.2.1 < n) (hp : ∀ z ∈ zs, P z.2.1 ≤ P z.1 + z.2.2) (zl : zs.length ≤ 1000) :
    Wp (run_clever_ [.ref W, .int (n : Nat), .int (s : Nat)] S) fun v T => ∃ (M : Nat) (mo : Mo), v = .ref M ∧ S.length ≤ M ∧ T[M]? = some (.lst (mo.map moV)) ∧ Tb zs n s mo ∧ Kn S T := by
  refine AL.wf ?_; simp only [List.map_cons, List.map_nil, List.length_cons, List.length_nil, Nat.reduceAdd, Nat.reduceSub, List.replicate_succ, List.replicate_zero, List.cons_append, List.nil_append]; unfold run_clever_B; array_get_dec
  refine (only_wp hn).imp ?_
  rintro _ S1 ⟨M, rfl, eM, lM, gM, k1⟩
  array_get_dec
  refine (leaving_wp (k1.at hW) hn (fun z h => (hz z h).1) zl).imp ?_
  rintro _ S2 ⟨rfl, lS2, gL, gx, k2⟩
  generalize hB : S1.length = B at *
  array_get_dec
  intro S3 Q e_Q l_S3 g_Q k_S3
  array_get_dec
  refine ws_whileG (gRel_wf (fun y => P y - P s)) (fun g ρ T => ∃ (z6 z7 z8 : Option Val), ρ = [some (.ref W), some (.int (n : Nat)), some (.int (s : Nat)), some (.ref M), some (.ref (B + n)), some (.ref Q), z6, z7, z8] ∧ T[M]? = some (.lst (g.1.map moV)) ∧ T[Q]? = some (.lst (g.2.map natV)) ∧ Cl zs n s g.1 g.2 ∧ (∀ w ∈ zs, Sat g.1 w ∨ w.1 ∈ g.2) ∧ ∀ k o, k ≠ M → k ≠ Q → S3[k]? = some o → T[k]? = some o) (a := (oA n s, [s]))
    ⟨_, _, _, rfl, k_S3.at (k2.at gM), g_Q, ⟨oA_len n s, oA_allW n s, oA_st hs, by simp, fun x hx => by rw [List.mem_singleton] at hx; subst hx; exact ⟨hs, 0, by rw [oA_get, if_pos ⟨rfl, hs⟩]⟩⟩, fun w hw => ?_, fun _ _ _ _ h => h⟩ ?_
  · by_cases c : w.1 = s
    · exact .inr (by simp [c])
    · exact .inl fun a ha => by rw [oA_get, if_neg (fun z => c z.1)] at ha; cases ha
  rintro ⟨mo, q⟩ _ T ⟨z6, z7, z8, rfl, hM, hQ, cl, pd, kk⟩
  have hM : T[M]? = some (.lst (mo.map moV)) := hM
  have hQ : T[Q]? = some (.lst (q.map natV)) := hQ
  have cl : Cl zs n s mo q := cl
  have pd : ∀ w ∈ zs, Sat mo w ∨ w.1 ∈ q := pd
  cases q with
  | nil =>
    array_get_dec
    refine ⟨M, mo, rfl, by omega, hM, ⟨cl.len, cl.aw, cl.st, fun z hz => ?_⟩, fun i o h => ?_⟩
    · rcases pd z hz with h | h
      · exact h
      · cases h
    · have := lt_of_at h
      exact kk i o (by omega) (by omega) (k_S3.at (k2.at (k1.at h)))
  | cons x q =>
    obtain ⟨lx, ax0⟩ := cl.qi x (by simp)
    have ql : (x :: q).length ≤ n := nodup_len cl.nd (fun y hy => (cl.qi y hy).1)
    have qnd := (List.nodup_cons.mp cl.nd).2
    array_get_dec
    refine Br.of (fun _ => ?_) (fun c => absurd (of_decide_eq_false c) (by rw [List.length_map, List.length_cons]; omega))
    array_get_dec
    refine vPop rfl hQ (k := 0) rfl rfl (by rw [List.length_map]; omega) ?_
    intro T1 l_T1 g_T1 k_T1
    have g_T1 : T1[Q]? = some (.lst (q.map natV)) := g_T1
    array_get_dec
    have hL : T1[B + n]? = some (.lst ((List.range n).map fun i => Val.ref (B + i))) := k_T1.at (by omega) (kk _ _ (by omega) (by omega) (k_S3.at gL))
    have hx3 : S3[B + x]? = some (.lst ((lv zs x).map prV)) := k_S3.at (gx x lx)
    refine vIxL rfl rfl hL (at_nat (map_get (List.getElem?_range lx))) ?_
    refine .inr ⟨B + x, _, rfl, k_T1.at (by omega) (kk _ _ (by omega) (by omega) hx3), ?_⟩
    have lvl := lv_len zs x
    refine ws_loop (fun i ρ U => ∃ (mo1 : Mo) (q1 : List Nat) (z7 z8 : Option Val), ρ = [some (.ref W), some (.int (n : Nat)), some (.int (s : Nat)), some (.ref M), some (.ref (B + n)), some (.ref Q), some (.int (x : Nat)), z7, z8] ∧ U[M]? = some (.lst (mo1.map moV)) ∧ U[Q]? = some (.lst (q1.map natV)) ∧ Cl zs n s mo1 q1 ∧ (∃ a, mo1.getD x none = some a) ∧ (∀ w ∈ zs, Sat mo1 w ∨ w.1 ∈ q1 ∨ w ∈ (lv zs x).drop i) ∧ ((mo1 = mo ∧ q1 = q) ∨ Lt2 (fun y => P y - P s) mo1 mo) ∧ ∀ k o, k ≠ M → k ≠ Q → S3[k]? = some o → U[k]? = some o)
      ⟨mo, q, _, _, rfl, k_T1.at (by omega) hM, g_T1, ⟨cl.len, cl.aw, cl.st, qnd, fun y hy => cl.qi y (List.mem_cons_of_mem _ hy)⟩, ax0, fun w hw => ?_, .inl ⟨rfl, rfl⟩, fun k o n1 n2 h => k_T1.at n2 (kk k o n1 n2 h)⟩ (fun i ρ U _ z => by obtain ⟨_, _, _, _, _, _, _, _, _, _, _, z⟩ := z; exact z _ _ (by omega) (by omega) hx3) ?_ ?_
    · rcases pd w hw with h | h
      · exact .inl h
      · rcases List.mem_cons.mp h with h | h
        · exact .inr (.inr (by rw [List.drop_zero]; exact lv_mem.mpr ⟨hw, h⟩))
        · exact .inr (.inl h)
    · rintro i v ρ U hv ⟨mo1, q1, z7', z8', rfl, hM1, hQ1, cl1, ⟨a, ha⟩, pd1, lt1, kk1⟩
      rw [List.getElem?_map] at hv
      obtain ⟨z, hzz, rfl⟩ := Option.map_eq_some_iff.mp hv
      obtain ⟨zm, zx⟩ := lv_mem.mp (List.mem_of_getElem? hzz)
      have ly := (hz z zm).2
      have l1 := cl1.len
      have ql1 : q1.length ≤ n := nodup_len cl1.nd (fun y hy => (cl1.qi y hy).1)
      have dr : ∀ w, (w ∈ (lv zs x).drop i ∧ w ≠ z) → w ∈ (lv zs x).drop (i + 1) := by
        rintro w ⟨h1, h2⟩
        obtain ⟨hi, e⟩ := List.getElem?_eq_some_iff.mp hzz
        rw [List.drop_eq_getElem_cons hi, e] at h1
        rcases List.mem_cons.mp h1 with h1 | h1
        · exact absurd h1 h2
        · exact h1
      have ax := at_mo (mo := mo1) (i := x) (by omega)
      have ay := at_mo (mo := mo1) (i := z.2.1) (by omega)
      rw [ha] at ax
      have ha' : mo1.getD z.1 none = some a := by rw [zx]; exact ha
      have done : ∀ (q2 : List Nat) (V : Sto), q2 = (if z.2.1 ∈ q1 then q1 else q1 ++ [z.2.1]) → (∀ b, mo1.getD z.2.1 none = some b → a + z.2.2 < b) → V[M]? = some (.lst ((mo1.set z.2.1 (some (a + z.2.2))).map moV)) → V[Q]? = some (.lst (q2.map natV)) → (∀ k o, k ≠ M → k ≠ Q → S3[k]? = some o → V[k]? = some o) → ∃ (mo2 : Mo) (q2 : List Nat) (z7 z8 : Option Val), [some (.ref W), some (.int (n : Nat)), some (.int (s : Nat)), some (.ref M), some (.ref (B + n)), some (.ref Q), some (.int (x : Nat)), some (.int (z.2.1 : Nat)), some (.int z.2.2)] = [some (.ref W), some (.int (n : Nat)), some (.int (s : Nat)), some (.ref M), some (.ref (B + n)), some (.ref Q), some (.int (x : Nat)), z7, z8] ∧ V[M]? = some (.lst (mo2.map moV)) ∧ V[Q]? = some (.lst (q2.map natV)) ∧ Cl zs n s mo2 q2 ∧ (∃ a, mo2.getD x none = some a) ∧ (∀ w ∈ zs, Sat mo2 w ∨ w.1 ∈ q2 ∨ w ∈ (lv zs x).drop (i + 1)) ∧ ((mo2 = mo ∧ q2 = q) ∨ Lt2 (fun y => P y - P s) mo2 mo) ∧ ∀ k o, k ≠ M → k ≠ Q → S3[k]? = some o → V[k]? = some o := by
        intro q2 V eq hb hM2 hQ2 kV
        have cl2 := cl_up cl1 zm ha' ly hb eq
        have pw := pot_le hp (fun y e => by rw [e]; exact Int.le_refl (P s)) (cl2.aw z.2.1 (a + z.2.2) (by rw [get_set (by omega), if_pos rfl]))
        have lt2 : Lt2 (fun y => P y - P s) (mo1.set z.2.1 (some (a + z.2.2))) mo1 := set_lt2 (by omega) hb (by show P z.2.1 - P s ≤ _; omega)
        refine ⟨_, q2, _, _, rfl, hM2, hQ2, cl2, set_some (by omega) ha, fun w hw => ?_, .inr ?_, kV⟩
        · rcases pd_up (E := fun w => w ∈ (lv zs x).drop i) pd1 ha' (by omega) hb eq w hw with h | h | h
          · exact .inl h
          · exact .inr (.inl h)
          · exact .inr (.inr (dr w h))
        · rcases lt1 with ⟨rfl, _⟩ | lt1
          · exact lt2
          · exact lt2.trans lt1
      have rest : ∀ (V : Sto), (∀ b, mo1.getD z.2.1 none = some b → a + z.2.2 < b) → V[M]? = some (.lst ((mo1.map moV).set z.2.1 (.int (a + z.2.2)))) → Kx M U V → Ws (sIf (eT (eB (gIn true) (eV 7) (eV 5))) (sExpr (eMt isL gApp (eV 5) (aCons (eV 7) aNil))) sNil [some (.ref W), some (.int (n : Nat)), some (.int (s : Nat)), some (.ref M), some (.ref (B + n)), some (.ref Q), some (.int (x : Nat)), some (.int (z.2.1 : Nat)), some (.int z.2.2)] V) (fun ρ V => ∃ (mo2 : Mo) (q2 : List Nat) (z7 z8 : Option Val), ρ = [some (.ref W), some (.int (n : Nat)), some (.int (s : Nat)), some (.ref M), some (.ref (B + n)), some (.ref Q), some (.int (x : Nat)), z7, z8] ∧ V[M]? = some (.lst (mo2.map moV)) ∧ V[Q]? = some (.lst (q2.map natV)) ∧ Cl zs n s mo2 q2 ∧ (∃ a, mo2.getD x none = some a) ∧ (∀ w ∈ zs, Sat mo2 w ∨ w.1 ∈ q2 ∨ w ∈ (lv zs x).drop (i + 1)) ∧ ((mo2 = mo ∧ q2 = q) ∨ Lt2 (fun y => P y - P s) mo2 mo) ∧ ∀ k o, k ≠ M → k ≠ Q → S3[k]? = some o → V[k]? = some o) (fun v T => ∃ (M : Nat) (mo : Mo), v = .ref M ∧ S.length ≤ M ∧ T[M]? = some (.lst (mo.map moV)) ∧ Tb zs n s mo ∧ Kn S T) := by
        intro V hb hMV kV
        rw [mo_set] at hMV
        have hQV := kV.at (by omega) hQ1
        array_get_dec
        refine vInN2 rfl rfl hQV ?_
        refine tb rfl (Br.of (fun c => ?_) (fun c => ?_))
        · have c : ¬ z.2.1 ∈ q1 := by simpa using c
          array_get_dec
          refine vApp rfl hQV ?_ (small (by rw [List.length_map]; omega))
          intro V1 l_V1 g_V1 k_V1
          array_get_dec
          exact done (q1 ++ [z.2.1]) V1 (by rw [if_neg c]) hb (k_V1.at (by omega) hMV) (by rw [List.map_append]; exact g_V1) (fun k o n1 n2 h => k_V1.at n2 (kV.at n1 (kk1 k o n1 n2 h)))
        · have c : z.2.1 ∈ q1 := by simpa using c
          array_get_dec
          exact done q1 V (by rw [if_pos c]) hb hMV hQV (fun k o n1 n2 h => kV.at n1 (kk1 k o n1 n2 h))
      refine bn rfl ?_
      array_get_dec
      refine vIxL rfl rfl hM1 ay ?_
      cases hy : mo1.getD z.2.1 none with
      | none =>
        array_get_dec
        refine vIxL rfl rfl hM1 ax ?_
        array_get_dec
        refine vPutL hM1 (j := z.2.1) (by rw [List.length_map, l1]; exact ixN_nat ly) ?_
        intro V l_V g_V k_V
        exact rest V (fun b hb => by rw [hy] at hb; cases hb) g_V k_V
      | some b =>
        rw [hy] at ay
        array_get_dec
        refine vIxL rfl rfl hM1 ax ?_
        array_get_dec
        refine vIxL rfl rfl hM1 ay ?_
        array_get_dec
        refine Br.of (fun c => ?_) (fun c => ?_)
        · have c : a + z.2.2 < b := of_decide_eq_true c
          array_get_dec
          refine vIxL rfl rfl hM1 ax ?_
          array_get_dec
          refine vPutL hM1 (j := z.2.1) (by rw [List.length_map, l1]; exact ixN_nat ly) ?_
          intro V l_V g_V k_V
          exact rest V (fun b' hb => by rw [hy] at hb; cases hb; exact c) g_V k_V
        · have c : ¬ a + z.2.2 < b := of_decide_eq_false c
          array_get_dec
          refine ⟨mo1, q1, _, _, rfl, hM1, hQ1, cl1, ⟨a, ha⟩, fun w hw => ?_, lt1, kk1⟩
          rcases pd_no (E := fun w => w ∈ (lv zs x).drop i) pd1 (z := z) (fun a' h => by rw [ha'] at h; cases h; exact ⟨b, hy, by omega⟩) w hw with h | h | h
          · exact .inl h
          · exact .inr (.inl h)
          · exact .inr (.inr (dr w h))
    · rintro ρ U ⟨mo1, q1, z7', z8', rfl, hM1, hQ1, cl1, _, pd1, lt1, kk1⟩
      refine ⟨(mo1, q1), ⟨_, _, _, rfl, hM1, hQ1, cl1, fun w hw => ?_, kk1⟩, ?_⟩
      · rcases pd1 w hw with h | h | h
        · exact .inl h
        · exact .inr h
        · rw [List.length_map, List.drop_length] at h
          cases h
      · rcases lt1 with ⟨rfl, rfl⟩ | lt1
        · exact gRel_q (by simp)
        · exact gRel_lt lt1
end
end K24
namespace K24
open PySem PySem.Spec PyProof.Rows L2 G Th AL K37 KL Fr
open K19 (F9 H9 Tr9 stA stR stM toV wsV row_mem history_wp)
section
variable {zs : List Sp} {I : Nat → Prop}

theorem Tb.self {P : Nat → Int} {n s : Nat} {mo : Mo} (t : Tb zs n s mo) (hp : ∀ z ∈ zs, P z.2.1 ≤ P z.1 + z.2.2) : mo.getD s none = some 0 := by
  obtain ⟨b, h1, h2⟩ := t.st s rfl
  have := pot_le hp (m := P s) (fun x e => by rw [e]; exact Int.le_refl _) (t.aw s b h1)
  rw [h1]
  congr 1
  omega
theorem Tb.least {n s : Nat} {mo : Mo} (t : Tb zs n s mo) {y : Nat} {v : Int} (w : Wk zs (· = s) y v) : ∃ b, mo.getD y none = some b ∧ b ≤ v := sat_least t.sat t.st w
end
section
variable {ws : List Sp} {u k : Nat}
theorem whl_k (uk : u * k = 120) (u0 : 0 < u) {w : Sp} (h : (whl u w).2.2 * 120 = w.2.2 * (u : Int)) : (whl u w).2.2 * (k : Int) = w.2.2 := by
  have e : (120 : Int) = (u : Int) * (k : Int) := by rw [← Int.natCast_mul, uk]; rfl
  rw [e, Int.mul_comm (u : Int) k, ← Int.mul_assoc] at h
  exact Int.eq_of_mul_eq_mul_right (by omega) h
theorem wk_scale (uk : u * k = 120) (u0 : 0 < u) (hu : ∀ w ∈ ws, (whl u w).2.2 * 120 = w.2.2 * (u : Int)) {I : Nat → Prop} {y : Nat} {v : Int} (w : Wk (ws.map (whl u)) I y v) : Wk ws I y (v * k) := by
  induction w with
  | start h => rw [Int.zero_mul]; exact .start h
  | @step z v _ hz ih =>
    obtain ⟨w, hw, rfl⟩ := List.mem_map.mp hz
    rw [Int.add_mul, whl_k uk u0 (hu w hw)]
    exact Wk.step (z := w) ih hw
theorem get_sc {mo : Mo} {y : Nat} {k : Int} : (mo.map (Option.map (· * k))).getD y none = (mo.getD y none).map (· * k) := by
  simp only [List.getD, List.getElem?_map]
  cases mo[y]? <;> rfl
theorem Tb.scale {n s : Nat} {mo : Mo} (uk : u * k = 120) (u0 : 0 < u) (hu : ∀ w ∈ ws, (whl u w).2.2 * 120 = w.2.2 * (u : Int)) (t : Tb (ws.map (whl u)) n s mo) : Tb ws n s (mo.map (Option.map (· * (k : Int)))) := by
  refine ⟨by rw [List.length_map]; exact t.len, fun y v h => ?_, fun x e => ?_, fun w hw a ha => ?_⟩
  · rw [get_sc] at h
    obtain ⟨c, h1, rfl⟩ := Option.map_eq_some_iff.mp h
    exact wk_scale uk u0 hu (t.aw y c h1)
  · obtain ⟨b, h1, h2⟩ := t.st x e
    refine ⟨b * k, by rw [get_sc, h1]; rfl, ?_⟩
    exact Int.mul_nonpos_of_nonpos_of_nonneg h2 (Int.natCast_nonneg k)
  · rw [get_sc] at ha
    obtain ⟨c, h1, rfl⟩ := Option.map_eq_some_iff.mp ha
    obtain ⟨b, h2, h3⟩ := t.sat _ (List.mem_map_of_mem hw) c h1
    refine ⟨b * k, ?_, ?_⟩
    · rw [get_sc]
      have h2 : mo.getD w.2.1 none = some b := h2
      rw [h2]
      rfl
    · have := Int.mul_le_mul_of_nonneg_right h3 (Int.natCast_nonneg k)
      rw [Int.add_mul, whl_k uk u0 (hu w hw)] at this
      exact this
theorem paV_sc (uk : u * k = 120) (u0 : 0 < u) (o : Option Int) : paV u o = paV 120 (o.map (· * (k : Int))) := by
  cases o with
  | none => rfl
  | some a =>
    show frV (Fr.mk a u) = frV (Fr.mk (a * k) 120)
    rw [Fr.mk_eq (a := a) (b := (u : Int)) (c := a * k) (d := 120) (by omega) (by decide)]
    have e : (120 : Int) = (u : Int) * (k : Int) := by rw [← Int.natCast_mul, uk]; rfl
    rw [e, Int.mul_assoc, Int.mul_comm (u : Int) k]
theorem par_sc (uk : u * k = 120) (u0 : 0 < u) (mo : Mo) : mo.map (paV u) = (mo.map (Option.map (· * (k : Int)))).map (paV 120) := by
  rw [List.map_map]
  exact List.map_congr_left fun o _ => paV_sc uk u0 o
end
section
variable {fl : Fl} {es : List Ev} {ts : List Int} {S : Sto} {ws : List Sp} {x : Nat}

theorem step_small (fo : F9 20 fl) (hv : H9 950 fl es) (hw : ws.map toV = stA fl es es.length) : ∀ w ∈ ws, w.2.2.natAbs ≤ 120 * 2 ^ 26 := by
  intro w hm
  have ok := step_ok fo hv hw w hm
  have c := Fr.mk_cross (a := w.2.2) (b := 120) (by decide)
  have p := ok.pos
  have b := ok.b1
  have e : (Fr.mk w.2.2 120).1.natAbs * 120 = w.2.2.natAbs * (Fr.mk w.2.2 120).2.natAbs := by rw [← Int.natAbs_mul, ← c, Int.natAbs_mul]; rfl
  have l : w.2.2.natAbs * 1 ≤ w.2.2.natAbs * (Fr.mk w.2.2 120).2.natAbs := Nat.mul_le_mul_left _ (by omega)
  omega
end
end K24
namespace K24
open PySem PySem.Spec PyProof.Rows L2 G Th AL K37 KL Fr
open K19 (F9 H9 Tr9 StB stA stR stM toV wsV row_mem)
section
variable {fl : Fl} {es : List Ev} {ts : List Int} {m : Nat}
theorem take_last {n} : ∀ {i : Nat}, i ≤ m → lastAt (es.take m) i n = lastAt es i n
  | 0, _ => rfl
  | i + 1, h => by
    unfold lastAt
    rw [take_getD (by omega), take_last (by omega)]
theorem take_row (hv : H9 950 fl es) {i : Nat} (hi : i < m) (hl : i < es.length) : row fl (es.take m) i = row fl es i := by
  unfold row movesInto
  rw [take_getD hi, take_last (Nat.le_of_lt hi)]
  congr 1
  · unfold mv1
    split
    · next j h hj hh =>
      have := lastAt_lt hj
      rw [take_getD (by omega)]
    · rfl
  · cases hd : (es.getD i dEv).deed with
    | mark => rfl
    | send l => rfl
    | hear k =>
      have := (hv.ev i hl).hear k hd
      have e : linkAt fl (es.take m) k = linkAt fl es k := by
        unfold linkAt
        rw [take_getD (by omega)]
      show (match linkAt fl (es.take m) k with | some l => [(⟨k, l.least, l.most⟩ : Mv)] | none => []) = (match linkAt fl es k with | some l => [(⟨k, l.least, l.most⟩ : Mv)] | none => [])
      rw [e]
theorem take_stA (hv : H9 950 fl es) : ∀ {i : Nat}, i ≤ m → i ≤ es.length → stA fl (es.take m) i = stA fl es i
  | 0, _, _ => rfl
  | i + 1, h, h' => by
    show stA fl (es.take m) i ++ stR fl (es.take m) i = stA fl es i ++ stR fl es i
    rw [take_stA hv (by omega) (by omega)]
    unfold K19.stR
    rw [take_row hv (by omega) (by omega)]
theorem stA_up {i : Nat} : ∀ {j : Nat}, i ≤ j → ∀ v ∈ stA fl es i, v ∈ stA fl es j
  | 0, h, v, hv => by have : i = 0 := by omega
                      subst this; exact hv
  | j + 1, h, v, hv => by
    rcases Nat.lt_or_ge i (j + 1) with c | c
    · exact List.mem_append_left _ (stA_up (by omega) v hv)
    · have : i = j + 1 := by omega
      subst this
      exact hv
theorem mk120_inj {a b : Int} (h : Fr.mk a 120 = Fr.mk b 120) : a = b := by
  have h1 := q_mk (a := a) (b := 120) (by decide)
  have h2 := q_mk (a := b) (b := 120) (by decide)
  rw [h, h2] at h1
  have e : ((120 : Int) : Rat) = 120 := rfl
  rw [e] at h1
  have : (a : Rat) = (b : Rat) := by grind
  exact Rat.intCast_inj.mp this
theorem toV_inj {a b : Sp} (h : toV a = toV b) : a = b := by
  obtain ⟨h1, h2, h3⟩ := to_inj (w := a) (x := b.1) (y := b.2.1) (f := Fr.mk b.2.2 120) h
  exact Prod.ext h1 (Prod.ext h2 (mk120_inj h3))
theorem ws_sub (hv : H9 950 fl es) (hm : m ≤ es.length) {ws ws' : List Sp} (hw : ws.map toV = stA fl es es.length) (hw' : ws'.map toV = stA fl (es.take m) (es.take m).length) : ∀ z ∈ ws', z ∈ ws := by
  intro z hz
  have l : (es.take m).length = m := by rw [List.length_take]; omega
  rw [l, take_stA hv (Nat.le_refl _) hm] at hw'
  have : toV z ∈ stA fl es es.length := stA_up hm _ (by rw [← hw']; exact List.mem_map_of_mem hz)
  rw [← hw] at this
  obtain ⟨y, hy, e⟩ := List.mem_map.mp this
  rw [← toV_inj e]
  exact hy
end
section
variable {S : Sto}
theorem mk120_le {c v : Int} (h : c ≤ v) : ¬ (Fr.mk v 120).1 * (Fr.mk c 120).2 < (Fr.mk c 120).1 * (Fr.mk v 120).2 := by
  intro z
  have := (q_lt (Fr.mk_pos (by decide)) (Fr.mk_pos (by decide))).mp z
  rw [q_mk (by decide), q_mk (by decide)] at this
  have e : ((120 : Int) : Rat) = 120 := rfl
  rw [e] at this
  have : (c : Rat) ≤ v := Rat.intCast_le_intCast.mpr h
  grind
theorem add120 (a b : Int) : Fr.add (Fr.mk a 120) (Fr.mk b 120) = Fr.mk (a + b) 120 := by
  have h1 : Fr.Is (Fr.mk a 120) a 120 := ⟨rfl, by decide⟩
  have h2 : Fr.Is (Fr.mk b 120) b 120 := ⟨rfl, by decide⟩
  have h3 : Fr.Is (Fr.mk (a + b) 120) (a + b) 120 := ⟨rfl, by decide⟩
  refine (h1.add h2).same h3 ?_
  omega
end
end K24
namespace K26
open K24

structure Sg where
  mo : List Int
  cb : List (Option Nat)
  lr : List Nat
section
variable {zs : List K24.Sp}
def nz (zs : List K24.Sp) (j : Nat) : K24.Sp := zs.getD j (0, 0, 0)

def Ge (zs : List K24.Sp) (mo : List Int) (v j : Nat) : Prop := mo.getD (nz zs j).1 0 + (nz zs j).2.2 ≤ mo.getD v 0
def Gt (zs : List K24.Sp) (mo : List Int) (v j : Nat) : Prop := mo.getD (nz zs j).1 0 + (nz zs j).2.2 < mo.getD v 0

def pr (zs : List K24.Sp) (cb : List (Option Nat)) (v : Nat) : Option Nat := (cb.getD v none).map fun j => (nz zs j).1

def bk (zs : List K24.Sp) (cb : List (Option Nat)) : Nat → Nat → Option Nat
  | 0, v => some v
  | k + 1, v => (bk zs cb k v).bind (pr zs cb)

structure Ok6 (zs : List K24.Sp) (n r i : Nat) (g : Sg) : Prop where
  lm : g.mo.length = n
  lc : g.cb.length = n
  ll : g.lr.length = n
  up : ∀ v, g.lr.getD v 0 ≤ r
  no : ∀ v, g.cb.getD v none = none → g.lr.getD v 0 = 0
  at_ : ∀ v j, g.cb.getD v none = some j → j < zs.length ∧ (nz zs j).2.1 = v ∧ Ge zs g.mo v j ∧ g.lr.getD v 0 ≤ g.lr.getD (nz zs j).1 0 + 1
  sat : ∀ e, e < zs.length → (e < i → g.lr.getD (nz zs e).1 0 < r → g.mo.getD (nz zs e).2.1 0 ≤ g.mo.getD (nz zs e).1 0 + (nz zs e).2.2) ∧ (i ≤ e → g.lr.getD (nz zs e).1 0 + 2 ≤ r → g.mo.getD (nz zs e).2.1 0 ≤ g.mo.getD (nz zs e).1 0 + (nz zs e).2.2)
  cyc : ∀ k v, 0 < k → bk zs g.cb k v = some v → ∃ i x j, i < k ∧ bk zs g.cb i v = some x ∧ g.cb.getD x none = some j ∧ Gt zs g.mo x j
theorem bk_succ {cb : List (Option Nat)} {k v w : Nat} : bk zs cb (k + 1) v = some w ↔ ∃ u, bk zs cb k v = some u ∧ pr zs cb u = some w := by
  show (bk zs cb k v).bind (pr zs cb) = some w ↔ _
  exact Option.bind_eq_some_iff
theorem bk_lt {cb : List (Option Nat)} {v : Nat} : ∀ {k i : Nat}, i ≤ k → ∀ {w}, bk zs cb k v = some w → ∃ u, bk zs cb i v = some u
  | 0, i, h, w, e => by have : i = 0 := by omega
                        subst this; exact ⟨v, rfl⟩
  | k + 1, i, h, w, e => by
    obtain ⟨u, h1, h2⟩ := bk_succ.mp e
    rcases Nat.lt_or_ge i (k + 1) with c | c
    · exact bk_lt (by omega) h1
    · have : i = k + 1 := by omega
      subst this
      exact ⟨w, e⟩
theorem getI_set {mo : List Int} {i j : Nat} {a : Int} (h : i < mo.length) : (mo.set i a).getD j 0 = if j = i then a else mo.getD j 0 := by
  simp only [List.getD, List.getElem?_set]
  by_cases c : j = i
  · subst c
    simp [h]
  · rw [if_neg (fun z => c z.symm), if_neg c]
theorem getN_set {mo : List Nat} {i j : Nat} {a : Nat} (h : i < mo.length) : (mo.set i a).getD j 0 = if j = i then a else mo.getD j 0 := by
  simp only [List.getD, List.getElem?_set]
  by_cases c : j = i
  · subst c
    simp [h]
  · rw [if_neg (fun z => c z.symm), if_neg c]
theorem getO_set {mo : List (Option Nat)} {i j : Nat} {a : Option Nat} (h : i < mo.length) : (mo.set i a).getD j none = if j = i then a else mo.getD j none := by
  simp only [List.getD, List.getElem?_set]
  by_cases c : j = i
  · subst c
    simp [h]
  · rw [if_neg (fun z => c z.symm), if_neg c]

def Sg.put (g : Sg) (r i : Nat) (z : K24.Sp) : Sg := ⟨g.mo.set z.2.1 (g.mo.getD z.1 0 + z.2.2), g.cb.set z.2.1 (some i), g.lr.set z.2.1 r⟩
theorem Ok6.keep {n r i : Nat} {g : Sg} (h : Ok6 zs n r i g) (hs : g.mo.getD (nz zs i).2.1 0 ≤ g.mo.getD (nz zs i).1 0 + (nz zs i).2.2) : Ok6 zs n r (i + 1) g := by
  refine ⟨h.lm, h.lc, h.ll, h.up, h.no, h.at_, fun e he => ⟨fun l1 l2 => ?_, fun l1 l2 => (h.sat e he).2 (by omega) l2⟩, h.cyc⟩
  rcases Nat.lt_or_ge e i with c | c
  · exact (h.sat e he).1 c l2
  · have : e = i := by omega
    subst this
    exact hs
theorem Ok6.put {n r i : Nat} {g : Sg} (h : Ok6 zs n r i g) (hi : i < zs.length) (r0 : 0 < r) (hz : ∀ e, e < zs.length → (nz zs e).1 < n ∧ (nz zs e).2.1 < n) (hs : g.mo.getD (nz zs i).1 0 + (nz zs i).2.2 < g.mo.getD (nz zs i).2.1 0) : Ok6 zs n r (i + 1) (g.put r i (nz zs i)) := by
  obtain ⟨hu, hv⟩ := hz i hi
  have lm := h.lm
  have lc := h.lc
  have ll := h.ll
  have gm : ∀ x, (g.put r i (nz zs i)).mo.getD x 0 = if x = (nz zs i).2.1 then g.mo.getD (nz zs i).1 0 + (nz zs i).2.2 else g.mo.getD x 0 := fun x => getI_set (by omega)
  have gc : ∀ x, (g.put r i (nz zs i)).cb.getD x none = if x = (nz zs i).2.1 then some i else g.cb.getD x none := fun x => getO_set (by omega)
  have gl : ∀ x, (g.put r i (nz zs i)).lr.getD x 0 = if x = (nz zs i).2.1 then r else g.lr.getD x 0 := fun x => getN_set (by omega)
  have lo : ∀ x, (g.put r i (nz zs i)).mo.getD x 0 ≤ g.mo.getD x 0 := fun x => by
    rw [gm]
    split
    · next e => rw [e]; omega
    · exact Int.le_refl _
  have hl : ∀ x, g.lr.getD x 0 ≤ (g.put r i (nz zs i)).lr.getD x 0 := fun x => by
    rw [gl]
    split
    · exact h.up x
    · exact Nat.le_refl _
  have lu : r ≤ g.lr.getD (nz zs i).1 0 + 1 := by
    rcases Nat.lt_or_ge (g.lr.getD (nz zs i).1 0 + 1) r with c | c
    · have := (h.sat i hi).2 (Nat.le_refl _) (by omega)
      omega
    · exact c
  generalize hv0 : (nz zs i).2.1 = v0 at *
  generalize hu0 : (nz zs i).1 = u0 at *
  generalize hw0 : (nz zs i).2.2 = w0 at *
  -- the changed step, and those that come from the changed sum
  have self : v0 = u0 → Gt zs (g.put r i (nz zs i)).mo v0 i := fun e => by
    unfold Gt
    rw [hu0, hw0, gm, gm, if_pos e.symm, if_pos rfl]
    rw [e] at hs
    omega
  have from_ : ∀ x j, x ≠ v0 → g.cb.getD x none = some j → (nz zs j).1 = v0 → Gt zs (g.put r i (nz zs i)).mo x j := fun x j nx e1 e2 => by
    have := (h.at_ x j e1).2.2.1
    unfold Ge at this
    unfold Gt
    rw [gm, gm, if_pos e2, if_neg nx]
    rw [e2] at this
    omega
  refine ⟨by show (g.mo.set _ _).length = n; rw [List.length_set]; exact lm, by show (g.cb.set _ _).length = n; rw [List.length_set]; exact lc, by show (g.lr.set _ _).length = n; rw [List.length_set]; exact ll, fun v => ?_, fun v e => ?_, fun v j e => ?_, fun e he => ⟨fun l1 l2 => ?_, fun l1 l2 => ?_⟩, fun k v k0 e => ?_⟩
  · rw [gl]
    split
    · exact Nat.le_refl _
    · exact h.up v
  · rw [gc] at e
    rw [gl]
    split at e
    · cases e
    · next c => rw [if_neg c]; exact h.no v e
  · rw [gc] at e
    split at e
    · next c =>
      cases e
      subst c
      refine ⟨hi, hv0, ?_, ?_⟩
      · unfold Ge
        rw [hu0, hw0]
        have := lo u0
        rw [gm v, if_pos rfl]
        omega
      · rw [hu0, gl v, if_pos rfl]
        have := hl u0
        omega
    · next c =>
      obtain ⟨a1, a2, a3, a4⟩ := h.at_ v j e
      refine ⟨a1, a2, ?_, ?_⟩
      · unfold Ge at a3 ⊢
        have := lo (nz zs j).1
        rw [gm v, if_neg c]
        omega
      · have := hl (nz zs j).1
        rw [gl v, if_neg c]
        omega
  · have nu : (nz zs e).1 ≠ v0 := fun z => by rw [gl, if_pos z] at l2; omega
    rw [gl, if_neg nu] at l2
    rw [gm (nz zs e).1, if_neg nu]
    rcases Nat.lt_or_ge e i with c | c
    · have := (h.sat e he).1 c l2
      have := lo (nz zs e).2.1
      omega
    · have : e = i := by omega
      subst this
      rw [hv0, hu0, hw0, gm, if_pos rfl]
      exact Int.le_refl _
  · have nu : (nz zs e).1 ≠ v0 := fun z => by rw [gl, if_pos z] at l2; omega
    rw [gl, if_neg nu] at l2
    rw [gm (nz zs e).1, if_neg nu]
    have := (h.sat e he).2 (by omega) l2
    have := lo (nz zs e).2.1
    omega
  · by_cases c : ∃ i', i' < k ∧ bk zs (g.put r i (nz zs i)).cb i' v = some v0
    · -- the one ahead of it
      have prev : ∃ i' x, i' < k ∧ bk zs (g.put r i (nz zs i)).cb i' v = some x ∧ pr zs (g.put r i (nz zs i)).cb x = some v0 := by
        obtain ⟨i', l, e'⟩ := c
        cases i' with
        | zero =>
          have : v = v0 := by simpa [bk] using e'
          subst this
          cases k with
          | zero => omega
          | succ k =>
            obtain ⟨x, e1, e2⟩ := bk_succ.mp e
            exact ⟨k, x, by omega, e1, e2⟩
        | succ i' =>
          obtain ⟨x, e1, e2⟩ := bk_succ.mp e'
          exact ⟨i', x, by omega, e1, e2⟩
      obtain ⟨i', x, l, e1, e2⟩ := prev
      unfold pr at e2
      obtain ⟨j, e3, e4⟩ := Option.map_eq_some_iff.mp e2
      refine ⟨i', x, j, l, e1, e3, ?_⟩
      rw [gc] at e3
      split at e3
      · next cx =>
        cases e3
        rw [cx]
        exact self (by rw [← e4, hu0])
      · next cx => exact from_ x j cx e3 e4
    · have off : ∀ i', i' < k → ∀ x, bk zs (g.put r i (nz zs i)).cb i' v = some x → x ≠ v0 := fun i' l x e' z => c ⟨i', l, by rw [e', z]⟩
      have same : ∀ i', i' ≤ k → bk zs g.cb i' v = bk zs (g.put r i (nz zs i)).cb i' v := by
        intro i'
        induction i' with
        | zero => intro _; rfl
        | succ i' ih =>
          intro l
          unfold bk
          rw [ih (by omega)]
          cases hb : bk zs (g.put r i (nz zs i)).cb i' v with
          | none => rfl
          | some x =>
            show pr zs g.cb x = pr zs (g.put r i (nz zs i)).cb x
            unfold pr
            rw [gc, if_neg (off i' (by omega) x hb)]
      obtain ⟨i', x, j, l, e1, e2, e3⟩ := h.cyc k v k0 (by rw [same k (Nat.le_refl _)]; exact e)
      have nx := off i' l x (by rw [← same i' (by omega)]; exact e1)
      refine ⟨i', x, j, l, by rw [← same i' (by omega)]; exact e1, by rw [gc, if_neg nx]; exact e2, ?_⟩
      have nj : (nz zs j).1 ≠ v0 := by
        have pj : pr zs g.cb x = some (nz zs j).1 := by unfold pr; rw [e2]; rfl
        have bj : bk zs g.cb (i' + 1) v = some (nz zs j).1 := bk_succ.mpr ⟨x, e1, pj⟩
        rcases Nat.lt_or_ge (i' + 1) k with c2 | c2
        · exact off (i' + 1) c2 _ (by rw [← same (i' + 1) (by omega)]; exact bj)
        · have : i' + 1 = k := by omega
          rw [this, same k (Nat.le_refl _), e] at bj
          cases bj
          exact off 0 k0 _ rfl
      unfold Gt at e3 ⊢
      rw [gm, gm, if_neg nj, if_neg nx]
      exact e3
end
end K26
namespace K26
open K24
section
variable {zs : List K24.Sp} {cb : List (Option Nat)}
theorem bk_add : ∀ (a b v : Nat), bk zs cb (a + b) v = (bk zs cb a v).bind (bk zs cb b)
  | a, 0, v => by cases h : bk zs cb a v <;> simp [bk, h]
  | a, b + 1, v => by
    show (bk zs cb (a + b) v).bind (pr zs cb) = _
    rw [bk_add a b v]
    cases bk zs cb a v with
    | none => rfl
    | some x => rfl

theorem holes : ∀ (n : Nat) (p : Nat → Nat), (∀ i, i ≤ n → p i < n) → ∃ i j, i < j ∧ j ≤ n ∧ p i = p j
  | 0, p, h => absurd (h 0 (Nat.le_refl _)) (Nat.not_lt_zero _)
  | n + 1, p, h => by
    by_cases c : ∃ i, i < n + 1 ∧ p i = p (n + 1)
    · obtain ⟨i, l, e⟩ := c
      exact ⟨i, n + 1, l, Nat.le_refl _, e⟩
    · -- none meets the last: leave it out
      let q : Nat → Nat := fun i => if p i < p (n + 1) then p i else p i - 1
      obtain ⟨i, j, l1, l2, e⟩ := holes n q (fun i hi => by
        have h1 := h i (by omega)
        have h2 := h (n + 1) (Nat.le_refl _)
        have h3 : p i ≠ p (n + 1) := fun z => c ⟨i, by omega, z⟩
        show (if p i < p (n + 1) then p i else p i - 1) < n
        split <;> omega)
      refine ⟨i, j, l1, by omega, ?_⟩
      have h3 : p i ≠ p (n + 1) := fun z => c ⟨i, by omega, z⟩
      have h4 : p j ≠ p (n + 1) := fun z => c ⟨j, by omega, z⟩
      have e : (if p i < p (n + 1) then p i else p i - 1) = (if p j < p (n + 1) then p j else p j - 1) := e
      split at e <;> split at e <;> omega
variable {n r : Nat} {g : Sg}
theorem chain (h : Ok6 zs n r zs.length g) (hz : ∀ e, e < zs.length → (nz zs e).1 < n ∧ (nz zs e).2.1 < n) {y : Nat} (hy : y < n) (ly : n < g.lr.getD y 0) : ∀ i, i ≤ n → ∃ x, bk zs g.cb i y = some x ∧ x < n ∧ g.lr.getD y 0 ≤ g.lr.getD x 0 + i
  | 0, _ => ⟨y, rfl, hy, Nat.le_refl _⟩
  | i + 1, hi => by
    obtain ⟨x, e, lx, lr⟩ := chain h hz hy ly i (by omega)
    cases hc : g.cb.getD x none with
    | none => have := h.no x hc; omega
    | some j =>
      obtain ⟨a1, a2, a3, a4⟩ := h.at_ x j hc
      exact ⟨(nz zs j).1, bk_succ.mpr ⟨x, e, by unfold pr; rw [hc]; rfl⟩, (hz j a1).1, by omega⟩

theorem on_ring (h : Ok6 zs n r zs.length g) (hz : ∀ e, e < zs.length → (nz zs e).1 < n ∧ (nz zs e).2.1 < n) {y : Nat} (hy : y < n) (ly : n < g.lr.getD y 0) : ∃ x c, bk zs g.cb n y = some x ∧ 0 < c ∧ c ≤ n ∧ bk zs g.cb c x = some x := by
  have ch := chain h hz hy ly
  obtain ⟨i, j, l1, l2, e⟩ := holes n (fun i => ((bk zs g.cb i y).getD 0)) (fun i hi => by
    obtain ⟨x, e, lx, _⟩ := ch i hi
    show (bk zs g.cb i y).getD 0 < n
    rw [e]
    exact lx)
  obtain ⟨xi, ei, _⟩ := ch i (by omega)
  obtain ⟨xj, ej, _⟩ := ch j l2
  obtain ⟨x, ex, _⟩ := ch n (Nat.le_refl _)
  have e : (bk zs g.cb i y).getD 0 = (bk zs g.cb j y).getD 0 := e
  rw [ei, ej] at e
  have e : xi = xj := e
  subst e
  refine ⟨x, j - i, ex, by omega, by omega, ?_⟩
  have h1 := bk_add (zs := zs) (cb := g.cb) n (j - i) y
  rw [ex] at h1
  have h1 : bk zs g.cb (n + (j - i)) y = bk zs g.cb (j - i) x := h1
  have h2 := bk_add (zs := zs) (cb := g.cb) j (n - i) y
  have h3 := bk_add (zs := zs) (cb := g.cb) i (n - i) y
  rw [ej] at h2
  rw [ei] at h3
  rw [← h1, show n + (j - i) = j + (n - i) by omega, h2, ← h3, show i + (n - i) = n by omega, ex]

theorem least_c {c x : Nat} (c0 : 0 < c) (h : bk zs cb c x = some x) : ∃ c', 0 < c' ∧ c' ≤ c ∧ bk zs cb c' x = some x ∧ ∀ k, 0 < k → k < c' → bk zs cb k x ≠ some x := by
  induction c using Nat.strongRecOn with
  | _ c ih =>
    by_cases z : ∃ k, 0 < k ∧ k < c ∧ bk zs cb k x = some x
    · obtain ⟨k, k0, kc, e⟩ := z
      obtain ⟨c', a1, a2, a3⟩ := ih k kc k0 e
      exact ⟨c', a1, by omega, a3⟩
    · exact ⟨c, c0, Nat.le_refl _, h, fun k k0 kc e => z ⟨k, k0, kc, e⟩⟩

def sb (zs : List K24.Sp) (cb : List (Option Nat)) (x : Nat) : Nat → Int
  | 0 => 0
  | k + 1 => sb zs cb x k + (match (bk zs cb k x).bind (fun v => cb.getD v none) with | some j => (nz zs j).2.2 | none => 0)
theorem sb_le (h : Ok6 zs n r zs.length g) {x : Nat} : ∀ {k w : Nat}, bk zs g.cb k x = some w → sb zs g.cb x k + g.mo.getD w 0 ≤ g.mo.getD x 0 ∧ ((∃ i v j, i < k ∧ bk zs g.cb i x = some v ∧ g.cb.getD v none = some j ∧ Gt zs g.mo v j) → sb zs g.cb x k + g.mo.getD w 0 < g.mo.getD x 0)
  | 0, w, e => by
    have : x = w := by simpa [bk] using e
    subst this
    exact ⟨by simp [sb], fun ⟨i, _, _, l, _⟩ => by omega⟩
  | k + 1, w, e => by
    obtain ⟨u, e1, e2⟩ := bk_succ.mp e
    obtain ⟨h1, h2⟩ := sb_le h e1
    unfold pr at e2
    obtain ⟨j, e3, e4⟩ := Option.map_eq_some_iff.mp e2
    have a3 := (h.at_ u j e3).2.2.1
    unfold Ge at a3
    rw [e4] at a3
    have es : sb zs g.cb x (k + 1) = sb zs g.cb x k + (nz zs j).2.2 := by
      show sb zs g.cb x k + _ = _
      rw [e1]
      simp only [Option.bind_some, e3]
    rw [es]
    refine ⟨by omega, fun ⟨i, v, j', l, b1, b2, b3⟩ => ?_⟩
    rcases Nat.lt_or_ge i k with c | c
    · have := h2 ⟨i, v, j', c, b1, b2, b3⟩
      omega
    · have : i = k := by omega
      subst this
      rw [e1] at b1
      cases b1
      rw [e3] at b2
      cases b2
      unfold Gt at b3
      rw [e4] at b3
      omega

theorem ring_neg (h : Ok6 zs n r zs.length g) {x c : Nat} (c0 : 0 < c) (e : bk zs g.cb c x = some x) : sb zs g.cb x c < 0 := by
  have := (sb_le h e).2 (h.cyc c x c0 e)
  omega

theorem Ok6.next (h : Ok6 zs n r zs.length g) : Ok6 zs n (r + 1) 0 g :=
  ⟨h.lm, h.lc, h.ll, fun v => Nat.le_trans (h.up v) (Nat.le_succ _), h.no, h.at_, fun e he => ⟨fun l => absurd l (Nat.not_lt_zero _), fun _ l => (h.sat e he).1 he (by omega)⟩, h.cyc⟩
def g0 (n : Nat) : Sg := ⟨List.replicate n 0, List.replicate n none, List.replicate n 0⟩
theorem rep_get (n v : Nat) : (List.replicate n (none : Option Nat)).getD v none = none := by
  simp only [List.getD, List.getElem?_replicate]
  split <;> rfl
theorem rep0 (n v : Nat) : (List.replicate n (0 : Nat)).getD v 0 = 0 := by
  simp only [List.getD, List.getElem?_replicate]
  split <;> rfl
theorem repI (n v : Nat) : (List.replicate n (0 : Int)).getD v 0 = 0 := by
  simp only [List.getD, List.getElem?_replicate]
  split <;> rfl
theorem ok0 (n : Nat) : Ok6 zs n 1 0 (g0 n) := by
  refine ⟨by simp [g0], by simp [g0], by simp [g0], fun v => ?_, fun v _ => rep0 n v, fun v j e => ?_, fun e _ => ⟨fun l => absurd l (Nat.not_lt_zero _), fun _ l => ?_⟩, fun k v k0 e => ?_⟩
  · show (List.replicate n 0).getD v 0 ≤ 1
    rw [rep0]
    decide
  · rw [show (g0 n).cb.getD v none = none from rep_get n v] at e
    cases e
  · have : (List.replicate n 0).getD (nz zs e).1 0 + 2 ≤ 1 := l
    omega
  · obtain ⟨u, e1⟩ := bk_lt (i := 1) k0 e
    have e1 : pr zs (List.replicate n none) v = some u := e1
    unfold pr at e1
    rw [rep_get] at e1
    cases e1
end
end K26
namespace K30
open PySem PySem.Spec PyProof.Rows L2 G Th AL K37 KL Fr K24
open K19 (F9 H9 Tr9 stA toV wsV history_wp)
def tV (a : Int) : Val := frV (Fr.mk a 120)
def Fit (ws : List K24.Sp) (wo : List Int) : Prop := ∀ z ∈ ws, wo.getD z.2.1 0 ≤ wo.getD z.1 0 + z.2.2
theorem tV0 : Val.tup [.int 0, .int 1] = tV 0 := by
  unfold tV
  have : Fr.mk 0 120 = (0, 1) := by decide +kernel
  rw [this]
  rfl
end K30
namespace K30
open PySem PySem.Spec PyProof.Rows L2 G Th AL K37 KL Fr K24
open K19 (F9 H9 Tr9 stA toV wsV history_wp frac_wp)
open K08 (wm wd ws_cut)
theorem at_t {wo : List Int} {j : Nat} (h : j < wo.length) : atI (wo.map tV) ((j : Nat) : Int) = some (tV (wo.getD j 0)) := at_nat (map_get (by simp [List.getD, List.getElem?_eq_getElem h]))
section
variable {fl : Fl} {es : List Ev} {ts : List Int} {S : Sto} {ws : List K24.Sp}
end
end K30
namespace K26
open PySem PySem.Spec PyProof.Rows L2 G Th AL K37 KL Fr
open K24 (go_over_ go_over_B go_down_ go_down_B ring_behind_ ring_behind_B)
open K19 (wsV toV ixN_nat enumV_len)
open K08 (ws_cut)
def cbV : Option Nat → Val
  | none => .non
  | some j => .int (j : Nat)

def Bd6 (b : Nat) (mo : List Int) : Prop := ∀ x, mo.getD x 0 ≤ 0 ∧ -(b : Int) ≤ mo.getD x 0
theorem at_m {mo : List Int} {i : Nat} (h : i < mo.length) : atI (mo.map Val.int) ((i : Nat) : Int) = some (.int (mo.getD i 0)) := at_nat (map_get (by simp [List.getD, List.getElem?_eq_getElem h]))
theorem at_c {cb : List (Option Nat)} {i : Nat} (h : i < cb.length) : atI (cb.map cbV) ((i : Nat) : Int) = some (cbV (cb.getD i none)) := at_nat (map_get (by simp [List.getD, List.getElem?_eq_getElem h]))
theorem m_set {mo : List Int} {i : Nat} {a : Int} : (mo.map Val.int).set i (.int a) = (mo.set i a).map Val.int := by rw [List.map_set]
theorem c_set {cb : List (Option Nat)} {i j : Nat} : (cb.map cbV).set i (.int (j : Nat)) = (cb.set i (some j)).map cbV := by rw [List.map_set]; rfl
theorem nz_get {zs : List K24.Sp} {i : Nat} {z : K24.Sp} (h : zs[i]? = some z) : nz zs i = z := by unfold nz; rw [List.getD, h]; rfl
theorem over_wp {S : Sto} {W M C n r b w0 : Nat} {zs : List K24.Sp} {g : Sg} (hW : S[W]? = some (.lst (zs.map wsV))) (hM : S[M]? = some (.lst (g.mo.map Val.int))) (hC : S[C]? = some (.lst (g.cb.map cbV))) (ne : W ≠ M ∧ W ≠ C ∧ M ≠ C) (hz : ∀ e, e < zs.length → (nz zs e).1 < n ∧ (nz zs e).2.1 < n) (hw : ∀ z ∈ zs, z.2.2.natAbs ≤ w0)
    (ok : Ok6 zs n r 0 g) (r0 : 0 < r) (bd : Bd6 b g.mo) :
    Wp (go_over_ [.ref W, .ref M, .ref C] S) fun v T => ∃ g' : Sg, T[M]? = some (.lst (g'.mo.map Val.int)) ∧ T[C]? = some (.lst (g'.cb.map cbV)) ∧ Ok6 zs n r zs.length g' ∧ Bd6 (b + zs.length * w0) g'.mo ∧ (∀ k o, k ≠ M → k ≠ C → S[k]? = some o → T[k]? = some o) ∧
      ((v = .non ∧ ∀ e, e < zs.length → g'.mo.getD (nz zs e).2.1 0 ≤ g'.mo.getD (nz zs e).1 0 + (nz zs e).2.2) ∨ ∃ y : Nat, v = .int (y : Nat) ∧ y < n ∧ g'.lr.getD y 0 = r) := by
  refine AL.wf ?_; simp only [List.map_cons, List.map_nil, List.length_cons, List.length_nil, Nat.reduceAdd, Nat.reduceSub, List.replicate_succ, List.replicate_zero, List.cons_append, List.nil_append]; unfold go_over_B; array_get_dec
  refine .inr ⟨W, _, rfl, hW, ?_⟩
  refine ws_loop (fun i ρ T => ∃ (tv : Val) (z4 z5 z6 z7 z8 : Option Val) (g' : Sg), ρ = [some (.ref W), some (.ref M), some (.ref C), some tv, z4, z5, z6, z7, z8] ∧ T[M]? = some (.lst (g'.mo.map Val.int)) ∧ T[C]? = some (.lst (g'.cb.map cbV)) ∧ Ok6 zs n r i g' ∧ Bd6 (b + i * w0) g'.mo ∧ (∀ k o, k ≠ M → k ≠ C → S[k]? = some o → T[k]? = some o) ∧
      ((tv = .non ∧ ∀ e, e < i → g'.mo.getD (nz zs e).2.1 0 ≤ g'.mo.getD (nz zs e).1 0 + (nz zs e).2.2) ∨ ∃ y : Nat, tv = .int (y : Nat) ∧ y < n ∧ g'.lr.getD y 0 = r))
    ⟨.non, _, _, _, _, _, g, rfl, hM, hC, ok, by rw [Nat.zero_mul]; exact bd, fun k o _ _ h => h, .inl ⟨rfl, fun e l => absurd l (Nat.not_lt_zero _)⟩⟩ (fun i ρ T _ z => by obtain ⟨_, _, _, _, _, _, _, _, _, _, _, _, k, _⟩ := z; exact k W _ ne.1 ne.2.1 hW) ?_ ?_
  · rintro i v ρ T hv ⟨tv, z4, z5, z6, z7, z8, g', rfl, hM', hC', ok', bd', kk, st⟩
    obtain ⟨w, hwi, rfl⟩ := enumV_get hv
    rw [List.getElem?_map] at hwi
    obtain ⟨z, hzz, rfl⟩ := Option.map_eq_some_iff.mp hwi
    have li : i < zs.length := (List.getElem?_eq_some_iff.mp hzz).1
    have ez := nz_get hzz
    obtain ⟨lx, ly⟩ := hz i li
    rw [ez] at lx ly
    have lm := ok'.lm
    have lc := ok'.lc
    have wz := hw z (List.mem_of_getElem? hzz)
    have ax := at_m (mo := g'.mo) (i := z.1) (by omega)
    have ay := at_m (mo := g'.mo) (i := z.2.1) (by omega)
    refine bn rfl ?_
    array_get_dec
    refine vIxL rfl rfl hM' ax ?_
    array_get_dec
    refine vIxL rfl rfl hM' ay ?_
    array_get_dec
    refine vIxL rfl rfl hM' ax ?_
    array_get_dec
    refine vIxL rfl rfl hM' ay ?_
    array_get_dec
    refine Br.of (fun c => ?_) (fun c => ?_)
    · have c : g'.mo.getD z.1 0 + z.2.2 < g'.mo.getD z.2.1 0 := of_decide_eq_true c
      array_get_dec
      refine vIxL rfl rfl hM' ax ?_
      array_get_dec
      refine vPutL hM' (j := z.2.1) (by rw [List.length_map, lm]; exact ixN_nat ly) ?_
      intro T1 l_T1 g_T1 k_T1
      array_get_dec
      refine vPutL (k_T1 C _ (fun e => ne.2.2 e.symm) hC') (j := z.2.1) (by rw [List.length_map, lc]; exact ixN_nat ly) ?_
      intro T2 l_T2 g_T2 k_T2
      array_get_dec
      have okp := ok'.put li r0 hz (by rw [ez]; exact c)
      rw [ez] at okp
      refine ⟨_, _, _, _, _, _, g'.put r i z, rfl, ?_, ?_, okp, fun x => ?_, fun k o n1 n2 ho => k_T2 k o n2 (k_T1 k o n1 (kk k o n1 n2 ho)), .inr ⟨z.2.1, rfl, ly, ?_⟩⟩
      · rw [m_set] at g_T1
        exact k_T2 M _ ne.2.2 g_T1
      · rw [c_set] at g_T2
        exact g_T2
      · show (g'.mo.set z.2.1 (g'.mo.getD z.1 0 + z.2.2)).getD x 0 ≤ 0 ∧ _ ≤ (g'.mo.set z.2.1 (g'.mo.getD z.1 0 + z.2.2)).getD x 0
        rw [getI_set (by omega)]
        have b1 := bd' x
        have b2 := bd' z.1
        have b3 := bd' z.2.1
        have e1 : (i + 1) * w0 = i * w0 + w0 := Nat.succ_mul i w0
        split
        · exact ⟨by omega, by omega⟩
        · exact ⟨b1.1, by omega⟩
      · show (g'.lr.set z.2.1 r).getD z.2.1 0 = r
        rw [getN_set (by have := ok'.ll; omega), if_pos rfl]
    · have c : ¬ g'.mo.getD z.1 0 + z.2.2 < g'.mo.getD z.2.1 0 := of_decide_eq_false c
      array_get_dec
      have e1 : (i + 1) * w0 = i * w0 + w0 := Nat.succ_mul i w0
      refine ⟨tv, _, _, _, _, _, g', rfl, hM', hC', ok'.keep (by rw [ez]; omega), fun x => ⟨(bd' x).1, by have := (bd' x).2; omega⟩, kk, ?_⟩
      rcases st with ⟨a, sa⟩ | st
      · refine .inl ⟨a, fun e le => ?_⟩
        rcases Nat.lt_or_ge e i with d | d
        · exact sa e d
        · have : e = i := by omega
          subst this
          rw [ez]
          omega
      · exact .inr st
  · rintro ρ T ⟨tv, z4, z5, z6, z7, z8, g', rfl, hM', hC', ok', bd', kk, st⟩
    rw [enumV_len, List.length_map] at ok' bd' st
    array_get_dec
    exact ⟨g', hM', hC', ok', bd', kk, st⟩
theorem down_wp {S : Sto} {W M C n w0 : Nat} {zs : List K24.Sp} (hW : S[W]? = some (.lst (zs.map wsV))) (hM : S[M]? = some (.lst ((g0 n).mo.map Val.int))) (hC : S[C]? = some (.lst ((g0 n).cb.map cbV))) (ne : W ≠ M ∧ W ≠ C ∧ M ≠ C) (hz : ∀ e, e < zs.length → (nz zs e).1 < n ∧ (nz zs e).2.1 < n) (hw : ∀ z ∈ zs, z.2.2.natAbs ≤ w0) :
    Wp (go_down_ [.ref W, .ref M, .ref C] S) fun v T => ∃ (g : Sg) (r : Nat), T[M]? = some (.lst (g.mo.map Val.int)) ∧ T[C]? = some (.lst (g.cb.map cbV)) ∧ Ok6 zs n r zs.length g ∧ Bd6 ((n + 1) * (zs.length * w0)) g.mo ∧ (∀ k o, k ≠ M → k ≠ C → S[k]? = some o → T[k]? = some o) ∧
      ((v = .non ∧ ∀ e, e < zs.length → g.mo.getD (nz zs e).2.1 0 ≤ g.mo.getD (nz zs e).1 0 + (nz zs e).2.2) ∨ ∃ y : Nat, v = .int (y : Nat) ∧ y < n ∧ g.lr.getD y 0 = n + 1) := by
  have b0 : Bd6 0 (g0 n).mo := fun x => by
    show (List.replicate n (0 : Int)).getD x 0 ≤ 0 ∧ -((0 : Nat) : Int) ≤ (List.replicate n (0 : Int)).getD x 0
    rw [repI]
    decide
  refine AL.wf ?_; simp only [List.map_cons, List.map_nil, List.length_cons, List.length_nil, Nat.reduceAdd, Nat.reduceSub, List.replicate_succ, List.replicate_zero, List.cons_append, List.nil_append]; unfold go_down_B; array_get_dec
  refine (over_wp hW hM hC ne hz hw (ok0 n) (by decide) b0).imp ?_
  rintro v T ⟨g1, hM1, hC1, ok1, bd1, kk1, st1⟩
  array_get_dec
  refine (ws_while (fun ρ _ => match ρ with | [_, _, _, _, some (.int k)] => ((n : Int) + 1 - k).toNat | _ => 0) (fun ρ T => ∃ (k : Nat) (tv : Val) (g : Sg), ρ = [some (.ref W), some (.ref M), some (.ref C), some tv, some (.int ((k + 1 : Nat) : Int))] ∧ k ≤ n ∧ T[M]? = some (.lst (g.mo.map Val.int)) ∧ T[C]? = some (.lst (g.cb.map cbV)) ∧ Ok6 zs n (k + 1) zs.length g ∧ Bd6 ((k + 1) * (zs.length * w0)) g.mo ∧ (∀ k o, k ≠ M → k ≠ C → S[k]? = some o → T[k]? = some o) ∧ ((tv = .non ∧ ∀ e, e < zs.length → g.mo.getD (nz zs e).2.1 0 ≤ g.mo.getD (nz zs e).1 0 + (nz zs e).2.2) ∨ ∃ y : Nat, tv = .int (y : Nat) ∧ y < n ∧ g.lr.getD y 0 = k + 1))
    ⟨0, v, g1, rfl, Nat.zero_le _, hM1, hC1, ok1, by rw [Nat.one_mul]; rw [Nat.zero_add] at bd1; exact bd1, kk1, st1⟩ ?_)
  · rintro _ U ⟨k, tv, g, rfl, hk, hMU, hCU, okU, bdU, kkU, st⟩
    have bdn : Bd6 ((n + 1) * (zs.length * w0)) g.mo := fun x => ⟨(bdU x).1, by
      have := (bdU x).2
      have l : (k + 1) * (zs.length * w0) ≤ (n + 1) * (zs.length * w0) := Nat.mul_le_mul_right _ (by omega)
      omega⟩
    rcases st with ⟨rfl, sa⟩ | ⟨y, rfl, yn, yl⟩
    · array_get_dec
      exact ⟨g, k + 1, hMU, hCU, okU, bdn, kkU, .inl ⟨rfl, sa⟩⟩
    · array_get_dec
      rw [List.length_map, okU.lm]
      refine Br.of (fun c => ?_) (fun c => ?_)
      · have c : ((k + 1 : Nat) : Int) ≤ (n : Nat) := of_decide_eq_true c
        array_get_dec
        refine (over_wp (kkU W _ ne.1 ne.2.1 hW) hMU hCU ne hz hw okU.next (by omega) bdU).imp ?_
        rintro v2 U2 ⟨g2, hM3, hC3, ok3, bd3, kk3, st3⟩
        array_get_dec
        refine ws_aug rfl ?_
        array_get_dec
        refine ⟨⟨k + 1, v2, g2, ?_, by omega, hM3, hC3, ok3, by rw [Nat.succ_mul (k + 1)]; exact bd3, fun k o n1 n2 ho => kk3 k o n1 n2 (kkU k o n1 n2 ho), st3⟩, ?_⟩
        · show [some (Val.ref W), some (Val.ref M), some (Val.ref C), some v2, some (Val.int (((k + 1 : Nat) : Int) + 1))] = _
          congr 6
        · show ((n : Int) + 1 - (((k + 1 : Nat) : Int) + 1)).toNat < ((n : Int) + 1 - ((k + 1 : Nat) : Int)).toNat
          omega
      · have c : ¬ ((k + 1 : Nat) : Int) ≤ (n : Nat) := of_decide_eq_false c
        have : k = n := by omega
        subst this
        array_get_dec
        exact ⟨g, k + 1, hMU, hCU, okU, bdn, kkU, .inr ⟨y, rfl, yn, yl⟩⟩
end K26
namespace K26
open PySem PySem.Spec PyProof.Rows L2 G Th AL K37 KL Fr
open K24 (ring_behind_ ring_behind_B whl)
open K19 (wsV toV)

structure Rg (ws : List K24.Sp) (js : List Nat) : Prop where
  ne : 0 < js.length
  lt : ∀ j ∈ js, j < ws.length
  nx : ∀ i, i + 1 < js.length → (nz ws (js.getD i 0)).2.1 = (nz ws (js.getD (i + 1) 0)).1
  la : (nz ws (js.getD (js.length - 1) 0)).2.1 = (nz ws (js.getD 0 0)).1
  neg : (js.map fun j => (nz ws j).2.2).sum < 0
theorem sum_rev : ∀ l : List Int, l.reverse.sum = l.sum
  | [] => rfl
  | a :: l => by
    rw [List.reverse_cons, List.sum_append, sum_rev l, List.sum_cons]
    simp
    omega
theorem sum_map_mul {α : Type} (f h : α → Int) (a b : Int) : ∀ l : List α, (∀ x ∈ l, f x * a = h x * b) → (l.map f).sum * a = (l.map h).sum * b
  | [], _ => by simp
  | x :: l, e => by
    rw [List.map_cons, List.map_cons, List.sum_cons, List.sum_cons, Int.add_mul, Int.add_mul, e x (by simp), sum_map_mul f h a b l fun y hy => e y (List.mem_cons_of_mem _ hy)]
theorem nz_map {ws : List K24.Sp} {u j : Nat} (h : j < ws.length) : nz (ws.map (whl u)) j = whl u (nz ws j) := by
  unfold nz
  simp [List.getD, List.getElem?_map, List.getElem?_eq_getElem h]
theorem nz_mem {ws : List K24.Sp} {j : Nat} (h : j < ws.length) : nz ws j ∈ ws := by
  unfold nz
  rw [List.getD, List.getElem?_eq_getElem h]
  exact List.getElem_mem h
theorem at_to {ws : List K24.Sp} {j : Nat} (h : j < ws.length) : atI (ws.map toV) ((j : Nat) : Int) = some (toV (nz ws j)) := at_nat (map_get (by unfold nz; simp [List.getD, List.getElem?_eq_getElem h]))

def jl (zs : List K24.Sp) (cb : List (Option Nat)) (x k : Nat) : Nat := ((bk zs cb k x).bind fun v => cb.getD v none).getD 0
section
variable {S : Sto} {ws : List K24.Sp} {n r u : Nat} {g : Sg}
theorem jl_at {zs : List K24.Sp} (h : Ok6 zs n r zs.length g) {x k v w : Nat} (e : bk zs g.cb k x = some v) (e2 : bk zs g.cb (k + 1) x = some w) : g.cb.getD v none = some (jl zs g.cb x k) ∧ jl zs g.cb x k < zs.length ∧ (nz zs (jl zs g.cb x k)).2.1 = v ∧ (nz zs (jl zs g.cb x k)).1 = w := by
  obtain ⟨v', e3, e4⟩ := bk_succ.mp e2
  rw [e] at e3
  cases e3
  unfold pr at e4
  obtain ⟨j, e5, e6⟩ := Option.map_eq_some_iff.mp e4
  have ej : jl zs g.cb x k = j := by
    unfold jl
    rw [e]
    simp only [Option.bind_some, e5, Option.getD_some]
  rw [ej]
  obtain ⟨a1, a2, _⟩ := h.at_ v j e5
  exact ⟨e5, a1, a2, e6⟩
theorem sb_sum {zs : List K24.Sp} (h : Ok6 zs n r zs.length g) {x : Nat} : ∀ {c w : Nat}, bk zs g.cb c x = some w → sb zs g.cb x c = ((List.range c).map fun k => (nz zs (jl zs g.cb x k)).2.2).sum
  | 0, _, _ => rfl
  | c + 1, w, e => by
    obtain ⟨v, e1⟩ := bk_lt (i := c) (Nat.le_succ c) e
    obtain ⟨e5, _⟩ := jl_at h e1 e
    show sb zs g.cb x c + _ = _
    rw [sb_sum h e1, List.range_succ, List.map_append, List.sum_append, e1]
    simp only [Option.bind_some, e5, List.map_cons, List.map_nil, List.sum_cons, List.sum_nil, Int.add_zero]
theorem rev_get {c i : Nat} {f : Nat → Nat} (h : i < c) : (((List.range c).map f).reverse).getD i 0 = f (c - 1 - i) := by
  have l : ((List.range c).map f).length = c := by simp
  rw [List.getD, List.getElem?_reverse (by omega), l, List.getElem?_map, List.getElem?_range (by omega)]
  rfl
theorem rg_of (u0 : 0 < u) (hu : ∀ w ∈ ws, (whl u w).2.2 * 120 = w.2.2 * (u : Int)) (h : Ok6 (ws.map (whl u)) n r (ws.map (whl u)).length g) {x c : Nat} (c0 : 0 < c) (e : bk (ws.map (whl u)) g.cb c x = some x) : Rg ws (((List.range c).map (jl (ws.map (whl u)) g.cb x)).reverse) := by
  have lw : (ws.map (whl u)).length = ws.length := List.length_map ..
  have at_ : ∀ k, k < c → ∃ v w, bk (ws.map (whl u)) g.cb k x = some v ∧ bk (ws.map (whl u)) g.cb (k + 1) x = some w ∧ jl (ws.map (whl u)) g.cb x k < ws.length ∧ (nz ws (jl (ws.map (whl u)) g.cb x k)).2.1 = v ∧ (nz ws (jl (ws.map (whl u)) g.cb x k)).1 = w := by
    intro k hk
    obtain ⟨v, e1⟩ := bk_lt (i := k) (by omega) e
    obtain ⟨w, e2⟩ := bk_lt (i := k + 1) (by omega) e
    obtain ⟨_, a2, a3, a4⟩ := jl_at h e1 e2
    rw [lw] at a2
    rw [nz_map a2] at a3 a4
    exact ⟨v, w, e1, e2, a2, a3, a4⟩
  have ln : (((List.range c).map (jl (ws.map (whl u)) g.cb x)).reverse).length = c := by simp
  refine ⟨by rw [ln]; exact c0, fun j hj => ?_, fun i hi => ?_, ?_, ?_⟩
  · rw [List.mem_reverse] at hj
    obtain ⟨k, hk, rfl⟩ := List.mem_map.mp hj
    obtain ⟨_, _, _, _, l, _⟩ := at_ k (List.mem_range.mp hk)
    exact l
  · rw [ln] at hi
    rw [rev_get (by omega), rev_get (by omega)]
    obtain ⟨v, w, e1, e2, _, a3, _⟩ := at_ (c - 1 - i) (by omega)
    obtain ⟨v', w', e1', e2', _, _, a4'⟩ := at_ (c - 1 - (i + 1)) (by omega)
    rw [a3, a4']
    rw [show c - 1 - (i + 1) + 1 = c - 1 - i by omega, e1] at e2'
    exact Option.some.inj e2'
  · rw [ln, rev_get (by omega), rev_get (by omega)]
    obtain ⟨v, w, e1, e2, _, a3, _⟩ := at_ (c - 1 - (c - 1)) (by omega)
    obtain ⟨v', w', e1', e2', _, _, a4'⟩ := at_ (c - 1 - 0) (by omega)
    rw [a3, a4']
    rw [show c - 1 - (c - 1) = 0 by omega] at e1
    rw [show c - 1 - 0 + 1 = c by omega, e] at e2'
    have : x = v := by simpa [bk] using e1
    rw [← this]
    exact Option.some.inj e2'
  · rw [List.map_reverse, sum_rev, List.map_map]
    have ng := ring_neg h c0 e
    rw [sb_sum h e] at ng
    have sc := sum_map_mul (fun k => (nz (ws.map (whl u)) (jl (ws.map (whl u)) g.cb x k)).2.2) ((fun j => (nz ws j).2.2) ∘ jl (ws.map (whl u)) g.cb x) 120 (u : Int) (List.range c) (fun k hk => by
      obtain ⟨_, _, _, _, l, _⟩ := at_ k (List.mem_range.mp hk)
      rw [nz_map l]
      exact hu _ (nz_mem l))
    generalize ((List.range c).map fun k => (nz (ws.map (whl u)) (jl (ws.map (whl u)) g.cb x k)).2.2).sum = A at *
    generalize ((List.range c).map ((fun j => (nz ws j).2.2) ∘ jl (ws.map (whl u)) g.cb x)).sum = B at *
    refine Int.not_le.mp fun z => ?_
    have : 0 ≤ B * (u : Int) := Int.mul_nonneg z (Int.natCast_nonneg u)
    omega
theorem behind_wp {C y : Nat} (u0 : 0 < u) (hu : ∀ w ∈ ws, (whl u w).2.2 * 120 = w.2.2 * (u : Int)) (hC : S[C]? = some (.lst (g.cb.map cbV))) (h : Ok6 (ws.map (whl u)) n r (ws.map (whl u)).length g) (hn : n ≤ 1000) (hz : ∀ e, e < (ws.map (whl u)).length → (nz (ws.map (whl u)) e).1 < n ∧ (nz (ws.map (whl u)) e).2.1 < n) (hy : y < n) (ly : g.lr.getD y 0 = n + 1) :
    Wp (ring_behind_ [.tup (ws.map toV), .ref C, .int (y : Nat)] S) fun v T => ∃ js : List Nat, v = .tup (js.map natV) ∧ Rg ws js ∧ js.length ≤ 1000 ∧ Kn S T := by
  have lw : (ws.map (whl u)).length = ws.length := List.length_map ..
  have ch := chain h hz hy (by omega)
  obtain ⟨x, c1, ex, c10, cn1, ec1⟩ := on_ring h hz hy (by omega)
  obtain ⟨c, c0, cc1, ec, least⟩ := least_c c10 ec1
  have lc := h.lc
  have cn : c ≤ n := by omega
  have jt : ∀ k, k < c → ∃ v w, bk (ws.map (whl u)) g.cb k x = some v ∧ bk (ws.map (whl u)) g.cb (k + 1) x = some w ∧ v < n ∧ g.cb.getD v none = some (jl (ws.map (whl u)) g.cb x k) ∧ jl (ws.map (whl u)) g.cb x k < ws.length ∧ (nz ws (jl (ws.map (whl u)) g.cb x k)).2.1 = v ∧ (nz ws (jl (ws.map (whl u)) g.cb x k)).1 = w := by
    intro k hk
    obtain ⟨v, e1⟩ := bk_lt (i := k) (by omega) ec
    obtain ⟨w, e2⟩ := bk_lt (i := k + 1) (by omega) ec
    obtain ⟨a1, a2, a3, a4⟩ := jl_at h e1 e2
    have vn := (hz _ a2).2
    rw [a3] at vn
    rw [lw] at a2
    rw [nz_map a2] at a3 a4
    exact ⟨v, w, e1, e2, vn, a1, a2, a3, a4⟩
  refine AL.wf ?_; simp only [List.map_cons, List.map_nil, List.length_cons, List.length_nil, Nat.reduceAdd, Nat.reduceSub, List.replicate_succ, List.replicate_zero, List.cons_append, List.nil_append]; unfold ring_behind_B; array_get_dec
  refine .inr ⟨C, _, rfl, hC, ?_⟩
  refine ws_loop (fun i ρ T => ∃ (a : Nat) (z4 z5 : Option Val), ρ = [some (.tup (ws.map toV)), some (.ref C), some (.int (y : Nat)), some (.int (a : Nat)), z4, z5] ∧ bk (ws.map (whl u)) g.cb i y = some a ∧ S = T) ⟨y, _, _, rfl, rfl, rfl⟩ (fun i ρ T _ z => by obtain ⟨_, _, _, _, _, e⟩ := z; rw [← e]; exact hC) ?_ ?_
  · rintro i v ρ _ hv ⟨a, z4, z5, rfl, ea, rfl⟩
    have li : i < n := by
      have := (List.getElem?_eq_some_iff.mp hv).1
      rw [List.length_map, lc] at this
      exact this
    obtain ⟨b, eb, _⟩ := ch (i + 1) (by omega)
    obtain ⟨a1, a2, a3, a4⟩ := jl_at h ea eb
    have an := (hz _ a2).2
    rw [a3] at an
    rw [lw] at a2
    rw [nz_map a2] at a4
    refine bn rfl ?_
    array_get_dec
    refine vIxL rfl rfl hC (at_c (by omega)) ?_
    rw [a1]
    array_get_dec
    refine vIxT rfl rfl (at_to a2) ?_
    array_get_dec
    exact ⟨_, _, _, rfl, by rw [eb, ← a4]; rfl, rfl⟩
  rintro ρ _ ⟨a, z4, z5, rfl, ea, rfl⟩
  rw [List.length_map, lc, ex] at ea
  cases ea
  obtain ⟨v0, w0, b1, b2, b3, b4, b5, b6, b7⟩ := jt 0 c0
  have e0 : x = v0 := by simpa [bk] using b1
  subst e0
  array_get_dec
  refine vIxL rfl rfl hC (at_c (by omega)) ?_
  rw [b4]
  array_get_dec
  intro S1 R e_R l_S1 g_R k_S1
  array_get_dec
  refine ws_whileG (measure fun m => c - m).wf (fun m ρ T => ρ = [some (.tup (ws.map toV)), some (.ref C), some (.int (y : Nat)), some (.int (x : Nat)), z4, some (.ref R)] ∧ m < c ∧ T[R]? = some (.lst (((List.range (m + 1)).map (jl (ws.map (whl u)) g.cb x)).map natV)) ∧ Kx R S1 T) (a := 0) ⟨rfl, c0, g_R, Kx.refl _ _⟩ ?_
  rintro m _ T ⟨rfl, mc, gT, kT⟩
  obtain ⟨v, w, d1, d2, d3, d4, d5, d6, d7⟩ := jt m mc
  have lst : atI (((List.range (m + 1)).map (jl (ws.map (whl u)) g.cb x)).map natV) (-1) = some (.int ((jl (ws.map (whl u)) g.cb x m : Nat) : Int)) := by
    have ln : (((List.range (m + 1)).map (jl (ws.map (whl u)) g.cb x)).map natV).length = m + 1 := by simp
    unfold atI ixN
    rw [ln, if_neg (by decide), if_pos (by omega), Option.bind_some, show ((-1 : Int) + ((m + 1 : Nat) : Int)).toNat = m by omega, List.getElem?_map, List.getElem?_map, List.getElem?_range (by omega)]
    rfl
  have gC : T[C]? = some (.lst (g.cb.map cbV)) := kT.at (by have := lt_of_at hC; omega) (k_S1.at hC)
  array_get_dec
  refine vIxL rfl rfl gT lst ?_
  array_get_dec
  refine vIxT rfl rfl (at_to d5) ?_
  array_get_dec
  rw [d7]
  refine Br.of (fun cc => ?_) (fun cc => ?_)
  · have cc : w ≠ x := by
      have : ¬ ((w : Nat) : Int) = (x : Nat) := by simpa using cc
      omega
    have mc2 : m + 1 < c := by
      rcases Nat.lt_or_ge (m + 1) c with l | l
      · exact l
      · have : m + 1 = c := by omega
        rw [this, ec] at d2
        cases d2
        exact absurd rfl cc
    obtain ⟨v', w', f1, f2, f3, f4, f5, f6, f7⟩ := jt (m + 1) mc2
    rw [d2] at f1
    cases f1
    array_get_dec
    refine vIxL rfl rfl gT lst ?_
    array_get_dec
    refine vIxT rfl rfl (at_to d5) ?_
    array_get_dec
    rw [d7]
    refine vIxL rfl rfl gC (at_c (by omega)) ?_
    rw [f4]
    array_get_dec
    refine vApp rfl gT ?_ (small (by simp; omega))
    intro T1 l_T1 g_T1 k_T1
    array_get_dec
    refine ⟨m + 1, ⟨rfl, mc2, ?_, kT.trans k_T1⟩, ?_⟩
    · rw [g_T1]
      conv => rhs; rw [List.range_succ, List.map_append, List.map_append]
      rfl
    · show c - (m + 1) < c - m
      omega
  · have cc : w = x := by
      have : ((w : Nat) : Int) = (x : Nat) := by simpa using cc
      omega
    have mc2 : m + 1 = c := by
      rcases Nat.lt_or_ge (m + 1) c with l | l
      · exact absurd (by rw [d2, cc]) (least (m + 1) (by omega) l)
      · omega
    array_get_dec
    refine vRev rfl gT ?_
    intro T1 r1 e_r1 l_T1 g_r1 k_T1
    array_get_dec
    refine ⟨((List.range c).map (jl (ws.map (whl u)) g.cb x)).reverse, ?_, rg_of u0 hu h c0 ec, by simp; omega, fun k o ho => k_T1.at (kT.at (by have := lt_of_at ho; omega) (k_S1.at ho))⟩
    rw [← mc2, List.map_reverse]
end
end K26
namespace K26
open PySem PySem.Spec PyProof.Rows L2 G Th AL K37 KL Fr
open K24 (world_or_ring_ world_or_ring_B ring_of_ ring_of_B whl whole_wp step_ok stA_mem to_inj)
open K30 (tV Fit)
open K19 (F9 H9 stA stM toV wsV history_wp row_mem)
section
variable {fl : Fl} {es : List Ev} {S : Sto} {ws : List K24.Sp}
theorem step_in (fo : F9 20 fl) (hv : H9 950 fl es) (hw : ws.map toV = stA fl es es.length) : ∀ w ∈ ws, w.1 < es.length ∧ w.2.1 < es.length := by
  intro w hm
  have hv' : toV w ∈ stA fl es es.length := by rw [← hw]; exact List.mem_map_of_mem hm
  obtain ⟨y, hy, m, hmr, hin⟩ := stA_mem hv'
  obtain ⟨mx, _, _⟩ := row_mem fo hv hy hmr
  unfold K19.stM at hin
  rcases List.mem_append.mp hin with hin | hin
  · cases hh : m.hi with
    | none => rw [hh] at hin; cases hin
    | some h =>
      rw [hh] at hin
      simp only [List.mem_cons, List.not_mem_nil, or_false] at hin
      obtain ⟨e1, e2, _⟩ := to_inj hin
      rw [e1, e2]
      exact ⟨by omega, by omega⟩
  · simp only [List.mem_cons, List.not_mem_nil, or_false] at hin
    obtain ⟨e1, e2, _⟩ := to_inj hin
    rw [e1, e2]
    exact ⟨by omega, by omega⟩

def WR (ws : List K24.Sp) (n : Nat) (v : Val) : Prop := (∃ wo : List Int, v = .tup [.str "world", .tup (wo.map tV)] ∧ wo.length = n ∧ Fit ws wo ∧ ∀ i, (wo.getD i 0).natAbs ≤ 4000000000000000) ∨ ∃ js : List Nat, v = .tup [.str "ring", .tup (js.map natV)] ∧ Rg ws js ∧ js.length ≤ 1000
theorem world_wp (fo : F9 20 fl) (hv : H9 950 fl es) (hw : ws.map toV = stA fl es es.length) (wl : ws.length ≤ 120) : Wp (world_or_ring_ [hiV fl es] S) fun v T => WR ws es.length v ∧ Kn S T := by
  have l30 := hv.len
  have sm := K24.step_small fo hv hw
  have p26 : (120 : Nat) * 2 ^ 26 = 8053063680 := by decide
  rw [p26] at sm
  have stp := step_in fo hv hw
  refine AL.wf ?_; simp only [List.map_cons, List.map_nil, List.length_cons, List.length_nil, Nat.reduceAdd, Nat.reduceSub, List.replicate_succ, List.replicate_zero, List.cons_append, List.nil_append]; unfold world_or_ring_B; array_get_dec
  refine (history_wp fo hv).imp ?_
  rintro _ S1 ⟨rfl, k1⟩
  rw [← hw]
  array_get_dec
  refine (whole_wp wl (step_ok fo hv hw)).imp ?_
  rintro _ S2 ⟨u, r, rfl, hr, u0, ⟨kk0, uk⟩, hu, lr, k2⟩
  have ul := Nat.le_of_dvd (by decide) ⟨kk0, uk⟩
  have lr2 := lt_of_at hr
  have lz : (ws.map (whl u)).length = ws.length := List.length_map ..
  have hz : ∀ e, e < (ws.map (whl u)).length → (nz (ws.map (whl u)) e).1 < es.length ∧ (nz (ws.map (whl u)) e).2.1 < es.length := fun e he => by
    rw [lz] at he
    rw [nz_map he]
    exact stp (nz ws e) (nz_mem he)
  have wz : ∀ z ∈ ws.map (whl u), z.2.2.natAbs ≤ 8053063680 := fun z hm => by
    obtain ⟨w, hw', rfl⟩ := List.mem_map.mp hm
    have e := hu w hw'
    have s := sm w hw'
    have e2 : (whl u w).2.2.natAbs * 120 = w.2.2.natAbs * u := by
      have := congrArg Int.natAbs e
      rw [Int.natAbs_mul, Int.natAbs_mul, Int.natAbs_natCast] at this
      exact this
    have : w.2.2.natAbs * u ≤ w.2.2.natAbs * 120 := Nat.mul_le_mul_left _ ul
    omega
  array_get_dec
  refine .inl ⟨_, rfl, ?_⟩
  refine lc_inv (fun j a T => a = (List.replicate j (0 : Int)).map Val.int ∧ S2 = T) (by rw [List.length_map]; omega) ⟨rfl, rfl⟩ (fun _ _ _ _ _ => trivial) (fun j a T z => by rw [z.1]; simp) ?_ ?_
  · rintro j v a _ _ ⟨rfl, rfl⟩
    refine bn rfl ?_
    array_get_dec
    exact ⟨by rw [List.replicate_succ', List.map_append]; rfl, rfl⟩
  rintro _ _ ⟨rfl, rfl⟩
  rw [List.length_map]
  intro S3 M e_M l_S3 g_M k_S3
  array_get_dec
  refine .inl ⟨_, rfl, ?_⟩
  refine lc_inv (fun j a T => a = (List.replicate j (none : Option Nat)).map cbV ∧ S3 = T) (by rw [List.length_map]; omega) ⟨rfl, rfl⟩ (fun _ _ _ _ _ => trivial) (fun j a T z => by rw [z.1]; simp) ?_ ?_
  · rintro j v a _ _ ⟨rfl, rfl⟩
    refine bn rfl ?_
    array_get_dec
    exact ⟨by rw [List.replicate_succ', List.map_append]; rfl, rfl⟩
  rintro _ _ ⟨rfl, rfl⟩
  rw [List.length_map]
  intro S4 C e_C l_S4 g_C k_S4
  array_get_dec
  refine (down_wp (n := es.length) (w0 := 8053063680) (k_S4.at (k_S3.at hr)) (k_S4.at g_M) g_C ⟨by omega, by omega, by omega⟩ hz wz).imp ?_
  rintro v S5 ⟨g, rr, hM, hC, ok, bd, kk, st⟩
  have kS5 : Kn S S5 := fun n o ho => kk n o (by have := lt_of_at (k2.at (k1.at ho)); omega) (by have := lt_of_at (k2.at (k1.at ho)); omega) (k_S4.at (k_S3.at (k2.at (k1.at ho))))
  rcases st with ⟨rfl, sat⟩ | ⟨y, rfl, yn, yl⟩
  · array_get_dec
    refine .inr ⟨M, _, rfl, hM, ?_⟩
    have len := ok.lm
    refine lc_inv (fun j a T => a = ((g.mo.take j).map fun x => x * (kk0 : Int)).map tV ∧ S5 = T) (by rw [List.length_map, len]; omega) ⟨rfl, rfl⟩ (fun j a T _ z => by rw [← z.2]; exact hM) (fun j a T z => by rw [z.1, List.length_map, List.length_map]; exact List.length_take_le _ _) ?_ ?_
    · rintro j v a _ hv3 ⟨rfl, rfl⟩
      rw [List.getElem?_map] at hv3
      obtain ⟨x, hx, rfl⟩ := Option.map_eq_some_iff.mp hv3
      refine bn rfl ?_
      array_get_dec
      refine Wp.of (ratio_eq (by omega) (Nat.lt_of_le_of_lt (show ((u : Int)).natAbs ≤ 120 by omega) (by decide))) ?_
      refine ⟨?_, rfl⟩
      rw [List.take_add_one, hx, List.map_append, List.map_append]
      have := K24.paV_sc uk.symm u0 (some x)
      show _ ++ [K24.paV u (some x)] = _
      rw [this]
      rfl
    rintro _ _ ⟨rfl, rfl⟩
    rw [List.length_map, List.take_length]
    have gg : ∀ i, (g.mo.map fun x => x * (kk0 : Int)).getD i 0 = g.mo.getD i 0 * (kk0 : Int) := fun i => by
      simp only [List.getD, List.getElem?_map]
      cases g.mo[i]? <;> simp
    intro S6 r6 e_r6 l_S6 g_r6 k_S6
    array_get_dec
    refine ⟨.inl ⟨_, rfl, by rw [List.length_map, len], fun z hz' => ?_, fun i => ?_⟩, kS5.trans k_S6⟩
    · obtain ⟨j, hj, e⟩ := List.getElem_of_mem hz'
      have ej : nz ws j = z := nz_get (by rw [List.getElem?_eq_getElem hj, e])
      have s := sat j (by rw [lz]; exact hj)
      rw [nz_map hj, ej] at s
      rw [gg, gg]
      have sc := K24.whl_k uk.symm u0 (hu z hz')
      have m := Int.mul_le_mul_of_nonneg_right s (Int.natCast_nonneg kk0)
      rw [Int.add_mul, sc] at m
      exact m
    · rw [gg]
      have b := bd i
      have k120 : kk0 ≤ 120 := Nat.le_of_dvd (by decide) ⟨u, by rw [uk, Nat.mul_comm]⟩
      have e1 : (es.length + 1) * ((ws.map (whl u)).length * 8053063680) ≤ 31 * (120 * 8053063680) := Nat.mul_le_mul (by omega) (Nat.mul_le_mul_right _ (by omega))
      have ab : (g.mo.getD i 0).natAbs ≤ 29957396889600 := by omega
      have : (g.mo.getD i 0).natAbs * kk0 ≤ 29957396889600 * 120 := Nat.mul_le_mul ab k120
      rw [Int.natAbs_mul, Int.natAbs_natCast]
      omega
  · array_get_dec
    refine (behind_wp u0 hu hC ok (by omega) hz yn yl).imp ?_
    rintro _ S6 ⟨js, rfl, rg, jl, k6⟩
    array_get_dec
    exact ⟨.inr ⟨js, rfl, rg, jl⟩, kS5.trans k6⟩
theorem ringof_wp (fo : F9 20 fl) (hv : H9 950 fl es) (hw : ws.map toV = stA fl es es.length) (wl : ws.length ≤ 120) : Wp (ring_of_ [hiV fl es] S) fun v T => ((v = .non ∧ ∃ wo : List Int, wo.length = es.length ∧ Fit ws wo) ∨ ∃ js : List Nat, v = .tup (js.map natV) ∧ Rg ws js ∧ js.length ≤ 1000) ∧ Kn S T := by
  refine AL.wf ?_; simp only [List.map_cons, List.map_nil, List.length_cons, List.length_nil, Nat.reduceAdd, Nat.reduceSub, List.replicate_succ, List.replicate_zero, List.cons_append, List.nil_append]; unfold ring_of_B; array_get_dec
  refine (world_wp fo hv hw wl).imp ?_
  rintro _ T ⟨⟨wo, rfl, l, fit, b⟩ | ⟨js, rfl, rg, jl⟩, k⟩
  · array_get_dec
    exact ⟨.inl ⟨rfl, wo, l, fit⟩, k⟩
  · array_get_dec
    exact ⟨.inr ⟨js, rfl, rg, jl⟩, k⟩
end
end K26
namespace K26
open K24 (Wk)

abbrev Mx := Nat → Nat → Option Int
def NN (n : Nat) (M : Mx) : Prop := ∀ k, k < n → ∀ d, M k k = some d → 0 ≤ d
def Low (A B : Mx) : Prop := ∀ x y v, B x y = some v → ∃ c, A x y = some c ∧ c ≤ v
def Dg (n : Nat) (M : Mx) : Prop := ∀ k, k < n → ∃ d, M k k = some d ∧ d ≤ 0
def Sps (ws : List K24.Sp) (M : Mx) : Prop := ∀ z ∈ ws, ∃ v, M z.1 z.2.1 = some v ∧ v ≤ z.2.2
theorem NN.up {n : Nat} {A B : Mx} (h : NN n A) (l : Low A B) : NN n B := fun k hk d e => by
  obtain ⟨c, e1, l1⟩ := l k k d e
  have := h k hk c e1
  omega
theorem Dg.low {n : Nat} {A B : Mx} (h : Dg n B) (l : Low A B) : Dg n A := fun k hk => by
  obtain ⟨d, e, l0⟩ := h k hk
  obtain ⟨c, e1, l1⟩ := l k k d e
  exact ⟨c, e1, by omega⟩
theorem Sps.low {ws : List K24.Sp} {A B : Mx} (h : Sps ws B) (l : Low A B) : Sps ws A := fun z hz => by
  obtain ⟨v, e, l0⟩ := h z hz
  obtain ⟨c, e1, l1⟩ := l _ _ v e
  exact ⟨c, e1, by omega⟩

def up (M : Mx) (x y : Nat) (v : Int) : Mx := fun a b => if a = x ∧ b = y then some v else M a b

def Vm (M : Mx) (mid x y : Nat) : Option Int := match M x mid, M mid y with
  | some a, some b => (match M x y with | none => some (a + b) | some c => some (min c (a + b)))
  | _, _ => M x y
theorem V1 {M : Mx} {mid x y : Nat} {c : Int} (h : Vm M mid x y = some c) : M x y = some c ∨ ∃ a b, M x mid = some a ∧ M mid y = some b ∧ c = a + b := by
  unfold Vm at h
  split at h
  · next a b e1 e2 =>
    split at h
    · next e3 => cases h; exact .inr ⟨a, b, e1, e2, rfl⟩
    · next d e3 =>
      cases h
      rcases Int.le_total d (a + b) with l | l
      · rw [Int.min_eq_left l]
        exact .inl e3
      · rw [Int.min_eq_right l]
        exact .inr ⟨a, b, e1, e2, rfl⟩
  · exact .inl h
theorem V2 {M : Mx} {mid x y : Nat} {c : Int} (h : M x y = some c) : ∃ c', Vm M mid x y = some c' ∧ c' ≤ c := by
  unfold Vm
  split
  · next a b e1 e2 =>
    rw [h]
    exact ⟨_, rfl, Int.min_le_left _ _⟩
  · exact ⟨c, h, Int.le_refl _⟩
theorem V3 {M : Mx} {mid x y : Nat} {a b : Int} (h : M x mid = some a) (h' : M mid y = some b) : ∃ c', Vm M mid x y = some c' ∧ c' ≤ a + b := by
  unfold Vm
  rw [h, h']
  cases hm : M x y with
  | none => exact ⟨_, rfl, Int.le_refl _⟩
  | some c => exact ⟨_, rfl, Int.min_le_right _ _⟩

theorem rg_walk {ws : List K24.Sp} {js : List Nat} (h : Rg ws js) : ∃ a v, (∃ z ∈ ws, z.1 = a) ∧ Wk ws (· = a) a v ∧ v < 0 := by
  have ne := h.ne
  have go : ∀ k, k < js.length → Wk ws (· = (nz ws (js.getD 0 0)).1) (nz ws (js.getD k 0)).2.1 (((js.take (k + 1)).map fun j => (nz ws j).2.2).sum) := by
    intro k
    induction k with
    | zero =>
      intro hk
      have m : nz ws (js.getD 0 0) ∈ ws := nz_mem (h.lt _ (by rw [List.getD, List.getElem?_eq_getElem hk]; exact List.getElem_mem hk))
      have := Wk.step (zs := ws) (I := (· = (nz ws (js.getD 0 0)).1)) (z := nz ws (js.getD 0 0)) (.start rfl) m
      rw [Int.zero_add] at this
      have e : ((js.take 1).map fun j => (nz ws j).2.2).sum = (nz ws (js.getD 0 0)).2.2 := by
        cases js with
        | nil => simp at hk
        | cons a r => simp [List.getD]
      rw [Nat.zero_add, e]
      exact this
    | succ k ih =>
      intro hk
      have w := ih (by omega)
      rw [h.nx k hk] at w
      have m : nz ws (js.getD (k + 1) 0) ∈ ws := nz_mem (h.lt _ (by rw [List.getD, List.getElem?_eq_getElem hk]; exact List.getElem_mem hk))
      have := Wk.step w m
      have e : ((js.take (k + 1 + 1)).map fun j => (nz ws j).2.2).sum = ((js.take (k + 1)).map fun j => (nz ws j).2.2).sum + (nz ws (js.getD (k + 1) 0)).2.2 := by
        have eg : js[k + 1]? = some (js.getD (k + 1) 0) := by simp [List.getD, List.getElem?_eq_getElem hk]
        rw [List.take_add_one (i := k + 1), eg, List.map_append, List.sum_append]
        simp
      rw [e]
      exact this
  have last := go (js.length - 1) (by omega)
  rw [h.la, show js.length - 1 + 1 = js.length by omega, List.take_length] at last
  have m0 : nz ws (js.getD 0 0) ∈ ws := nz_mem (h.lt _ (by rw [List.getD, List.getElem?_eq_getElem ne]; exact List.getElem_mem ne))
  exact ⟨_, _, ⟨_, m0, rfl⟩, last, h.neg⟩
end K26
namespace K26
open PySem PySem.Spec PyProof.Rows L2 G Th AL K37 KL Fr
open K24 (Wk moV)
open K19 (wsV ixN_nat)
def rowL (n : Nat) (M : Mx) (x : Nat) : List Val := (List.range n).map fun y => moV (M x y)
structure Hd (S T : Sto) (R n : Nat) (M : Mx) : Prop where
  r : T[R]? = some (.lst ((List.range n).map fun k => .ref (S.length + 2 * k + 1)))
  w : ∀ x, x < n → T[S.length + 2 * x + 1]? = some (.lst (rowL n M x))
  k : Kn S T
  o : S.length + 2 * n ≤ R
section
variable {S T : Sto} {R n : Nat} {M : Mx}
theorem Hd.at_ (h : Hd S T R n M) {x : Nat} (hx : x < n) : atI ((List.range n).map fun k => Val.ref (S.length + 2 * k + 1)) ((x : Nat) : Int) = some (.ref (S.length + 2 * x + 1)) := at_nat (map_get (List.getElem?_range hx))
end
end K26
namespace K19
open PySem PySem.Spec PyProof.Rows L2 G Th AL K37 KL Fr
open K08 (wm wd ws_cut)
theorem feed_wp (ns : List Int) (h : ns.length ≤ 63) : Wp (feedL_ [.scr ns] []) fun v S => v = .ref 2 ∧ Tq S 0 := by
  refine ⟨.ref 2, [.lst (cutL (ns.map Val.int) none (some 63)), .lst (cutL (ns.map Val.int) none (some 63)), .lst [.ref 1, .int 0, .int 0, .int 0]], ?_, rfl, ?_⟩
  · rfl
  · refine ⟨(ns.drop (HT.sIx ns.length 0 none)).take (HT.sIx ns.length ns.length (some 63) - HT.sIx ns.length 0 none), 0, 0, 0, ?_, rfl, by omega, by omega, by omega, by omega, ?_⟩
    · show some (Ob.lst (cutL (ns.map Val.int) none (some 63))) = _
      unfold cutL
      rw [List.length_map, ← List.map_drop, ← List.map_take]
    · rw [List.length_take, List.length_drop]
      omega
def fl0 : Fl := ⟨[⟨"a", (1, 1), (1, 1)⟩], [], "a"⟩
end K19
namespace K26
open PySem PySem.Spec PyProof.Rows L2 G Th AL K37 KL Fr
open K24 (Wk moV den120)
open K30 (tV Fit)
open K19 (wsV frac_wp enumV_len)
open K08 (wm)
section
variable {S T : Sto} {R n : Nat} {M : Mx}
end
end K26
namespace AL
open PySem PySem.Spec PyProof.Rows L2 G Th
theorem res_of {r : Res} {ρ0 : Rho} {S0 : Sto} (h : Ws r (fun ρ S => ρ = ρ0 ∧ S = S0) fun _ _ => False) : r = .nx ρ0 S0 := by
  obtain ⟨h⟩ := h
  cases r with
  | nx ρ S => obtain ⟨rfl, rfl⟩ := h; rfl
  | rt v S => exact h.elim
  | stuck => exact h.elim
  | bk ρ S => exact h.elim
  | ct ρ S => exact h.elim
end AL
namespace AL
open PySem PySem.Spec PyProof.Rows L2 G Th K37
structure Dt (S : Sto) (n w : Nat) (v : Val) (d : PyData) : Prop where
  ok : okD d = true
  wt : d.weight ≤ w
  dp : d.depth ≤ n
  td : ∀ k, n < k → toD S k v = some d
structure DtL (S : Sto) (n w : Nat) (vs : List Val) (ds : List PyData) : Prop where
  ok : okAll ds = true
  wt : PyData.weightAll ds ≤ w
  dp : PyData.depthAll ds ≤ n
  td : ∀ k, n < k → mapO (toD S k) vs = some ds
theorem Dt.of {n w : Nat} {v : Val} (h : Sh n w v) : ∃ d, ∀ S, Dt S n w v d := by
  obtain ⟨d, h1, h2, h3, h4⟩ := h
  exact ⟨d, fun S => ⟨h1, h2, h3, fun k hk => h4 S k hk⟩⟩
theorem DtL.nil {S : Sto} {n w : Nat} : DtL S n w [] [] := ⟨rfl, by simp [PyData.weightAll], by simp [PyData.depthAll], fun _ _ => rfl⟩
theorem DtL.cons {S : Sto} {n w w' : Nat} {v : Val} {vs : List Val} {d : PyData} {ds : List PyData} (h : Dt S n w v d) (g : DtL S n w' vs ds) : DtL S n (w + w' + 1) (v :: vs) (d :: ds) := by
  have h2 := h.wt
  have g2 := g.wt
  have h3 := h.dp
  have g3 := g.dp
  refine ⟨?_, ?_, ?_, fun k hk => ?_⟩
  · show (okD d && okAll ds) = true
    rw [h.ok, g.ok]
    rfl
  · show d.weight + 1 + PyData.weightAll ds ≤ _
    omega
  · simp only [PyData.depthAll]
    omega
  · unfold mapO
    rw [h.td k hk, g.td k hk]
    rfl
theorem Dt.lst {S : Sto} {n w a : Nat} {vs : List Val} {ds : List PyData} (h : S[a]? = some (.lst vs)) (r : DtL S n w vs ds) : Dt S (n + 1) w (.ref a) (.list ds) := by
  refine ⟨r.ok, r.wt, by have := r.dp; simp only [PyData.depth]; omega, fun k hk => ?_⟩
  obtain ⟨k, rfl⟩ : ∃ j, k = j + 1 := ⟨k - 1, by omega⟩
  rw [toD]
  simp only [h]
  rw [r.td k (by omega)]
  rfl
theorem Dt.tup {S : Sto} {n w : Nat} {vs : List Val} {ds : List PyData} (r : DtL S n w vs ds) : Dt S (n + 1) w (.tup vs) (.tuple ds) := by
  refine ⟨r.ok, r.wt, by have := r.dp; simp only [PyData.depth]; omega, fun k hk => ?_⟩
  obtain ⟨k, rfl⟩ : ∃ j, k = j + 1 := ⟨k - 1, by omega⟩
  show (mapO (toD S k) vs).map PyData.tuple = _
  rw [r.td k (by omega)]
  rfl
theorem Dt.str {S : Sto} {x : Str} (h : TxOk x) : Dt S 0 8 (.str x) (.str x) := by
  refine ⟨h.1, by simp only [PyData.weight]; exact h.2, by simp [PyData.depth], fun k hk => ?_⟩
  obtain ⟨k, rfl⟩ : ∃ j, k = j + 1 := ⟨k - 1, by omega⟩
  rfl
end AL
namespace K22
open PySem PySem.Spec PyProof.Rows L2 G Th AL K37 KL Fr
open K24 (Wk moV Mo Tb paV whl par_sc clever_wp parted_wp whole_wp step_ok pot_le Sat AllW)
open K30 (tV Fit)
open K26 (Rg step_in ringof_wp rg_walk Mx Dg Sps NN)
open K19 (F9 H9 Tq stA toV wsV history_wp)
section
variable {fl : Fl} {es : List Ev} {S : Sto} {ws : List K24.Sp} {x : Nat}

theorem fit_pot {wo : List Int} {u : Nat} (fit : Fit ws wo) (hu : ∀ w ∈ ws, (whl u w).2.2 * 120 = w.2.2 * (u : Int)) : ∀ z ∈ ws.map (whl u), ((u : Int) * wo.getD z.2.1 0) / 120 ≤ ((u : Int) * wo.getD z.1 0) / 120 + z.2.2 := by
  intro z hz
  obtain ⟨w, hm, rfl⟩ := List.mem_map.mp hz
  have m := Int.mul_le_mul_of_nonneg_left (fit w hm) (Int.natCast_nonneg u)
  have e := hu w hm
  rw [Int.mul_add] at m
  have e2 : (u : Int) * w.2.2 = w.2.2 * (u : Int) := Int.mul_comm _ _
  show ((u : Int) * wo.getD w.2.1 0) / 120 ≤ ((u : Int) * wo.getD w.1 0) / 120 + (whl u w).2.2
  generalize (u : Int) * wo.getD w.2.1 0 = a at *
  generalize (u : Int) * wo.getD w.1 0 = b at *
  omega
theorem whl_in (st : ∀ z ∈ ws, z.1 < es.length ∧ z.2.1 < es.length) {u : Nat} : ∀ z ∈ ws.map (whl u), z.1 < es.length ∧ z.2.1 < es.length := by
  intro z hz
  obtain ⟨w, hm, rfl⟩ := List.mem_map.mp hz
  exact st w hm
theorem fit_walk {wo : List Int} (fit : Fit ws wo) {x y : Nat} {v : Int} (w : Wk ws (· = x) y v) : wo.getD y 0 ≤ wo.getD x 0 + v := pot_le (P := fun y => wo.getD y 0) fit (m := wo.getD x 0) (fun s e => by rw [e]; exact Int.le_refl _) w
theorem fit_no {wo : List Int} {js : List Nat} (fit : Fit ws wo) (rg : Rg ws js) : False := by
  obtain ⟨a, v, _, w, l⟩ := rg_walk rg
  have := fit_walk fit w
  omega

theorem number_wp {i : Int} : Wp (bar_number_ [hiV fl es, .int i] S) fun v T => ((0 ≤ i ∧ i < es.length ∧ v = .non) ∨ (¬ (0 ≤ i ∧ i < es.length) ∧ v = xv "NoNumber" [.int i])) ∧ S = T := by
  refine AL.wf ?_; simp only [List.map_cons, List.map_nil, List.length_cons, List.length_nil, Nat.reduceAdd, Nat.reduceSub, List.replicate_succ, List.replicate_zero, List.cons_append, List.nil_append]; unfold bar_number_B; array_get_dec
  refine Br.of (fun c => ?_) (fun c => ?_)
  · have c : 0 ≤ i := of_decide_eq_true c
    array_get_dec
    rw [List.length_map]
    refine Br.of (fun d => ?_) (fun d => ?_)
    · have d : ¬ i < (es.length : Int) := by simpa using d
      refine ws_raise ?_
      array_get_dec
      exact ⟨.inr ⟨fun z => d z.2, rfl⟩, rfl⟩
    · have d : i < (es.length : Int) := by simpa using d
      array_get_dec
      exact ⟨.inl ⟨c, d, trivial⟩, rfl⟩
  · have c : ¬ 0 ≤ i := of_decide_eq_false c
    array_get_dec
    refine ws_raise ?_
    array_get_dec
    exact ⟨.inr ⟨fun z => c z.1, rfl⟩, rfl⟩

inductive End (ws : List K24.Sp) (n : Nat) (X : Val → Prop) (v : Val) : Prop
  | fit (wo : List Int) (l : wo.length = n) (f : Fit ws wo) (x : X v)
  | ring (js : List Nat) (r : Rg ws js) (l : js.length ≤ 1000) (e : v = xv "NoWorld" [.tup (js.map natV)])
theorem ring_wp (fo : F9 20 fl) (hv : H9 950 fl es) (hw : ws.map toV = stA fl es es.length) (wl : ws.length ≤ 120) : Wp (bar_ring_ [hiV fl es] S) fun v T => End ws es.length (fun v => v = .non) v ∧ Kn S T := by
  refine AL.wf ?_; simp only [List.map_cons, List.map_nil, List.length_cons, List.length_nil, Nat.reduceAdd, Nat.reduceSub, List.replicate_succ, List.replicate_zero, List.cons_append, List.nil_append]; unfold bar_ring_B; array_get_dec
  refine (ringof_wp fo hv hw wl).imp ?_
  rintro _ T ⟨⟨rfl, wo, l, fit⟩ | ⟨js, rfl, rg, jl⟩, k⟩
  · array_get_dec
    exact ⟨.fit wo l fit rfl, k⟩
  · array_get_dec
    refine ws_raise ?_
    array_get_dec
    exact ⟨.ring js rg jl rfl, k⟩

def Ask (ws : List K24.Sp) (n : Nat) (i : Int) (X : Nat → Val → Prop) (v : Val) : Prop := (∃ x : Nat, i = (x : Int) ∧ x < n ∧ End ws n (X x) v) ∨ (¬ (0 ≤ i ∧ i < n) ∧ v = xv "NoNumber" [.int i])
def RowX (ws : List K24.Sp) (n x : Nat) (v : Val) : Prop := ∃ mo, v = .tup (mo.map (paV 120)) ∧ Tb ws n x mo
theorem isX_pa (mo : Mo) : isX (.tup (mo.map (paV 120))) = none := by
  cases mo with
  | nil => rfl
  | cons o r => cases o <;> rfl
theorem clever_R {i : Int} (fo : F9 20 fl) (hv : H9 950 fl es) (hw : ws.map toV = stA fl es es.length) (wl : ws.length ≤ 120) :
    Wp (reach_clever_ [hiV fl es, .int i] S) fun v T => Ask ws es.length i (RowX ws es.length) v ∧ Kn S T := by
  have l30 := hv.len
  refine AL.wf ?_; simp only [List.map_cons, List.map_nil, List.length_cons, List.length_nil, Nat.reduceAdd, Nat.reduceSub, List.replicate_succ, List.replicate_zero, List.cons_append, List.nil_append]; unfold reach_clever_B; array_get_dec
  refine ws_exprX ?_
  array_get_dec
  refine number_wp.imp ?_
  rintro _ _ ⟨⟨i0, i1, rfl⟩ | ⟨no, rfl⟩, rfl⟩
  rotate_left
  · exact Xs.yes rfl ⟨.inr ⟨no, rfl⟩, Kn.refl _⟩
  obtain ⟨x, rfl⟩ : ∃ x : Nat, i = (x : Int) := ⟨i.toNat, by omega⟩
  have hx : x < es.length := by omega
  refine Xs.no rfl (ws_seq (ws_exprX ?_))
  array_get_dec
  refine (ring_wp fo hv hw wl).imp ?_
  rintro v S1 ⟨e1, k1⟩
  cases e1 with
  | ring js rg jl e =>
    subst e
    exact Xs.yes rfl ⟨.inl ⟨x, rfl, hx, .ring js rg jl rfl⟩, k1⟩
  | fit wo wl2 fit e =>
    subst e
    refine Xs.no rfl ?_
    array_get_dec
    refine (history_wp fo hv).imp ?_
    rintro _ S2 ⟨rfl, k2⟩
    rw [← hw]
    array_get_dec
    refine (whole_wp wl (step_ok fo hv hw)).imp ?_
    rintro _ S3 ⟨u, r, rfl, hr, u0, ⟨k, uk⟩, hu, lr, k3⟩
    array_get_dec
    refine ws_retN ?_
    array_get_dec
    rw [List.length_map]
    refine (clever_wp (P := fun y => ((u : Int) * wo.getD y 0) / 120) hr (by omega) hx (whl_in (step_in fo hv hw)) (fit_pot fit hu) (by rw [List.length_map]; omega)).imp ?_
    rintro _ S4 ⟨M, mo, rfl, lM, hM, tb, k4⟩
    array_get_dec
    refine (parted_wp hM u0 (Nat.le_of_dvd (by decide) ⟨k, uk⟩) (by rw [tb.len]; omega)).imp ?_
    rintro _ S5 ⟨rfl, k5⟩
    rw [par_sc uk.symm u0]
    exact sd (isX_pa _) ⟨.inl ⟨x, rfl, hx, .fit wo wl2 fit ⟨_, rfl, tb.scale uk.symm u0 hu⟩⟩, (((k1.trans k2).trans k3).trans k4).trans k5⟩

theorem reach_R {i j : Int} (fo : F9 20 fl) (hv : H9 950 fl es) (hw : ws.map toV = stA fl es es.length) (wl : ws.length ≤ 120) :
    Wp (reach_ [hiV fl es, .int i, .int j] S) fun v T => ((0 ≤ i ∧ i < es.length ∧ Ask ws es.length j (fun y v => ∃ (x : Nat) (mo : Mo), i = (x : Int) ∧ v = paV 120 (mo.getD y none) ∧ Tb ws es.length x mo) v) ∨ (¬ (0 ≤ i ∧ i < es.length) ∧ v = xv "NoNumber" [.int i])) ∧ Kn S T := by
  refine AL.wf ?_; simp only [List.map_cons, List.map_nil, List.length_cons, List.length_nil, Nat.reduceAdd, Nat.reduceSub, List.replicate_succ, List.replicate_zero, List.cons_append, List.nil_append]; unfold reach_B; array_get_dec
  refine ws_exprX ?_
  array_get_dec
  refine number_wp.imp ?_
  rintro _ _ ⟨⟨i0, i1, rfl⟩ | ⟨no, rfl⟩, rfl⟩
  rotate_left
  · exact Xs.yes rfl ⟨.inr ⟨no, rfl⟩, Kn.refl _⟩
  refine Xs.no rfl (ws_seq (ws_exprX ?_))
  array_get_dec
  refine number_wp.imp ?_
  rintro _ _ ⟨⟨j0, j1, rfl⟩ | ⟨no, rfl⟩, rfl⟩
  rotate_left
  · exact Xs.yes rfl ⟨.inl ⟨i0, i1, .inr ⟨no, rfl⟩⟩, Kn.refl _⟩
  refine Xs.no rfl (ws_ret (wBX ?_))
  obtain ⟨y, rfl⟩ : ∃ y : Nat, j = (y : Int) := ⟨j.toNat, by omega⟩
  have hy : y < es.length := by omega
  array_get_dec
  refine (clever_R fo hv hw wl).imp ?_
  rintro v S1 ⟨⟨x, rfl, hx, e1⟩ | ⟨no, _⟩, k1⟩
  rotate_left
  · exact absurd ⟨i0, i1⟩ no
  cases e1 with
  | ring js rg jl e =>
    subst e
    exact Xs.yes rfl ⟨.inl ⟨i0, i1, .inl ⟨y, rfl, hy, .ring js rg jl rfl⟩⟩, k1⟩
  | fit wo wl2 fit e =>
    obtain ⟨mo, rfl, tb⟩ := e
    refine Xs.no (isX_pa _) ?_
    array_get_dec
    refine ⟨paV 120 (mo.getD y none), S1, ?_, ?_, .inl ⟨i0, i1, .inl ⟨y, rfl, hy, .fit wo wl2 fit ⟨x, mo, rfl, rfl, tb⟩⟩⟩, k1⟩
    · have ix : atI (mo.map (paV 120)) ((y : Nat) : Int) = some (paV 120 (mo.getD y none)) := at_nat (map_get (by simp [List.getD, List.getElem?_eq_getElem (show y < mo.length by rw [tb.len]; exact hy)]))
      simp only [gIx, ix, Option.map_some]
    · cases mo.getD y none <;> rfl
end
end K22
namespace K30
open PySem PySem.Spec PyProof.Rows L2 G Th AL K37 KL Fr K24
open K19 (F9 H9 Tr9 stA toV wsV history_wp frac_wp enumV_len)
open K08 (wm wd ws_cut)
section
variable {fl : Fl} {es : List Ev} {ts : List Int} {S : Sto} {ws : List K24.Sp}
theorem num_wp {i : Int} : Wp (is_number_ [.int i] S) fun v T => v = .bl true ∧ S = T := by
  refine AL.wf ?_; simp only [List.map_cons, List.map_nil, List.length_cons, List.length_nil, Nat.reduceAdd, Nat.reduceSub, List.replicate_succ, List.replicate_zero, List.cons_append, List.nil_append]; unfold is_number_B; array_get_dec
  exact ⟨rfl, rfl⟩
theorem fr_wp {n : Nat} {x : Fq} (h : Fr.Ok n x) : Wp (is_fraction_ [frV x] S) fun v T => v = .bl true ∧ S = T := by
  have hp := h.pos
  refine AL.wf ?_; simp only [List.map_cons, List.map_nil, List.length_cons, List.length_nil, Nat.reduceAdd, Nat.reduceSub, List.replicate_succ, List.replicate_zero, List.cons_append, List.nil_append]; unfold is_fraction_B; array_get_dec
  refine num_wp.imp ?_
  rintro _ _ ⟨rfl, rfl⟩
  array_get_dec
  refine num_wp.imp ?_
  rintro _ _ ⟨rfl, rfl⟩
  array_get_dec
  refine brT (decide_eq_true hp) ?_
  array_get_dec
  refine Wp.of (cd_eq (by omega)) ?_
  array_get_dec
  refine ⟨?_, rfl⟩
  rw [h.cop]
  rfl
end
end K30
namespace K27
open PySem PySem.Spec PyProof.Rows L2 G Th AL K37 KL Fr
open K24 (Wk moV Mo Tb paV add120)
open K19 (F9 H9 Tr9 stA toV wsV history_wp)
open K30 (Fit tV at_t fr_wp num_wp)
open K26 (step_in nz nz_get Rg)
open K22 (number_wp reach_R fit_no End Ask)
open K37 (common_divisor_ common_divisor_B ratio_ ratio_B added_ added_B less_ less_B parted_ parted_B is_below_ is_below_B drift_of_ drift_of_B moves_into_ moves_into_B history_moves_ history_moves_B)
open K19 (history_steps_ history_steps_B feedL_ feedL_B drawL_ drawL_B fracL_ fracL_B fieldL_ fieldL_B ratesL_ ratesL_B openL_ openL_B drawnL_ drawnL_B barredL_ barredL_B)
open K24 (common_unit_ common_unit_B whole_steps_ whole_steps_B go_over_ go_over_B go_down_ go_down_B ring_behind_ ring_behind_B world_or_ring_ world_or_ring_B ring_of_ ring_of_B sums_parted_ sums_parted_B only_at_ only_at_B steps_leaving_ steps_leaving_B run_clever_ run_clever_B)
open K30 (is_number_ is_number_B is_fraction_ is_fraction_B are_fractions_ are_fractions_B world_bars_ world_bars_B)
open K22 (bar_number_ bar_number_B bar_ring_ bar_ring_B reach_clever_ reach_clever_B reach_ reach_B)
section
variable {fl : Fl} {es : List Ev} {S : Sto} {ws : List K24.Sp}
theorem okG {a : Int} (h : a.natAbs < 2 ^ 60) : Fr.Ok 60 (Fr.mk a 120) := Fr.mk_ok (by decide) h (by decide)
theorem bdG {a : Int} (h : a.natAbs < 2 ^ 60) : Bd (Fr.mk a 120) := Bd.of (okG h) (by decide)
theorem addG {a b : Int} (ha : a.natAbs < 2 ^ 60) (hb : b.natAbs < 2 ^ 60) : Wp (added_ [tV a, tV b] S) fun v T => v = tV (a + b) ∧ S = T :=
  Wp.of (added_eq (bdG ha) (bdG hb)) ⟨congrArg frV (add120 a b), rfl⟩
theorem belG {a b : Int} (ha : a.natAbs < 2 ^ 60) (hb : b.natAbs < 2 ^ 60) : Wp (is_below_ [tV a, tV b] S) fun v T => v = .bl (decide (a < b)) ∧ S = T := by
  refine Wp.of (is_below_eq (bdG ha) (bdG hb)) ⟨?_, rfl⟩
  congr 1
  by_cases c : a < b
  · rw [decide_eq_true c]
    apply decide_eq_true
    have := (q_lt (p := Fr.mk a 120) (r := Fr.mk b 120) (Fr.mk_pos (by decide)) (Fr.mk_pos (by decide))).mpr (by
      rw [q_mk (by decide), q_mk (by decide)]
      have e : ((120 : Int) : Rat) = 120 := rfl
      rw [e]
      have : (a : Rat) < (b : Rat) := Rat.intCast_lt_intCast.mpr c
      grind)
    exact this
  · rw [decide_eq_false c]
    exact decide_eq_false (K24.mk120_le (by omega))
theorem numbers_wp {js : List Nat} (jl : js.length ≤ 1000) : Wp (are_numbers_ [.tup (js.map natV)] S) fun v U => v = .bl true ∧ Kn S U := by
  refine AL.wf ?_; simp only [List.map_cons, List.map_nil, List.length_cons, List.length_nil, Nat.reduceAdd, Nat.reduceSub, List.replicate_succ, List.replicate_zero, List.cons_append, List.nil_append]; unfold are_numbers_B; array_get_dec
  refine .inl ⟨_, rfl, ?_⟩
  refine lc_pure (fun _ => true) (fun _ => .bl true) trivial (by rw [List.length_map]; omega) (fun v hv => ?_) ?_
  · obtain ⟨k, _, rfl⟩ := List.mem_map.mp hv
    refine bn rfl ?_
    array_get_dec
    refine ⟨rfl, rfl, fun _ => ?_⟩
    array_get_dec
    exact K30.num_wp.imp fun _ _ ⟨e1, e2⟩ => ⟨e1, e2.symm⟩
  · rw [List.filter_eq_self.mpr (fun _ _ => rfl)]
    have e : (js.map natV).map (fun _ => Val.bl true) = (js.map fun _ => true).map Val.bl := by rw [List.map_map, List.map_map]; rfl
    rw [e]
    intro T r e_r l_T g_r k_T
    array_get_dec
    refine vAll rfl g_r ?_
    exact ⟨by simp, k_T⟩
def tot (ws : List K24.Sp) (js : List Nat) : Int := (js.map fun j => (nz ws j).2.2).sum
theorem tot_take {js : List Nat} {i : Nat} (h : i < js.length) : tot ws (js.take (i + 1)) = tot ws (js.take i) + (nz ws js[i]).2.2 := by
  unfold tot
  rw [List.take_succ, List.getElem?_eq_getElem h, List.map_append, List.sum_append]
  simp
theorem tot_bd {W : Nat} {js : List Nat} (sm : ∀ w ∈ ws, w.2.2.natAbs ≤ W) : (tot ws js).natAbs ≤ js.length * W := by
  induction js with
  | nil => exact Nat.zero_le _
  | cons j r ih =>
    have b : (nz ws j).2.2.natAbs ≤ W := by
      rcases Nat.lt_or_ge j ws.length with c | c
      · rw [nz_get (List.getElem?_eq_getElem c)]
        exact sm _ (List.getElem_mem c)
      · have : nz ws j = (0, 0, 0) := by unfold nz; rw [List.getD, List.getElem?_eq_none c]; rfl
        rw [this]
        exact Nat.zero_le _
    have : tot ws (j :: r) = (nz ws j).2.2 + tot ws r := by unfold tot; rw [List.map_cons, List.sum_cons]
    rw [this, List.length_cons, Nat.succ_mul]
    omega
theorem at_ws {j : Nat} (h : j < ws.length) : atI (ws.map toV) ((j : Nat) : Int) = some (toV (nz ws j)) := at_nat (map_get (by rw [nz_get (List.getElem?_eq_getElem h), List.getElem?_eq_getElem h]))
theorem along_wp {js : List Nat} (sm : ∀ w ∈ ws, w.2.2.natAbs ≤ 8053063680) (lt : ∀ j ∈ js, j < ws.length) (jl : js.length ≤ 1000) : Wp (sum_along_ [.tup (ws.map toV), .tup (js.map natV)] S) fun v T => v = tV (tot ws js) ∧ S = T := by
  have p60' : (2 : Nat) ^ 60 = 1152921504606846976 := by decide
  refine AL.wf ?_; simp only [List.map_cons, List.map_nil, List.length_cons, List.length_nil, Nat.reduceAdd, Nat.reduceSub, List.replicate_succ, List.replicate_zero, List.cons_append, List.nil_append]; unfold sum_along_B; array_get_dec
  refine .inl ⟨_, rfl, ?_⟩
  refine ws_loop (fun i ρ T => (∃ z3 : Option Val, ρ = [some (.tup (ws.map toV)), some (.tup (js.map natV)), some (tV (tot ws (js.take i))), z3]) ∧ S = T) ⟨⟨_, by rw [List.take_zero, show tot ws [] = 0 from rfl, ← K30.tV0]⟩, rfl⟩ (fun _ _ _ _ _ => trivial) ?_ ?_
  · rintro i v ρ _ hv ⟨⟨z3, rfl⟩, rfl⟩
    rw [List.getElem?_map] at hv
    obtain ⟨j, hj, rfl⟩ := Option.map_eq_some_iff.mp hv
    obtain ⟨li, ej⟩ := List.getElem?_eq_some_iff.mp hj
    have lj := lt j (List.mem_of_getElem? hj)
    have b1 := tot_bd (js := js.take i) sm
    have b2 : (nz ws j).2.2.natAbs ≤ 8053063680 := by
      rw [nz_get (List.getElem?_eq_getElem lj)]
      exact sm _ (List.getElem_mem lj)
    have b3 : (js.take i).length ≤ 1000 := by rw [List.length_take]; omega
    refine bn rfl ?_
    array_get_dec
    refine vIxT rfl rfl (at_ws lj) ?_
    array_get_dec
    refine (addG (a := tot ws (js.take i)) (b := (nz ws j).2.2) (by omega) (by omega)).imp ?_
    rintro _ _ ⟨rfl, rfl⟩
    array_get_dec
    exact ⟨⟨_, by rw [tot_take li, ej]⟩, rfl⟩
  · rintro ρ _ ⟨⟨z3, rfl⟩, rfl⟩
    rw [List.length_map, List.take_length]
    array_get_dec
    exact ⟨rfl, rfl⟩
theorem letsring_wp {js : List Nat} (fo : F9 20 fl) (hv : H9 950 fl es) (hw : ws.map toV = stA fl es es.length) (rg : Rg ws js) (jl : js.length ≤ 1000) :
    Wp (lets_ring_ [hiV fl es, .tup (js.map natV)] S) fun v T => (∃ s : Int, s < 0 ∧ s.natAbs < 2 ^ 60 ∧ v = tV s) ∧ Kn S T := by
  have sm : ∀ w ∈ ws, w.2.2.natAbs ≤ 8053063680 := K24.step_small fo hv hw
  have ne := rg.ne
  have jb : ∀ i, i < js.length → js.getD i 0 < ws.length := fun i hi => rg.lt _ (by rw [List.getD, List.getElem?_eq_getElem hi]; exact List.getElem_mem hi)
  refine AL.wf ?_; simp only [List.map_cons, List.map_nil, List.length_cons, List.length_nil, Nat.reduceAdd, Nat.reduceSub, List.replicate_succ, List.replicate_zero, List.cons_append, List.nil_append]; unfold lets_ring_B; array_get_dec
  refine (numbers_wp jl).imp ?_
  rintro _ S1 ⟨rfl, k1⟩
  array_get_dec
  refine brF (by rw [List.length_map]; exact decide_eq_false (by omega)) ?_
  array_get_dec
  refine (history_wp fo hv).imp ?_
  rintro _ S2 ⟨rfl, k2⟩
  rw [← hw]
  array_get_dec
  refine .inl ⟨_, rfl, ?_⟩
  refine ws_loop (fun i ρ V => (∃ z5 z6 : Option Val, ρ = [some (hiV fl es), some (.tup (js.map natV)), some (.tup (ws.map toV)), none, none, z5, z6]) ∧ S2 = V) ⟨⟨_, _, rfl⟩, rfl⟩ (fun _ _ _ _ _ => trivial) ?_ ?_
  · rintro i v ρ _ hv2 ⟨⟨z5, z6, rfl⟩, rfl⟩
    obtain ⟨q, hq, rfl⟩ := enumV_get hv2
    rw [List.getElem?_map] at hq
    obtain ⟨j, hj, rfl⟩ := Option.map_eq_some_iff.mp hq
    have lj := rg.lt j (List.mem_of_getElem? hj)
    refine bn rfl ?_
    array_get_dec
    refine brF (by rw [List.length_map]; simpa using lj) ?_
    array_get_dec
    exact ⟨⟨_, _, rfl⟩, rfl⟩
  rintro ρ _ ⟨⟨z5, z6, rfl⟩, rfl⟩
  have lastA : atI (js.map natV) (-1) = some (natV (js.getD (js.length - 1) 0)) := by
    have ln : (js.map natV).length = js.length := List.length_map ..
    unfold atI ixN
    rw [ln, if_neg (by decide), if_pos (by omega), Option.bind_some, show ((-1 : Int) + (js.length : Nat)).toNat = js.length - 1 by omega, List.getElem?_map]
    simp [List.getD, List.getElem?_eq_getElem (show js.length - 1 < js.length by omega), natV]
  array_get_dec
  refine vIxT rfl rfl lastA ?_
  array_get_dec
  refine vIxT rfl rfl (at_ws (jb _ (by omega))) ?_
  array_get_dec
  refine .inl ⟨_, rfl, ?_⟩
  refine ws_loop (fun i ρ V => (∃ (here : Nat) (z5 z6 : Option Val), ρ = [some (hiV fl es), some (.tup (js.map natV)), some (.tup (ws.map toV)), some (.int (here : Nat)), none, z5, z6] ∧ (i < js.length → here = (nz ws (js.getD i 0)).1)) ∧ S2 = V) ⟨⟨_, _, _, rfl, fun _ => rg.la⟩, rfl⟩ (fun _ _ _ _ _ => trivial) ?_ ?_
  · rintro i v ρ _ hv2 ⟨⟨here, z5', z6', rfl, eh⟩, rfl⟩
    obtain ⟨q, hq, rfl⟩ := enumV_get hv2
    rw [List.getElem?_map] at hq
    obtain ⟨j, hj, rfl⟩ := Option.map_eq_some_iff.mp hq
    obtain ⟨li, ej⟩ := List.getElem?_eq_some_iff.mp hj
    have gj : js.getD i 0 = j := by rw [List.getD, hj]; rfl
    have lj := rg.lt j (List.mem_of_getElem? hj)
    obtain rfl := eh li
    rw [gj]
    refine bn rfl ?_
    array_get_dec
    refine vIxT rfl rfl (at_ws lj) ?_
    array_get_dec
    refine brF (by simp) ?_
    array_get_dec
    refine vIxT rfl rfl (at_ws lj) ?_
    array_get_dec
    exact ⟨⟨_, _, _, rfl, fun h => by rw [← rg.nx i h, gj]⟩, rfl⟩
  rintro ρ _ ⟨⟨here, z5', z6', rfl, _⟩, rfl⟩
  array_get_dec
  refine (along_wp sm rg.lt jl).imp ?_
  rintro _ _ ⟨rfl, rfl⟩
  have neg : tot ws js < 0 := rg.neg
  have p60' : (2 : Nat) ^ 60 = 1152921504606846976 := by decide
  have bt := tot_bd (js := js) sm
  array_get_dec
  have ib := is_below_eq (S := S2) (bdG (a := tot ws js) (by omega)) (bdG (a := 0) (by decide))
  have z0 : (Fr.mk 0 120 : Fq) = (0, 1) := by decide +kernel
  rw [z0] at ib
  refine Wp.of ib ?_
  have p := Fr.mk_pos (a := tot ws js) (b := 120) (by decide)
  have c := Fr.mk_cross (a := tot ws js) (b := 120) (by decide)
  have n1 : (Fr.mk (tot ws js) 120).1 < 0 := by
    have : tot ws js * (Fr.mk (tot ws js) 120).2 < 0 := Int.mul_neg_of_neg_of_pos neg p
    omega
  have lt0 : (Fr.mk (tot ws js) 120).1 * (1 : Int) < 0 * (Fr.mk (tot ws js) 120).2 := by omega
  refine tb rfl (brF (by rw [Bool.not_eq_false']; exact decide_eq_true lt0) ?_)
  array_get_dec
  refine ws_retN ?_
  array_get_dec
  exact ⟨⟨_, neg, by omega, rfl⟩, k1.trans k2⟩

theorem letsno_wp {js : List Nat} {wo : List Int} (fo : F9 20 fl) (hv : H9 950 fl es) (hw : ws.map toV = stA fl es es.length) (fit : Fit ws wo) (jn : 0 < js.length) (jl : js.length ≤ 1000) :
    Wp (lets_ring_ [hiV fl es, .tup (js.map natV)] S) fun v T => (∃ vs, isX v = some (("NoPaper" : Str), vs)) ∧ Kn S T := by
  have sm : ∀ w ∈ ws, w.2.2.natAbs ≤ 8053063680 := K24.step_small fo hv hw
  refine AL.wf ?_; simp only [List.map_cons, List.map_nil, List.length_cons, List.length_nil, Nat.reduceAdd, Nat.reduceSub, List.replicate_succ, List.replicate_zero, List.cons_append, List.nil_append]; unfold lets_ring_B; array_get_dec
  refine (numbers_wp jl).imp ?_
  rintro _ S1 ⟨rfl, k1⟩
  array_get_dec
  refine brF (by rw [List.length_map]; exact decide_eq_false (by omega)) ?_
  array_get_dec
  refine (history_wp fo hv).imp ?_
  rintro _ S2 ⟨rfl, k2⟩
  rw [← hw]
  array_get_dec
  refine .inl ⟨_, rfl, ?_⟩
  refine ws_loop (fun i ρ V => (∃ z5 z6 : Option Val, ρ = [some (hiV fl es), some (.tup (js.map natV)), some (.tup (ws.map toV)), none, none, z5, z6]) ∧ S2 = V ∧ ∀ j ∈ js.take i, j < ws.length) ⟨⟨_, _, rfl⟩, rfl, fun j hj => by cases hj⟩ (fun _ _ _ _ _ => trivial) ?_ ?_
  · rintro i v ρ _ hv2 ⟨⟨z5, z6, rfl⟩, rfl, ok⟩
    obtain ⟨q, hq, rfl⟩ := enumV_get hv2
    rw [List.getElem?_map] at hq
    obtain ⟨j, hj, rfl⟩ := Option.map_eq_some_iff.mp hq
    refine bn rfl ?_
    array_get_dec
    rw [List.length_map]
    refine Br.of (fun c => ?_) (fun c => ?_)
    · refine ws_raise ?_
      array_get_dec
      exact ⟨⟨_, rfl⟩, k1.trans k2⟩
    · array_get_dec
      refine ⟨⟨_, _, rfl⟩, rfl, fun y hy => ?_⟩
      rw [List.take_succ, hj] at hy
      rcases List.mem_append.mp hy with hy | hy
      · exact ok y hy
      · simp at hy
        subst hy
        simpa using c
  rintro ρ _ ⟨⟨z5, z6, rfl⟩, rfl, lt⟩
  rw [K19.enumV_len, List.length_map, List.take_length] at lt
  have jb : ∀ i, i < js.length → js.getD i 0 < ws.length := fun i hi => lt _ (by rw [List.getD, List.getElem?_eq_getElem hi]; exact List.getElem_mem hi)
  have lastA : atI (js.map natV) (-1) = some (natV (js.getD (js.length - 1) 0)) := by
    have ln : (js.map natV).length = js.length := List.length_map ..
    unfold atI ixN
    rw [ln, if_neg (by decide), if_pos (by omega), Option.bind_some, show ((-1 : Int) + (js.length : Nat)).toNat = js.length - 1 by omega, List.getElem?_map]
    simp [List.getD, List.getElem?_eq_getElem (show js.length - 1 < js.length by omega), natV]
  array_get_dec
  refine vIxT rfl rfl lastA ?_
  array_get_dec
  refine vIxT rfl rfl (at_ws (jb _ (by omega))) ?_
  array_get_dec
  refine .inl ⟨_, rfl, ?_⟩
  generalize es0 : (nz ws (js.getD (js.length - 1) 0)).2.1 = st
  refine ws_loop (fun i ρ V => (∃ (here : Nat) (z5 z6 : Option Val), ρ = [some (hiV fl es), some (.tup (js.map natV)), some (.tup (ws.map toV)), some (.int (here : Nat)), none, z5, z6] ∧ (0 < i → here = (nz ws (js.getD (i - 1) 0)).2.1) ∧ wo.getD here 0 ≤ wo.getD st 0 + tot ws (js.take i)) ∧ S2 = V) ⟨⟨_, _, _, rfl, fun z => absurd z (Nat.lt_irrefl _), by show _ ≤ _ + (0 : Int); omega⟩, rfl⟩ (fun _ _ _ _ _ => trivial) ?_ ?_
  · rintro i v ρ _ hv2 ⟨⟨here, z5', z6', rfl, eh, pot⟩, rfl⟩
    obtain ⟨q, hq, rfl⟩ := enumV_get hv2
    rw [List.getElem?_map] at hq
    obtain ⟨j, hj, rfl⟩ := Option.map_eq_some_iff.mp hq
    obtain ⟨li, ej⟩ := List.getElem?_eq_some_iff.mp hj
    have gj : js.getD i 0 = j := by rw [List.getD, hj]; rfl
    have lj := lt j (List.mem_of_getElem? hj)
    refine bn rfl ?_
    array_get_dec
    refine vIxT rfl rfl (at_ws lj) ?_
    array_get_dec
    refine Br.of (fun c => ?_) (fun c => ?_)
    · refine ws_raise ?_
      array_get_dec
      exact ⟨⟨_, rfl⟩, k1.trans k2⟩
    · have c : (nz ws j).1 = here := by
        have : ((nz ws j).1 : Int) = (here : Nat) := by simpa using c
        omega
      array_get_dec
      refine vIxT rfl rfl (at_ws lj) ?_
      array_get_dec
      have f := fit (nz ws j) (by rw [nz_get (List.getElem?_eq_getElem lj)]; exact List.getElem_mem lj)
      refine ⟨⟨_, _, _, rfl, fun _ => by rw [Nat.add_sub_cancel, gj], ?_⟩, rfl⟩
      rw [tot_take li, ej]
      rw [c] at f
      omega
  rintro ρ _ ⟨⟨here, z5', z6', rfl, eh, pot⟩, rfl⟩
  rw [K19.enumV_len, List.length_map] at eh pot
  rw [List.take_length] at pot
  have he : here = st := by rw [eh jn]; exact es0
  subst he
  array_get_dec
  refine (along_wp sm lt jl).imp ?_
  rintro _ _ ⟨rfl, rfl⟩
  have p60' : (2 : Nat) ^ 60 = 1152921504606846976 := by decide
  have bt := tot_bd (js := js) sm
  array_get_dec
  have z0 : Val.tup [.int 0, .int 1] = tV 0 := K30.tV0
  rw [z0]
  refine (belG (a := tot ws js) (b := 0) (by omega) (by decide)).imp ?_
  rintro _ _ ⟨rfl, rfl⟩
  refine tb rfl (brT (by rw [Bool.not_eq_true']; exact decide_eq_false (by omega)) ?_)
  refine ws_raise ?_
  array_get_dec
  exact ⟨⟨_, rfl⟩, k1.trans k2⟩
theorem are_wp {W : List Int} (h : ∀ i, (W.getD i 0).natAbs < 2 ^ 60) (hl : W.length ≤ 30) : Wp (are_fractions_ [.tup (W.map tV)] S) fun v T => v = .bl true ∧ Kn S T := by
  refine AL.wf ?_; simp only [List.map_cons, List.map_nil, List.length_cons, List.length_nil, Nat.reduceAdd, Nat.reduceSub, List.replicate_succ, List.replicate_zero, List.cons_append, List.nil_append]; unfold are_fractions_B; array_get_dec
  refine .inl ⟨_, rfl, ?_⟩
  refine lc_pure (fun _ => true) (fun _ => .bl true) trivial (by rw [List.length_map]; omega) (fun v hv => ?_) ?_
  · obtain ⟨a, ha, rfl⟩ := List.mem_map.mp hv
    obtain ⟨i, hi, e⟩ := List.getElem_of_mem ha
    have b := h i
    rw [List.getD, List.getElem?_eq_getElem hi, e] at b
    have b : a.natAbs < 2 ^ 60 := b
    array_get_dec
    refine ⟨rfl, rfl, fun _ => ?_⟩
    array_get_dec
    exact (fr_wp (okG b)).imp fun _ _ ⟨e1, e2⟩ => ⟨e1, e2.symm⟩
  · rw [List.filter_eq_self.mpr (fun _ _ => rfl)]
    have e : (W.map tV).map (fun _ => Val.bl true) = (W.map fun _ => true).map Val.bl := by rw [List.map_map, List.map_map]; rfl
    rw [e]
    intro T r e_r l_T g_r k_T
    array_get_dec
    refine vAll rfl g_r ?_
    exact ⟨by simp, k_T⟩

theorem bars_wp {W : List Int} (fo : F9 20 fl) (hv : H9 950 fl es) (hw : ws.map toV = stA fl es es.length) (lW : W.length = es.length) (bW : ∀ i, (W.getD i 0).natAbs < 2 ^ 58) :
    Wp (world_bars_ [hiV fl es, .tup (W.map tV)] S) fun v T => ((v = .non ∧ Fit ws W) ∨ ∃ i : Int, v = .int i ∧ ¬ Fit ws W) ∧ Kn S T := by
  have sm : ∀ w ∈ ws, w.2.2.natAbs ≤ 8053063680 := K24.step_small fo hv hw
  have hz := step_in fo hv hw
  have p58 : (2 : Nat) ^ 58 = 288230376151711744 := by decide
  have p60' : (2 : Nat) ^ 60 = 1152921504606846976 := by decide
  refine AL.wf ?_; simp only [List.map_cons, List.map_nil, List.length_cons, List.length_nil, Nat.reduceAdd, Nat.reduceSub, List.replicate_succ, List.replicate_zero, List.cons_append, List.nil_append]; unfold world_bars_B; array_get_dec
  refine (history_wp fo hv).imp ?_
  rintro _ S1 ⟨rfl, k1⟩
  rw [← hw]
  array_get_dec
  refine .inl ⟨_, rfl, ?_⟩
  refine ws_loop (fun i ρ T => (∃ z2 z3 z4 z5 z6 : Option Val, ρ = [some (hiV fl es), some (.tup (W.map tV)), z2, z3, z4, z5, z6]) ∧ S1 = T ∧ ∀ z ∈ ws.take i, W.getD z.2.1 0 ≤ W.getD z.1 0 + z.2.2) ⟨⟨_, _, _, _, _, rfl⟩, rfl, fun z hz => by cases hz⟩ (fun _ _ _ _ _ => trivial) ?_ ?_
  · rintro i v ρ _ hvi ⟨⟨z2, z3, z4, z5, z6, rfl⟩, rfl, ok⟩
    obtain ⟨w, hwi, rfl⟩ := enumV_get hvi
    rw [List.getElem?_map] at hwi
    obtain ⟨z, hzi, rfl⟩ := Option.map_eq_some_iff.mp hwi
    have zm := List.mem_of_getElem? hzi
    obtain ⟨l1, l2⟩ := hz z zm
    have b1 := bW z.1
    have b2 := bW z.2.1
    have b3 := sm z zm
    refine bn rfl ?_
    array_get_dec
    refine vIxT rfl rfl (at_t (by omega)) ?_
    array_get_dec
    refine (addG (a := W.getD z.1 0) (b := z.2.2) (by omega) (by omega)).imp ?_
    rintro _ _ ⟨rfl, rfl⟩
    array_get_dec
    refine vIxT rfl rfl (at_t (by omega)) ?_
    array_get_dec
    refine (belG (by omega) (by omega)).imp ?_
    rintro _ _ ⟨rfl, rfl⟩
    refine tb rfl (Br.of (fun c => ?_) (fun c => ?_))
    · have c := of_decide_eq_true c
      array_get_dec
      exact ⟨.inr ⟨_, rfl, fun f => by have := f z zm; omega⟩, k1⟩
    · have c := of_decide_eq_false c
      array_get_dec
      refine ⟨⟨_, _, _, _, _, rfl⟩, rfl, fun y hy => ?_⟩
      rw [List.take_succ, hzi] at hy
      rcases List.mem_append.mp hy with hy | hy
      · exact ok y hy
      · simp at hy
        subst hy
        omega
  · rintro ρ _ ⟨⟨z2, z3, z4, z5, z6, rfl⟩, rfl, ok⟩
    rw [K19.enumV_len, List.length_map, List.take_length] at ok
    array_get_dec
    exact ⟨.inl ⟨rfl, ok⟩, k1⟩
theorem letsworld_wp {W : List Int} (fo : F9 20 fl) (hv : H9 950 fl es) (hw : ws.map toV = stA fl es es.length) (lW : W.length = es.length) (bW : ∀ i, (W.getD i 0).natAbs < 2 ^ 58) :
    Wp (lets_world_ [hiV fl es, .tup (W.map tV)] S) fun v T => ((v = .int (es.length : Nat) ∧ Fit ws W) ∨ ((∃ vs, isX v = some (("NoPaper" : Str), vs)) ∧ ¬ Fit ws W)) ∧ Kn S T := by
  have l30 := hv.len
  refine AL.wf ?_; simp only [List.map_cons, List.map_nil, List.length_cons, List.length_nil, Nat.reduceAdd, Nat.reduceSub, List.replicate_succ, List.replicate_zero, List.cons_append, List.nil_append]; unfold lets_world_B; array_get_dec
  refine (are_wp (fun i => Nat.lt_trans (bW i) (by decide)) (by omega)).imp ?_
  rintro _ S1 ⟨rfl, k1⟩
  array_get_dec
  refine Br.of (fun c => (by rw [List.length_map, List.length_map, lW] at c; simp at c)) (fun _ => ?_)
  array_get_dec
  refine (bars_wp fo hv hw lW bW).imp ?_
  rintro _ S2 ⟨⟨rfl, fit⟩ | ⟨i, rfl, no⟩, k2⟩
  · array_get_dec
    refine ws_retN ?_
    array_get_dec
    exact ⟨.inl ⟨by rw [List.length_map, lW], fit⟩, k1.trans k2⟩
  · array_get_dec
    refine ws_raise ?_
    array_get_dec
    exact ⟨.inr ⟨⟨_, rfl⟩, no⟩, k1.trans k2⟩
end
end K27
namespace K27
open PySem PySem.Spec PyProof.Rows L2 G Th AL K37 KL Fr
open K24 (Wk moV Mo Tb paV add120)
open K19 (F9 H9 Tr9 stA toV wsV history_wp)
open K30 (Fit tV at_t fr_wp num_wp)
open K26 (step_in nz nz_get Rg)
open K22 (number_wp reach_R fit_no End Ask)
open K37 (common_divisor_ common_divisor_B ratio_ ratio_B added_ added_B less_ less_B parted_ parted_B is_below_ is_below_B drift_of_ drift_of_B moves_into_ moves_into_B history_moves_ history_moves_B)
open K19 (history_steps_ history_steps_B feedL_ feedL_B drawL_ drawL_B fracL_ fracL_B fieldL_ fieldL_B ratesL_ ratesL_B openL_ openL_B drawnL_ drawnL_B barredL_ barredL_B)
open K24 (common_unit_ common_unit_B whole_steps_ whole_steps_B go_over_ go_over_B go_down_ go_down_B ring_behind_ ring_behind_B world_or_ring_ world_or_ring_B ring_of_ ring_of_B sums_parted_ sums_parted_B only_at_ only_at_B steps_leaving_ steps_leaving_B run_clever_ run_clever_B)
open K30 (is_number_ is_number_B is_fraction_ is_fraction_B are_fractions_ are_fractions_B world_bars_ world_bars_B)
open K22 (bar_number_ bar_number_B bar_ring_ bar_ring_B reach_clever_ reach_clever_B reach_ reach_B)
section
variable [AL.TT]
variable {fl : Fl} {es : List Ev} {S : Sto} {ws : List K24.Sp}
abbrev gv (q : Str) : Val := .fn q (AL.TT.cls q)
theorem letW_wp {W : List Int} (fo : F9 20 fl) (hv : H9 950 fl es) (hw : ws.map toV = stA fl es es.length) (lW : W.length = es.length) (bW : ∀ i, (W.getD i 0).natAbs < 2 ^ 58) :
    Wp (letL_ [gv "lets_world", hiV fl es, .tup (W.map tV)] S) fun v T => ((v = .int (es.length : Nat) ∧ Fit ws W) ∨ (v = .non ∧ ¬ Fit ws W)) ∧ Kn S T := by
  refine AL.wf ?_; simp only [List.map_cons, List.map_nil, List.length_cons, List.length_nil, Nat.reduceAdd, Nat.reduceSub, List.replicate_succ, List.replicate_zero, List.cons_append, List.nil_append]; unfold letL_B; array_get_dec
  refine ws_try (ws_asgX (wDefV rfl rfl ?_))
  array_get_dec
  refine (letsworld_wp fo hv hw lW bW).imp ?_
  rintro v T ⟨⟨rfl, f⟩ | ⟨⟨vs, hx⟩, f⟩, k⟩
  · refine Xs.no rfl (bn rfl ?_)
    array_get_dec
    exact ⟨.inl ⟨rfl, f⟩, k⟩
  · refine Xs.yes hx (.inr ⟨vs, hx, ?_⟩)
    array_get_dec
    exact ⟨.inr ⟨rfl, f⟩, k⟩
theorem letR_wp {js : List Nat} (fo : F9 20 fl) (hv : H9 950 fl es) (hw : ws.map toV = stA fl es es.length) (rg : Rg ws js) (jl : js.length ≤ 1000) :
    Wp (letL_ [gv "lets_ring", hiV fl es, .tup (js.map natV)] S) fun v T => (∃ s : Int, v = tV s ∧ s.natAbs < 2 ^ 60) ∧ Kn S T := by
  refine AL.wf ?_; simp only [List.map_cons, List.map_nil, List.length_cons, List.length_nil, Nat.reduceAdd, Nat.reduceSub, List.replicate_succ, List.replicate_zero, List.cons_append, List.nil_append]; unfold letL_B; array_get_dec
  refine ws_try (ws_asgX (wDefV rfl rfl ?_))
  array_get_dec
  refine (letsring_wp fo hv hw rg jl).imp ?_
  rintro v T ⟨⟨s, s0, sb, rfl⟩, k⟩
  refine Xs.no rfl (bn rfl ?_)
  array_get_dec
  exact ⟨⟨s, rfl, sb⟩, k⟩
theorem let01_wp {wo : List Int} (fo : F9 20 fl) (hv : H9 950 fl es) (hw : ws.map toV = stA fl es es.length) (fit : Fit ws wo) :
    Wp (letL_ [gv "lets_ring", hiV fl es, .tup [.int 0, .int 1]] S) fun v T => v = .non ∧ Kn S T := by
  refine AL.wf ?_; simp only [List.map_cons, List.map_nil, List.length_cons, List.length_nil, Nat.reduceAdd, Nat.reduceSub, List.replicate_succ, List.replicate_zero, List.cons_append, List.nil_append]; unfold letL_B; array_get_dec
  refine ws_try (ws_asgX (wDefV rfl rfl ?_))
  array_get_dec
  refine (letsno_wp (js := [0, 1]) fo hv hw fit (by decide) (by decide)).imp ?_
  rintro v T ⟨⟨vs, hx⟩, k⟩
  refine Xs.yes hx (.inr ⟨vs, hx, ?_⟩)
  array_get_dec
  exact ⟨rfl, k⟩
theorem barring_wp (fo : F9 20 fl) (hv : H9 950 fl es) (hw : ws.map toV = stA fl es es.length) (wl : ws.length ≤ 120) (n0 : 0 < es.length) :
    Wp (barringL_ [hiV fl es] S) fun v T => ((v = .non ∧ ∃ wo : List Int, Fit ws wo) ∨ ∃ js : List Nat, v = .tup (js.map natV) ∧ Rg ws js ∧ js.length ≤ 1000) ∧ Kn S T := by
  refine AL.wf ?_; simp only [List.map_cons, List.map_nil, List.length_cons, List.length_nil, Nat.reduceAdd, Nat.reduceSub, List.replicate_succ, List.replicate_zero, List.cons_append, List.nil_append]; unfold barringL_B; array_get_dec
  refine ws_tryE (ws_exprX ?_)
  array_get_dec
  refine (reach_R fo hv hw wl).imp ?_
  rintro v T ⟨⟨_, _, a⟩ | ⟨no, _⟩, k⟩
  rotate_left
  · exact absurd ⟨by omega, by omega⟩ no
  rcases a with ⟨x, e, hx, a⟩ | ⟨no, _⟩
  rotate_left
  · rw [List.length_map] at no
    exact absurd ⟨by omega, by omega⟩ no
  cases a with
  | fit wo l f q =>
    obtain ⟨y, mo, _, rfl, _⟩ := q
    refine Xs.no ?_ ?_
    · cases mo.getD x none <;> rfl
    · array_get_dec
      exact ⟨.inl ⟨rfl, wo, f⟩, k⟩
  | ring js rg jl e =>
    subst e
    refine Xs.yes rfl (.inr ⟨"NoWorld", [.tup (js.map natV)], .nx [some (hiV fl es), some (.tup (js.map natV)), none] T, rfl, by simp, rfl, fun xv => ?_, ?_⟩)
    · have := AL.res_of (r := barringL_H "NoWorld" [.tup (js.map natV)] xv ([some (hiV fl es), some .non, none].set 2 (some xv)) T) (ρ0 := [some (hiV fl es), some (.tup (js.map natV)), some xv]) (S0 := T) ?_
      · rw [this]
        rfl
      unfold barringL_H
      rw [if_pos rfl]
      unfold barringL_S_NoWorld
      array_get_dec
      refine wXf rfl ?_
      array_get_dec
      exact ⟨rfl, rfl⟩
    · array_get_dec
      exact ⟨.inr ⟨js, rfl, rg, jl⟩, k⟩
end
end K27
namespace K27
open PySem PySem.Spec PyProof.Rows L2 G Th AL K37 KL Fr
open K19 (F9 H9 L9 Tq StB Sd Tr9 draw_wp frac_wp sh_evs mk2_small cut_mk set_get map_set' ixN_nat lk99 st_small at_ev' mk2_ok vNeTup)
open K08 (wm wd ws_cut)
open K37 (common_divisor_ common_divisor_B ratio_ ratio_B added_ added_B less_ less_B parted_ parted_B is_below_ is_below_B drift_of_ drift_of_B moves_into_ moves_into_B history_moves_ history_moves_B)
open K19 (history_steps_ history_steps_B feedL_ feedL_B drawL_ drawL_B fracL_ fracL_B fieldL_ fieldL_B ratesL_ ratesL_B openL_ openL_B drawnL_ drawnL_B barredL_ barredL_B)
open K24 (common_unit_ common_unit_B whole_steps_ whole_steps_B go_over_ go_over_B go_down_ go_down_B ring_behind_ ring_behind_B world_or_ring_ world_or_ring_B ring_of_ ring_of_B sums_parted_ sums_parted_B only_at_ only_at_B steps_leaving_ steps_leaving_B run_clever_ run_clever_B)
open K30 (is_number_ is_number_B is_fraction_ is_fraction_B are_fractions_ are_fractions_B world_bars_ world_bars_B)
open K22 (bar_number_ bar_number_B bar_ring_ bar_ring_B reach_clever_ reach_clever_B reach_ reach_B)
theorem f9_mono {c c' : Int} {fl : Fl} (h : F9 c fl) (l : c ≤ c') : F9 c' fl := ⟨h.nd, h.ne, h.few, h.rate, fun l hl => by obtain ⟨⟨n, a, b, c⟩, d, e⟩ := h.lk l hl; exact ⟨⟨n, a, b, by omega⟩, d, e⟩, h.lfew, h.tx, h.so⟩
theorem barredG_wp {S : Sto} {B : Int} {fl : Fl} {es : List Ev} (TT : Tq S B) (hB : B < 90000) {cc : Int} {bb : Nat} (hc : cc + 3 ≤ 20) (c0 : 0 ≤ cc) (hb : bb + 40 ≤ 950) (fo : F9 cc fl) (hv : H9 bb fl es) :
    Wp (barredL_ [.ref 2, hiV fl es] S) fun v T => ∃ (fl' : Fl) (es' : List Ev), v = hiV fl' es' ∧ es'.length = es.length ∧ F9 (cc + 3) fl' ∧ H9 (bb + 40) fl' es' ∧ Tq T (B + 10) ∧ Kx 2 S T := by
  have h60 := p60
  have h62 := p62
  have l30 := hv.len
  have she := ShL.map (f := evV) es (sh_evs (f9_mono fo (show cc ≤ 20 by omega)) hv)
  have two := TT.two
  have lfew := fo.lfew
  refine AL.wf ?_; simp only [List.map_cons, List.map_nil, List.length_cons, List.length_nil, Nat.reduceAdd, Nat.reduceSub, List.replicate_succ, List.replicate_zero, List.cons_append, List.nil_append]; unfold barredL_B; array_get_dec
  refine (draw_wp TT (by decide) (by decide) (by omega)).imp ?_
  rintro _ S1 ⟨way, rfl, w0, w3, t1, k1⟩
  array_get_dec
  refine vMax2 rfl rfl ?_
  rw [List.length_map]
  array_get_dec
  have am : (if ((es.length : Nat) : Int) > 1 then ((es.length : Nat) : Int) else 1) = 1 ∨ (if ((es.length : Nat) : Int) > 1 then ((es.length : Nat) : Int) else 1) = (es.length : Nat) := by split <;> simp
  refine (draw_wp t1 (by split <;> omega) (by split <;> omega) (by omega)).imp ?_
  rintro _ S2 ⟨at_, rfl, a0, a1, t2, k2⟩
  have two2 := t2.two
  have k02 := k1.trans k2
  refine wa0 ?_
  refine bn rfl (ws_seq (ws_cut (N' := fun ρ T => ρ = [some (.ref 2), some (hiV fl es), none, some (flV fl), some (.tup (es.map evV)), some (.int way), some (.int at_), none, none, none, none, none, none, none, none, none, none] ∧ S2 = T) ?_ ?_))
  · array_get_dec
    refine Br.of (fun c => ?_) (fun c => ?_)
    · array_get_dec
      refine vNeTup she (by decide) rfl rfl ?_
      refine tb rfl (Br.of (fun c2 => ?_) (fun c2 => ?_))
      · have ne : 0 < es.length := by cases es with | nil => simp at c2 | cons => simp
        have at1 : at_ < (es.length : Nat) := by split at a1 <;> omega
        have atE : ((at_.toNat : Nat) : Int) = at_ := by omega
        have atl : at_.toNat < es.length := by omega
        array_get_dec
        refine (draw_wp t2 (by decide) (by decide) (by omega)).imp ?_
        rintro _ S3 ⟨x, rfl, x0, x1, t3, k3⟩
        have two3 := t3.two
        array_get_dec
        refine vListT rfl ?_
        intro S4 Fd e_Fd l_S4 g_Fd k_S4
        array_get_dec
        rw [List.length_map]
        refine ⟨_, _, rfl, ?_, by omega, by omega, by omega, by omega⟩
        refine ws_loop (fun i ρ T => (∃ z9 z14 z15 z16, ρ = [some (.ref 2), some (hiV fl es), none, some (flV fl), some (.tup (es.map evV)), some (.int way), some (.int at_), some (.int (1 + x)), some (.ref Fd), z9, none, none, none, none, z14, z15, z16]) ∧ (∃ F : List Ev, T[Fd]? = some (.lst (F.map evV)) ∧ F.length = es.length ∧ ∀ j, j < es.length → (F.getD j dEv).name = (es.getD j dEv).name ∧ (F.getD j dEv).deed = (es.getD j dEv).deed ∧ StB (bb + 40) (F.getD j dEv).stamp) ∧ Kx Fd S4 T)
          ⟨⟨_, _, _, _, rfl⟩, ⟨es, g_Fd, rfl, fun j hj => ⟨rfl, rfl, by obtain ⟨k, e, l⟩ := hv.st j hj; exact ⟨k, e, by omega⟩⟩⟩, Kx.refl _ _⟩ (fun _ _ _ _ _ => trivial) ?_ ?_
        · rintro i v ρ T hv2 ⟨⟨z9, z14, z15, z16, rfl⟩, ⟨F, hF, fl', fok⟩, kx⟩
          obtain ⟨rfl, hi⟩ := rangeV_get hv2
          obtain ⟨n, hn⟩ : ∃ n : Nat, at_ + (i : Int) = (n : Nat) := ⟨(at_ + i).toNat, by omega⟩
          have ln : n < es.length := by omega
          have lFd := lt_of_at hF
          have stn := hv.st n ln
          obtain ⟨s1, s2, s3⟩ := st_small (by omega) stn
          refine bn rfl ?_
          rw [hn]
          array_get_dec
          refine vIxT rfl rfl (at_ev' ln) ?_
          array_get_dec
          refine vIxT rfl rfl (show atI (es.map evV) at_ = _ by rw [← atE]; exact at_ev' atl) ?_
          array_get_dec
          refine Br.of (fun c3 => ?_) (fun c3 => ?_)
          · array_get_dec
            · refine (frac_wp (by decide) (by decide)).imp ?_
              rintro _ _ ⟨rfl, rfl⟩
              array_get_dec
              refine vPutL hF (j := n) (by rw [List.length_map, fl']; exact ixN_nat ln) ?_
              intro T1 l_T1 g_T1 k_T1
              obtain ⟨k, ke, kl⟩ := stn
              have e4 : (es.getD n dEv).stamp.1 * 4 / (es.getD n dEv).stamp.2 = k := by rw [ke]; exact cut_mk (by decide)
              rw [e4] at g_T1
              refine ⟨⟨_, _, _, _, rfl⟩, ⟨F.set n ⟨(es.getD n dEv).name, Fr.mk (k + (1 + x)) 4, (es.getD n dEv).deed⟩, by rw [← map_set']; exact g_T1, by rw [List.length_set]; exact fl', fun j hj => ?_⟩, kx.trans k_T1⟩
              rw [set_get (by omega)]
              split
              · next e => subst e; exact ⟨rfl, rfl, k + (1 + x), rfl, by omega⟩
              · exact fok j hj
            · exact wd s2 s3
            · exact wm s1 (by decide)
          · array_get_dec
            exact ⟨⟨_, _, _, _, rfl⟩, ⟨F, hF, fl', fok⟩, kx⟩
        · rintro ρ T ⟨⟨z9, z14, z15, z16, rfl⟩, ⟨F, hF, fl', fok⟩, kx⟩
          array_get_dec
          refine ⟨fl, F, rfl, fl', f9_mono fo (by omega), ⟨by omega, fun j hj => ?_, fun j hj => (fok j (by omega)).2.2⟩, ((t3.fr k_S4).kx kx (by omega)).mono (by omega), fun k o hk ho => ?_⟩
          · obtain ⟨h1, h2, k, ke, kl⟩ := fok j (by omega)
            have eo := hv.ev j (by omega)
            refine ⟨by rw [h1]; exact eo.name, ⟨k, ke, by omega⟩, fun l hl => eo.send l (by rw [← h2]; exact hl), fun k hk => ?_⟩
            obtain ⟨a, l, b⟩ := eo.hear k (by rw [← h2]; exact hk)
            exact ⟨a, l, by rw [(fok k (by omega)).2.1]; exact b⟩
          · have lo := lt_of_at ho
            exact kx k o (by have := k02.len; have := k3.len; by_cases z : 2 + 1 < S.length <;> omega) (k_S4.at (k3 k o hk (k02 k o hk ho)))
      · array_get_dec
        exact ⟨rfl, rfl⟩
    · exact brF rfl (ws_nil ⟨rfl, rfl⟩)
  · rintro _ _ ⟨rfl, rfl⟩
    array_get_dec
    intro S3 Lr e_Lr l_S3 g_Lr k_S3
    array_get_dec
    refine .inl ⟨_, rfl, ?_⟩
    refine ws_loop (fun i ρ T => (∃ z10 z11 z12 z13, ρ = [some (.ref 2), some (hiV fl es), some (.ref Lr), some (flV fl), some (.tup (es.map evV)), some (.int way), some (.int at_), none, none, none, z10, z11, z12, z13, none, none, none]) ∧ (∃ ls : List Lk, T[Lr]? = some (.lst (ls.map lkV)) ∧ ls.length = i ∧ ∀ l ∈ ls, L9 (cc + 3) l) ∧ Kx Lr S3 T)
      ⟨⟨_, _, _, _, rfl⟩, ⟨[], g_Lr, rfl, fun l h => (by cases h)⟩, Kx.refl _ _⟩ (fun _ _ _ _ _ => trivial) ?_ ?_
    · rintro i v ρ T hv2 ⟨⟨z10, z11, z12, z13, rfl⟩, ⟨ls, hL, ll, lok⟩, kx⟩
      rw [List.getElem?_map] at hv2
      obtain ⟨l, hl, rfl⟩ := Option.map_eq_some_iff.mp hv2
      have li := (List.getElem?_eq_some_iff.mp hl).1
      obtain ⟨⟨n, ne, n0, n1⟩, mo, tx⟩ := fo.lk l (List.mem_of_getElem? hl)
      have sm := mk2_small n0 (by omega)
      have fin : ∀ (l' : Lk) (T' : Sto), L9 (cc + 3) l' → T'[Lr]? = some (.lst (ls.map lkV ++ [lkV l'])) → Kx Lr T T' → (∃ ls : List Lk, T'[Lr]? = some (.lst (ls.map lkV)) ∧ ls.length = i + 1 ∧ ∀ l ∈ ls, L9 (cc + 3) l) ∧ Kx Lr S3 T' := by
        intro l' T' h1 h2 h3
        refine ⟨⟨ls ++ [l'], by rw [List.map_append]; exact h2, by simp [ll], fun z hz => ?_⟩, kx.trans h3⟩
        rcases List.mem_append.mp hz with hz | hz
        · exact lok z hz
        · simp only [List.mem_singleton] at hz
          subst hz
          exact h1
      refine bn rfl ?_
      array_get_dec
      refine Br.of (fun c => ?_) (fun c => ?_)
      · have e2 : l.least.1 * 2 / l.least.2 = n := by rw [ne]; exact cut_mk (by decide)
        have p2 := Fr.mk_pos (a := n) (b := 2) (by decide)
        rw [← ne] at sm p2
        have p64 : (2 : Nat) ^ 64 = 18446744073709551616 := by decide
        have o2 := (mk2_ok n0 (by omega)).b2
        rw [← ne] at o2
        have p10 : (2 : Nat) ^ 10 = 1024 := by decide
        array_get_dec
        · rw [e2]
          refine (frac_wp (by decide) (by decide)).imp ?_
          rintro _ _ ⟨rfl, rfl⟩
          cases hm : l.most with
          | none =>
            array_get_dec
            refine vApp rfl hL ?_ (small (by rw [List.length_map]; omega))
            intro T1 l_T1 g_T1 k_T1
            exact ⟨⟨_, _, _, _, rfl⟩, fin ⟨l.fr, l.to, Fr.mk (n + 3) 2, none⟩ T1 ⟨⟨n + 3, rfl, by omega, by omega⟩, fun m h => (by cases h), tx⟩ g_T1 k_T1⟩
          | some m =>
            array_get_dec
            refine vApp rfl hL ?_ (small (by rw [List.length_map]; omega))
            intro T1 l_T1 g_T1 k_T1
            exact ⟨⟨_, _, _, _, rfl⟩, fin ⟨l.fr, l.to, Fr.mk (n + 3) 2, some (99, 1)⟩ T1 ⟨⟨n + 3, rfl, by omega, by omega⟩, fun m h => ⟨198, by rw [lk99]; exact (Option.some.inj h).symm, by omega, by omega⟩, tx⟩ g_T1 k_T1⟩
        · exact wd p2 (by omega)
        · exact wm sm.1 (by decide)
      · array_get_dec
        refine vApp rfl hL ?_ (small (by rw [List.length_map]; omega))
        intro T1 l_T1 g_T1 k_T1
        exact ⟨⟨_, _, _, _, rfl⟩, fin ⟨l.fr, l.to, l.least, some l.least⟩ T1 ⟨⟨n, ne, n0, by omega⟩, fun m h => ⟨n, by rw [← ne]; exact (Option.some.inj h).symm, n0, by omega⟩, tx⟩ g_T1 k_T1⟩
    · rintro ρ T ⟨⟨z10, z11, z12, z13, rfl⟩, ⟨ls, hL, ll, lok⟩, kx⟩
      rw [List.length_map] at ll
      array_get_dec
      refine ⟨⟨fl.hs, ls, fl.src⟩, es, rfl, rfl, ⟨fo.nd, fo.ne, fo.few, fo.rate, lok, by show ls.length ≤ 8; omega, fo.tx, fo.so⟩, ⟨l30, fun j hj => ?_, (hv.mono (by omega)).st⟩, ((t2.fr k_S3).kx kx (by omega)).mono (by omega), fun k o hk ho => ?_⟩
      · obtain ⟨a, b, c, d⟩ := hv.ev j hj
        exact ⟨a, b, fun l hl => by have := c l hl; show l < ls.length; omega, d⟩
      · have lo := lt_of_at ho
        exact kx k o (by have := k02.len; by_cases z : 2 + 1 < S.length <;> omega) (k_S3.at (k02 k o hk ho))
end K27
namespace EqL
open PySem PySem.Spec PyProof.Rows L2 G Th AL KL Fr
open K37 hiding gone_ok
open K47 (shL_shaped)
mutual
theorem eqv_self : ∀ d : PyData, okD d = true → PyData.eqv d d = true
  | .none, _ => rfl
  | .bool b, _ => by cases b <;> rfl
  | .int i, _ => by simp [PyData.eqv]
  | .str x, _ => by simp [PyData.eqv]
  | .list xs, h => by
    unfold PyData.eqv
    exact eqvAll_self xs h
  | .tuple xs, h => by
    unfold PyData.eqv
    exact eqvAll_self xs h
  | .dict _, h => by cases h
theorem eqvAll_self : ∀ ds : List PyData, okAll ds = true → PyData.eqvAll ds ds = true
  | [], _ => rfl
  | d :: ds, h => by
    unfold okAll at h
    rw [Bool.and_eq_true] at h
    unfold PyData.eqvAll
    rw [eqv_self d h.1, eqvAll_self ds h.2]
    rfl
end
section
variable {S : Sto} {Q : Val → Sto → Prop} {n w : Nat}

theorem vEqLSelf {vs : List Val} {a b : Nat} (h : ShL n w vs) (hn : n < 39) (ha : S[a]? = some (.lst vs)) (hb : S[b]? = some (.lst vs)) (q : Q (.bl true) S) : Wp (gEq (.ref a) (.ref b) S) Q := by
  obtain ⟨ds, e1, e2, e3⟩ := shL_shaped h hn ha
  obtain ⟨ds', f1, f2, f3⟩ := shL_shaped h hn hb
  rw [e3] at f3
  cases f3
  obtain ⟨d0, o1, o2, o3, o4⟩ := h
  have : d0 = ds := by
    have := o4 S 39 (by omega)
    rw [e3] at this
    cases this
    rfl
  subst this
  have e0 : eqS (.ref a) (.ref b) = none := rfl
  refine ⟨_, S, ?_, q⟩
  unfold gEq eqA
  rw [e0]
  dsimp only
  rw [e1, f1]
  dsimp only
  rw [if_pos ⟨e2, f2⟩]
  show (some (PyData.eqv (.list d0) (.list d0))).map _ = _
  rw [eqv_self (.list d0) o1]
  rfl
end
end EqL
namespace K27
open PySem PySem.Spec PyProof.Rows L2 G Th AL K37 KL Fr
open K24 (Wk moV Mo Tb paV add120)
open K19 (F9 H9 Tr9 stA toV wsV history_wp frac_wp)
open K30 (Fit tV at_t fr_wp num_wp)
open K26 (step_in nz nz_get Rg WR ringof_wp)
open K22 (number_wp reach_R fit_no End Ask)
open K08 (wm wd ws_cut)
open K37 (common_divisor_ common_divisor_B ratio_ ratio_B added_ added_B less_ less_B parted_ parted_B is_below_ is_below_B drift_of_ drift_of_B moves_into_ moves_into_B history_moves_ history_moves_B)
open K19 (history_steps_ history_steps_B feedL_ feedL_B drawL_ drawL_B fracL_ fracL_B fieldL_ fieldL_B ratesL_ ratesL_B openL_ openL_B drawnL_ drawnL_B barredL_ barredL_B)
open K24 (common_unit_ common_unit_B whole_steps_ whole_steps_B go_over_ go_over_B go_down_ go_down_B ring_behind_ ring_behind_B world_or_ring_ world_or_ring_B ring_of_ ring_of_B sums_parted_ sums_parted_B only_at_ only_at_B steps_leaving_ steps_leaving_B run_clever_ run_clever_B)
open K30 (is_number_ is_number_B is_fraction_ is_fraction_B are_fractions_ are_fractions_B world_bars_ world_bars_B)
open K22 (bar_number_ bar_number_B bar_ring_ bar_ring_B reach_clever_ reach_clever_B reach_ reach_B)
section
variable [AL.TT]
variable {fl : Fl} {es : List Ev} {S : Sto} {ws : List K24.Sp}

def later : Val → Val
  | .tup [.int a, .int b] => frV (Fr.mk (a * 3 + 7 * b) (3 * b))
  | v => v
theorem later_t {a : Int} : later (tV a) = tV (a + 280) := by
  have c := Fr.mk_cross (a := a) (b := 120) (by decide)
  have p := Fr.mk_pos (a := a) (b := 120) (by decide)
  refine congrArg frV (Fr.mk_eq (by omega) (by decide) ?_)
  grind
theorem getM {V : List Int} {i : Nat} (h : i < V.length) : (V.map (· + 280)).getD i 0 = V.getD i 0 + 280 := by
  simp [List.getD, List.getElem?_eq_getElem h]
theorem right_wp {W : List Int} (fo : F9 20 fl) (hv : H9 950 fl es) (n0 : 0 < es.length) (lW : W.length = es.length) (bW : ∀ i, (W.getD i 0).natAbs < 2 ^ 58) :
    Wp (rightL_ [hiV fl es, .tup (W.map tV)] S) fun v T => v = .bl true ∧ Kn S T := by
  obtain ⟨ws, hw, wl⟩ := K24.steps_120 fo hv
  have l30 := hv.len
  refine AL.wf ?_; simp only [List.map_cons, List.map_nil, List.length_cons, List.length_nil, Nat.reduceAdd, Nat.reduceSub, List.replicate_succ, List.replicate_zero, List.cons_append, List.nil_append]; unfold rightL_B; array_get_dec
  refine (K26.world_wp fo hv hw wl).imp ?_
  rintro v S1 ⟨wr, k1⟩
  rcases wr with ⟨wo, rfl, lo, fit, bo⟩ | ⟨js, rfl, rg, jl⟩
  · array_get_dec
    refine (ringof_wp fo hv hw wl).imp ?_
    rintro _ S2 ⟨⟨rfl, _⟩ | ⟨js, rfl, rg, jl⟩, k2⟩
    rotate_left
    · exact (fit_no fit rg).elim
    array_get_dec
    refine (barring_wp fo hv hw wl n0).imp ?_
    rintro _ S3 ⟨⟨rfl, _⟩ | ⟨js, rfl, rg, jl⟩, k3⟩
    rotate_left
    · exact (fit_no fit rg).elim
    array_get_dec
    refine .inl ⟨_, rfl, ?_⟩
    refine lc_pure (fun _ => true) later trivial (by rw [List.length_map]; omega) (fun v hv2 => ?_) ?_
    · obtain ⟨a, ha, rfl⟩ := List.mem_map.mp hv2
      obtain ⟨i, hi, ea⟩ := List.getElem_of_mem ha
      have b := bo i
      rw [List.getD, List.getElem?_eq_getElem hi, ea] at b
      have b : a.natAbs ≤ 4000000000000000 := b
      have p60' : (2 : Nat) ^ 60 = 1152921504606846976 := by decide
      have p64 : (2 : Nat) ^ 64 = 18446744073709551616 := by decide
      have o := okG (a := a) (by omega)
      have o1 := o.b1
      have o2 := o.b2
      have o3 := o.pos
      refine bn rfl ?_
      array_get_dec
      refine ⟨rfl, rfl, fun _ => ?_⟩
      array_get_dec
      · refine (frac_wp (a := (Fr.mk a 120).1 * 3 + 7 * (Fr.mk a 120).2) (b := 3 * (Fr.mk a 120).2) (by omega) ?_).imp ?_
        · exact Nat.lt_of_lt_of_le (show (3 * (Fr.mk a 120).2).natAbs < 2 ^ 64 by omega) (Nat.pow_le_pow_right (by decide) (by decide))
        rintro _ _ ⟨rfl, rfl⟩
        exact ⟨rfl, rfl⟩
      all_goals exact wm (by omega) (by omega)
    have eW : (wo.map tV).map later = (wo.map (· + 280)).map tV := by
      rw [List.map_map, List.map_map]
      exact List.map_congr_left fun a _ => later_t
    rw [List.filter_eq_self.mpr (fun _ _ => rfl), eW]
    intro S4 r4 e_r4 l_S4 g_r4 k_S4
    array_get_dec
    refine wGl ?_
    array_get_dec
    refine (let01_wp fo hv hw fit).imp ?_
    rintro _ S5 ⟨rfl, k5⟩
    array_get_dec
    refine .inl ⟨_, rfl, ?_⟩
    have fit2 : Fit ws (wo.map (· + 280)) := fun z hz => by
      have f := fit z hz
      obtain ⟨l1, l2⟩ := step_in fo hv hw z hz
      rw [getM (by omega), getM (by omega)]
      omega
    have both : ∀ v ∈ [Val.tup (wo.map tV), Val.tup ((wo.map (· + 280)).map tV)], ∃ V : List Int, v = .tup (V.map tV) ∧ V.length = es.length ∧ Fit ws V ∧ ∀ i, (V.getD i 0).natAbs < 2 ^ 58 := fun v hv2 => by
      have p58 : (2 : Nat) ^ 58 = 288230376151711744 := by decide
      simp only [List.mem_cons, List.not_mem_nil, or_false] at hv2
      rcases hv2 with rfl | rfl
      · exact ⟨wo, rfl, lo, fit, fun i => by have := bo i; omega⟩
      · refine ⟨wo.map (· + 280), rfl, by rw [List.length_map]; exact lo, fit2, fun i => ?_⟩
        rcases Nat.lt_or_ge i wo.length with c | c
        · rw [getM c]
          have := bo i
          omega
        · rw [List.getD, List.getElem?_eq_none (by rw [List.length_map]; exact c)]
          decide
    refine lc_inv (fun j a T => a = List.replicate j (Val.int (es.length : Nat)) ∧ Kn S5 T) (by simp) ⟨rfl, Kn.refl _⟩ (fun _ _ _ _ _ => trivial) (fun j a T z => by rw [z.1]; simp) ?_ ?_
    · rintro j v a T hv2 ⟨rfl, kT⟩
      obtain ⟨V, rfl, lV, fV, bV⟩ := both v (List.mem_of_getElem? hv2)
      refine bn rfl ?_
      array_get_dec
      refine wGl ?_
      array_get_dec
      refine (letW_wp fo hv hw lV bV).imp ?_
      rintro _ U ⟨⟨rfl, _⟩ | ⟨_, no⟩, kU⟩
      · exact ⟨by rw [List.replicate_succ'], kT.trans kU⟩
      · exact absurd fV no
    rintro _ S6 ⟨rfl, k6⟩
    intro S7 r7 e_r7 l_S7 g_r7 k_S7
    array_get_dec
    rw [List.length_map]
    intro S8 r8 e_r8 l_S8 g_r8 k_S8
    array_get_dec
    refine vRep (k := 2) (vs := [.int (wo.length : Nat)]) rfl rfl g_r8 ?_ ⟨by decide, by decide, show 1 * 2 ≤ 1000000 by decide⟩
    intro S9 r9 e_r9 l_S9 g_r9 k_S9
    have sh : ShL 0 60 [Val.int (es.length : Nat), .int (es.length : Nat)] := (ShL.cons (Sh.int (b := 8) (by have : (2 : Nat) ^ 8 = 256 := rfl; omega) (by decide)) (ShL.cons (Sh.int (b := 8) (by have : (2 : Nat) ^ 8 = 256 := rfl; omega) (by decide)) (ShL.nil (w := 0)))).mono (Nat.le_refl _) (by decide)
    rw [lo] at g_r9
    refine EqL.vEqLSelf sh (by decide) (k_S9 _ _ (k_S8 _ _ g_r7)) g_r9 ?_
    array_get_dec
    exact ⟨rfl, k1.trans (k2.trans (k3.trans (k_S4.trans (k5.trans (k6.trans (k_S7.trans (k_S8.trans k_S9)))))))⟩
  · have noF : ∀ V, ¬ Fit ws V := fun V f => fit_no f rg
    array_get_dec
    refine (ringof_wp fo hv hw wl).imp ?_
    rintro _ S2 ⟨⟨rfl, V, _, f⟩ | ⟨js2, rfl, rg2, jl2⟩, k2⟩
    · exact absurd f (noF V)
    array_get_dec
    refine (barring_wp fo hv hw wl n0).imp ?_
    rintro _ S3 ⟨⟨rfl, V, f⟩ | ⟨js3, rfl, rg3, jl3⟩, k3⟩
    · exact absurd f (noF V)
    array_get_dec
    refine wGl ?_
    array_get_dec
    refine (letW_wp fo hv hw lW bW).imp ?_
    rintro _ S4 ⟨⟨_, f⟩ | ⟨rfl, _⟩, k4⟩
    · exact absurd f (noF W)
    array_get_dec
    refine .inl ⟨_, rfl, ?_⟩
    have rings : ∀ v ∈ [Val.tup (js.map natV), Val.tup (js2.map natV), Val.tup (js3.map natV)], ∃ q : List Nat, v = .tup (q.map natV) ∧ Rg ws q ∧ q.length ≤ 1000 := fun v hv2 => by
      simp only [List.mem_cons, List.not_mem_nil, or_false] at hv2
      rcases hv2 with rfl | rfl | rfl
      · exact ⟨_, rfl, rg, jl⟩
      · exact ⟨_, rfl, rg2, jl2⟩
      · exact ⟨_, rfl, rg3, jl3⟩
    refine lc_inv (fun j a T => (∃ ss : List Int, a = ss.map tV ∧ ss.length = j ∧ ∀ s ∈ ss, s.natAbs < 2 ^ 60) ∧ Kn S4 T) (by simp) ⟨⟨[], rfl, rfl, fun s h => by cases h⟩, Kn.refl _⟩ (fun _ _ _ _ _ => trivial) (fun j a T z => by obtain ⟨⟨ss, rfl, h, _⟩, _⟩ := z; rw [List.length_map]; omega) ?_ ?_
    · rintro j v a T hv2 ⟨⟨ss, rfl, ls, bs⟩, kT⟩
      obtain ⟨q, rfl, rq, lq⟩ := rings v (List.mem_of_getElem? hv2)
      refine bn rfl ?_
      array_get_dec
      refine wGl ?_
      array_get_dec
      refine (letR_wp fo hv hw rq lq).imp ?_
      rintro _ U ⟨⟨s, rfl, bs2⟩, kU⟩
      refine ⟨⟨ss ++ [s], by rw [List.map_append]; rfl, by rw [List.length_append, ls]; rfl, fun z hz => ?_⟩, kT.trans kU⟩
      rcases List.mem_append.mp hz with hz | hz
      · exact bs z hz
      · rw [List.mem_singleton.mp hz]
        exact bs2
    rintro _ S5 ⟨⟨ss, rfl, ls, bs⟩, k5⟩
    have eo : ss.map tV = (ss.map fun s => some (Fr.mk s 120)).map oV := by
      rw [List.map_map]
      rfl
    rw [eo]
    intro S6 r6 e_r6 l_S6 g_r6 k_S6
    have sh : ShL 1 (2000 * 3) ((ss.map fun s => some (Fr.mk s 120)).map oV) := by
      refine (ShL.map (f := oV) (n := 1) (w := 150) (ss.map fun s => some (Fr.mk s 120)) fun o ho => ?_).mono (Nat.le_refl _) ?_
      · obtain ⟨s, hs, rfl⟩ := List.mem_map.mp ho
        exact (Sh.o (n := 60) (fun m hm => by cases hm; exact okG (bs s hs)) (by decide)).mono (by decide) (by decide)
      · rw [List.length_map, ls]
        show (150 + 1) * 3 ≤ 2000 * 3
        decide
    refine K47.vNoneIn sh (by decide) rfl rfl g_r6 ?_
    array_get_dec
    refine ⟨?_, k1.trans (k2.trans (k3.trans (k4.trans (k5.trans k_S6))))⟩
    simp
end
end K27
namespace K27
open PySem PySem.Spec PyProof.Rows L2 G Th AL K37 KL Fr
open K24 (Wk moV Mo Tb paV add120)
open K19 (F9 H9 Tq Tr9 stA toV wsV history_wp frac_wp draw_wp drawnB_wp feed_wp)
open K30 (Fit tV at_t fr_wp num_wp)
open K26 (step_in nz nz_get Rg WR ringof_wp)
open K22 (number_wp reach_R fit_no End Ask)
open K08 (wm wd ws_cut)
open K37 (common_divisor_ common_divisor_B ratio_ ratio_B added_ added_B less_ less_B parted_ parted_B is_below_ is_below_B drift_of_ drift_of_B moves_into_ moves_into_B history_moves_ history_moves_B)
open K19 (history_steps_ history_steps_B feedL_ feedL_B drawL_ drawL_B fracL_ fracL_B fieldL_ fieldL_B ratesL_ ratesL_B openL_ openL_B drawnL_ drawnL_B barredL_ barredL_B)
open K24 (common_unit_ common_unit_B whole_steps_ whole_steps_B go_over_ go_over_B go_down_ go_down_B ring_behind_ ring_behind_B world_or_ring_ world_or_ring_B ring_of_ ring_of_B sums_parted_ sums_parted_B only_at_ only_at_B steps_leaving_ steps_leaving_B run_clever_ run_clever_B)
open K30 (is_number_ is_number_B is_fraction_ is_fraction_B are_fractions_ are_fractions_B world_bars_ world_bars_B)
open K22 (bar_number_ bar_number_B bar_ring_ bar_ring_B reach_clever_ reach_clever_B reach_ reach_B)
section
variable [AL.TT]
theorem hr_t (t : Int) : K19.wV t = tV (120 * t) := by
  have h1 : Fr.Is (t, 1) t 1 := ⟨(Fr.mk_self (by decide) (by simp)).symm, by decide⟩
  have h2 : Fr.Is (Fr.mk (120 * t) 120) (120 * t) 120 := ⟨rfl, by decide⟩
  have e : Fr.mk (120 * t) 120 = (t, 1) := (h1.same h2 (by omega)).symm
  unfold tV K19.wV
  rw [e]
  rfl
theorem getT {ts : List Int} {i : Nat} (h : i < ts.length) : (ts.map (120 * ·)).getD i 0 = 120 * ts.getD i 0 := by
  simp [List.getD, List.getElem?_eq_getElem h]
theorem law_true (ns : List Int) (h : ns.length ≤ 63) : ∃ S', law_ [.scr ns] [] = some (.bl true, S') := by
  suffices z : Wp (law_ [.scr ns] []) fun v _ => v = .bl true by
    obtain ⟨v, S', e, rfl⟩ := z
    exact ⟨S', e⟩
  refine AL.wf ?_; simp only [List.map_cons, List.map_nil, List.length_cons, List.length_nil, Nat.reduceAdd, Nat.reduceSub, List.replicate_succ, List.replicate_zero, List.cons_append, List.nil_append]; unfold law_B; array_get_dec
  refine (feed_wp ns h).imp ?_
  rintro _ S0 ⟨rfl, t0⟩
  array_get_dec
  refine ⟨_, rfl, ?_, by decide, by decide⟩
  refine ws_loop (fun i ρ T => (∃ z2 z3 z4 z5 z6 : Option Val, ρ = [some (.scr ns), some (.ref 2), z2, z3, z4, z5, z6]) ∧ Tq T (1000 * i)) ⟨⟨_, _, _, _, _, rfl⟩, t0.mono (by decide)⟩ (fun _ _ _ _ _ => trivial) ?_ ?_
  rotate_left
  · rintro ρ T ⟨⟨z2, z3, z4, z5, z6, rfl⟩, tT⟩
    array_get_dec
    rfl
  rintro i v ρ T hv2 ⟨⟨z2, z3, z4, z5, z6, rfl⟩, tT⟩
  obtain ⟨rfl, li⟩ := rangeV_get hv2
  have li : i < 3 := li
  refine bn rfl ?_
  array_get_dec
  refine (draw_wp tT (by decide) (by decide) (by omega)).imp ?_
  rintro _ Ta ⟨d, rfl, d0, d1, ta, ka⟩
  obtain ⟨m, hm⟩ : ∃ m : Nat, 2 + d = (m : Int) := ⟨(2 + d).toNat, by omega⟩
  array_get_dec
  rw [hm]
  refine (drawnB_wp (b := 356) (by omega) ta (by omega) (by omega) (by decide) (by decide)).imp ?_
  rintro _ T1 ⟨fl0, es, ts, rfl, fo, hv, el, tl, t1, k1, tr⟩
  have fo20 := f9_mono fo (show (10 : Int) ≤ 20 by decide)
  have hv950 := hv.mono (show 356 ≤ 950 by decide)
  have cl : ts.map K19.wV = (ts.map (120 * ·)).map tV := by
    rw [List.map_map]
    exact List.map_congr_left fun t _ => hr_t t
  rw [cl]
  have lW : (ts.map (120 * ·)).length = es.length := by rw [List.length_map]; omega
  have bW : ∀ i, ((ts.map (120 * ·)).getD i 0).natAbs < 2 ^ 58 := fun i => by
    have p58 : (2 : Nat) ^ 58 = 288230376151711744 := by decide
    rcases Nat.lt_or_ge i ts.length with c | c
    · rw [getT c]
      have := tr.hr i (by omega)
      omega
    · rw [List.getD, List.getElem?_eq_none (by rw [List.length_map]; exact c)]
      decide
  obtain ⟨ws, hw, wl⟩ := K24.steps_120 fo20 hv950
  have fit : Fit ws (ts.map (120 * ·)) := fun z hz => by
    obtain ⟨l1, l2, l3⟩ := K24.step_true fo20 hv950 tr hw z hz
    rw [getT (by omega), getT (by omega)]
    exact l3
  array_get_dec
  refine (K26.world_wp fo20 hv950 hw wl).imp ?_
  rintro v T2 ⟨wr, k2⟩
  rcases wr with ⟨wo, rfl, _⟩ | ⟨js, _, rg, _⟩
  rotate_left
  · exact (fit_no fit rg).elim
  array_get_dec
  refine wGl ?_
  array_get_dec
  refine (letW_wp fo20 hv950 hw lW bW).imp ?_
  rintro _ T3 ⟨⟨rfl, _⟩ | ⟨_, no⟩, k3⟩
  rotate_left
  · exact absurd fit no
  array_get_dec
  refine brF (by rw [List.length_map, lW]; simp) ?_
  array_get_dec
  refine ⟨_, rfl, ?_, by decide, by decide⟩
  have t3 : Tq T3 (1000 * i + 500) := ((t1.fr k2).fr k3).mono (by omega)
  refine ws_loop (fun j ρ U => (∃ (fl : Fl) (es2 : List Ev) (z4 : Option Val), ρ = [some (.scr ns), some (.ref 2), some (.int (0 + (i : Nat))), some (hiV fl es2), z4, some (hiV fl0 es), some (.tup ((ts.map (120 * ·)).map tV))] ∧ es2.length = es.length ∧ F9 (10 + 3 * (j : Nat)) fl ∧ H9 (356 + 40 * j) fl es2) ∧ Tq U (1000 * i + 500 + 20 * (j : Nat))) ⟨⟨fl0, es, _, rfl, rfl, fo, hv⟩, t3.mono (by omega)⟩ (fun _ _ _ _ _ => trivial) ?_ ?_
  · rintro j v ρ U hvj ⟨⟨gl, gs, z4, rfl, lg, gfo, ghv⟩, tU⟩
    obtain ⟨rfl, lj⟩ := rangeV_get hvj
    have lj : j < 3 := lj
    refine bn rfl ?_
    dsimp only [List.set_cons_zero, List.set_cons_succ]
    array_get_dec
    refine (barredG_wp tU (by omega) (by omega) (by omega) (by omega) gfo ghv).imp ?_
    rintro _ U1 ⟨fl', es', rfl, lg', fo', hv', tU1, _⟩
    have fo2 := f9_mono fo' (show 10 + 3 * (j : Int) + 3 ≤ 20 by omega)
    have hv2 := hv'.mono (show 356 + 40 * j + 40 ≤ 950 by omega)
    have n0 : 0 < es'.length := by omega
    array_get_dec
    refine (right_wp fo2 hv2 n0 (by omega) bW).imp ?_
    rintro _ U2 ⟨rfl, k2'⟩
    obtain ⟨ws', hw', wl'⟩ := K24.steps_120 fo2 hv2
    array_get_dec
    refine (K26.world_wp fo2 hv2 hw' wl').imp ?_
    rintro v U3 ⟨wr, k3'⟩
    have fin : ∀ V, Kn U3 V → Tq V (1000 * i + 500 + 20 * ((j + 1 : Nat) : Int)) := fun V k => (((tU1.fr k2').fr k3').fr k).mono (by push_cast; omega)
    have fo3 : F9 (10 + 3 * ((j + 1 : Nat) : Int)) fl' := f9_mono fo' (by push_cast; omega)
    have hv3 : H9 (356 + 40 * (j + 1)) fl' es' := hv'.mono (by omega)
    rcases wr with ⟨wo, rfl, _⟩ | ⟨js, rfl, rg, _⟩
    · array_get_dec
      exact ⟨⟨fl', es', _, rfl, by omega, fo3, hv3⟩, fin _ (Kn.refl _)⟩
    · array_get_dec
      refine (ringof_wp fo2 hv2 hw' wl').imp ?_
      rintro _ U4 ⟨⟨rfl, V, _, f⟩ | ⟨js2, rfl, _, _⟩, k4⟩
      · exact (fit_no f rg).elim
      array_get_dec
      refine (barring_wp fo2 hv2 hw' wl' n0).imp ?_
      rintro _ U5 ⟨⟨rfl, V, f⟩ | ⟨js3, rfl, _, _⟩, k5⟩
      · exact (fit_no f rg).elim
      array_get_dec
      exact ⟨⟨fl', es', _, rfl, by omega, fo3, hv3⟩, fin _ (k4.trans k5)⟩
  · rintro ρ U ⟨⟨gl, gs, z4, rfl, _⟩, tU⟩
    have tU : Tq U (1000 * i + 500 + 20 * ((3 : Nat) : Int)) := tU
    exact ⟨⟨_, _, _, _, _, rfl⟩, tU.mono (by push_cast; omega)⟩
end
end K27
namespace AL
open PySem PySem.Spec PyProof.Rows L2 G Th
def clsK (K : PySem.W.Frag) (x : Str) : Addr := match PySem.W.nsIn K mainGlobals x with
  | some (some (.ref a)) => a
  | _ => 0
theorem clsK_at {K : PySem.W.Frag} {x : Str} {a : Addr} (h : PySem.W.nsIn K mainGlobals x = some (some (.ref a))) : clsK K x = a := by
  unfold clsK
  rw [h]
abbrev TC (K : PySem.W.Frag) : TT := ⟨[], clsK K⟩
theorem hsp_c {K : PySem.W.Frag} {F : FA} (hF : ∀ ns : List Int, ns.length ≤ 63 → ∃ S', F [.scr ns] [] = some (.bl true, S')) {H : Hp} {a : Addr} {ns : List Int} {E : XK} (hl : ns.length ≤ 63) (hO : Only H) (hS : SqL K H a (ns.map V.int)) : @spA (TC K) K 1 F [.ref a] H (fun v _ => v = .bl true) E :=
  @hsp_t (TC K) K F hF H a ns E hl (fun p hp => by cases hp) (sqF_of hO hS)
end AL
namespace K27
open PySem PySem.Spec PyProof.Rows L2 G Th AL
open K37 (common_divisor_ common_divisor_B ratio_ ratio_B added_ added_B less_ less_B parted_ parted_B is_below_ is_below_B drift_of_ drift_of_B moves_into_ moves_into_B history_moves_ history_moves_B)
open K19 (history_steps_ history_steps_B feedL_ feedL_B drawL_ drawL_B fracL_ fracL_B fieldL_ fieldL_B ratesL_ ratesL_B openL_ openL_B drawnL_ drawnL_B barredL_ barredL_B)
open K24 (common_unit_ common_unit_B whole_steps_ whole_steps_B go_over_ go_over_B go_down_ go_down_B ring_behind_ ring_behind_B world_or_ring_ world_or_ring_B ring_of_ ring_of_B sums_parted_ sums_parted_B only_at_ only_at_B steps_leaving_ steps_leaving_B run_clever_ run_clever_B)
open K30 (is_number_ is_number_B is_fraction_ is_fraction_B are_fractions_ are_fractions_B world_bars_ world_bars_B)
open K22 (bar_number_ bar_number_B bar_ring_ bar_ring_B reach_clever_ reach_clever_B reach_ reach_B)

def spW (K : PySem.W.Frag) : Sp := @spA (TC K) K 1 (@law_ (TC K))
theorem spW_h {K : PySem.W.Frag} {H : Hp} {a : Addr} {ns : List Int} {E : XK} (hl : ns.length ≤ 63) (hO : Only H) (hS : SqL K H a (ns.map V.int)) : spW K [.ref a] H (fun v _ => v = .bl true) E := hsp_c (@law_true (TC K)) hl hO hS
theorem all_mk {l : PySem.W.OpenLaw} {w : World} {K : PySem.W.Frag} {h : Heap} {mg : Str → Option Value} {fa : Addr} (X : K.In h) (G : h.Ns mainGlobals mg) (hfa : mg "law" = some (.ref fa))
    {o0 : Value} {od0 an0 : Option Addr} {sl0 : Array (Option Value)} {kV0 dc0 pm0 cd0 ct0 : Value} {f0 : Addr} {o1 : Value} {od1 an1 : Option Addr} {sl1 : Array (Option Value)} {kV1 dc1 pm1 cd1 ct1 : Value} {f1 : Addr} {o2 : Value} {od2 an2 : Option Addr} {sl2 : Array (Option Value)} {kV2 dc2 pm2 cd2 ct2 : Value} {f2 : Addr} {o3 : Value} {od3 an3 : Option Addr} {sl3 : Array (Option Value)} {kV3 dc3 pm3 cd3 ct3 : Value} {f3 : Addr} {o4 : Value} {od4 an4 : Option Addr} {sl4 : Array (Option Value)} {kV4 dc4 pm4 cd4 ct4 : Value} {f4 : Addr} {o5 : Value} {od5 an5 : Option Addr} {sl5 : Array (Option Value)} {kV5 dc5 pm5 cd5 ct5 : Value} {f5 : Addr} {o6 : Value} {od6 an6 : Option Addr} {sl6 : Array (Option Value)} {kV6 dc6 pm6 cd6 ct6 : Value} {f6 : Addr} {o7 : Value} {od7 an7 : Option Addr} {sl7 : Array (Option Value)} {kV7 dc7 pm7 cd7 ct7 : Value} {f7 : Addr} {o8 : Value} {od8 an8 : Option Addr} {sl8 : Array (Option Value)} {kV8 dc8 pm8 cd8 ct8 : Value} {f8 : Addr} {o9 : Value} {od9 an9 : Option Addr} {sl9 : Array (Option Value)} {kV9 dc9 pm9 cd9 ct9 : Value} {f9 : Addr} {o10 : Value} {od10 an10 : Option Addr} {sl10 : Array (Option Value)} {kV10 dc10 pm10 cd10 ct10 : Value} {f10 : Addr} {o11 : Value} {od11 an11 : Option Addr} {sl11 : Array (Option Value)} {kV11 dc11 pm11 cd11 ct11 : Value} {f11 : Addr} {o12 : Value} {od12 an12 : Option Addr} {sl12 : Array (Option Value)} {kV12 dc12 pm12 cd12 ct12 : Value} {f12 : Addr} {o13 : Value} {od13 an13 : Option Addr} {sl13 : Array (Option Value)} {kV13 dc13 pm13 cd13 ct13 : Value} {f13 : Addr} {o14 : Value} {od14 an14 : Option Addr} {sl14 : Array (Option Value)} {kV14 dc14 pm14 cd14 ct14 : Value} {f14 : Addr} {o15 : Value} {od15 an15 : Option Addr} {sl15 : Array (Option Value)} {kV15 dc15 pm15 cd15 ct15 : Value} {f15 : Addr} {o16 : Value} {od16 an16 : Option Addr} {sl16 : Array (Option Value)} {kV16 dc16 pm16 cd16 ct16 : Value} {f16 : Addr} {o17 : Value} {od17 an17 : Option Addr} {sl17 : Array (Option Value)} {kV17 dc17 pm17 cd17 ct17 : Value} {f17 : Addr} {o18 : Value} {od18 an18 : Option Addr} {sl18 : Array (Option Value)} {kV18 dc18 pm18 cd18 ct18 : Value} {f18 : Addr} {o19 : Value} {od19 an19 : Option Addr} {sl19 : Array (Option Value)} {kV19 dc19 pm19 cd19 ct19 : Value} {f19 : Addr} {o20 : Value} {od20 an20 : Option Addr} {sl20 : Array (Option Value)} {kV20 dc20 pm20 cd20 ct20 : Value} {f20 : Addr} {o21 : Value} {od21 an21 : Option Addr} {sl21 : Array (Option Value)} {kV21 dc21 pm21 cd21 ct21 : Value} {f21 : Addr} {o22 : Value} {od22 an22 : Option Addr} {sl22 : Array (Option Value)} {kV22 dc22 pm22 cd22 ct22 : Value} {f22 : Addr} {o23 : Value} {od23 an23 : Option Addr} {sl23 : Array (Option Value)} {kV23 dc23 pm23 cd23 ct23 : Value} {f23 : Addr} {o24 : Value} {od24 an24 : Option Addr} {sl24 : Array (Option Value)} {kV24 dc24 pm24 cd24 ct24 : Value} {f24 : Addr} {o25 : Value} {od25 an25 : Option Addr} {sl25 : Array (Option Value)} {kV25 dc25 pm25 cd25 ct25 : Value} {f25 : Addr} {o26 : Value} {od26 an26 : Option Addr} {sl26 : Array (Option Value)} {kV26 dc26 pm26 cd26 ct26 : Value} {f26 : Addr} {o27 : Value} {od27 an27 : Option Addr} {sl27 : Array (Option Value)} {kV27 dc27 pm27 cd27 ct27 : Value} {f27 : Addr} {o28 : Value} {od28 an28 : Option Addr} {sl28 : Array (Option Value)} {kV28 dc28 pm28 cd28 ct28 : Value} {f28 : Addr} {o29 : Value} {od29 an29 : Option Addr} {sl29 : Array (Option Value)} {kV29 dc29 pm29 cd29 ct29 : Value} {f29 : Addr} {o30 : Value} {od30 an30 : Option Addr} {sl30 : Array (Option Value)} {kV30 dc30 pm30 cd30 ct30 : Value} {f30 : Addr} {o31 : Value} {od31 an31 : Option Addr} {sl31 : Array (Option Value)} {kV31 dc31 pm31 cd31 ct31 : Value} {f31 : Addr} {o32 : Value} {od32 an32 : Option Addr} {sl32 : Array (Option Value)} {kV32 dc32 pm32 cd32 ct32 : Value} {f32 : Addr} {o33 : Value} {od33 an33 : Option Addr} {sl33 : Array (Option Value)} {kV33 dc33 pm33 cd33 ct33 : Value} {f33 : Addr} {o34 : Value} {od34 an34 : Option Addr} {sl34 : Array (Option Value)} {kV34 dc34 pm34 cd34 ct34 : Value} {f34 : Addr} {o35 : Value} {od35 an35 : Option Addr} {sl35 : Array (Option Value)} {kV35 dc35 pm35 cd35 ct35 : Value} {f35 : Addr} {o36 : Value} {od36 an36 : Option Addr} {sl36 : Array (Option Value)} {kV36 dc36 pm36 cd36 ct36 : Value} {f36 : Addr} {o37 : Value} {od37 an37 : Option Addr} {sl37 : Array (Option Value)} {kV37 dc37 pm37 cd37 ct37 : Value} {f37 : Addr} {o38 : Value} {od38 an38 : Option Addr} {sl38 : Array (Option Value)} {kV38 dc38 pm38 cd38 ct38 : Value} {f38 : Addr} {o39 : Value} {od39 an39 : Option Addr} {sl39 : Array (Option Value)} {kV39 dc39 pm39 cd39 ct39 : Value} {f39 : Addr} {o40 : Value} {od40 an40 : Option Addr} {sl40 : Array (Option Value)} {kV40 dc40 pm40 cd40 ct40 : Value} {f40 : Addr} {o41 : Value} {od41 an41 : Option Addr} {sl41 : Array (Option Value)} {kV41 dc41 pm41 cd41 ct41 : Value} {f41 : Addr} {o42 : Value} {od42 an42 : Option Addr} {sl42 : Array (Option Value)} {kV42 dc42 pm42 cd42 ct42 : Value} {f42 : Addr} {o43 : Value} {od43 an43 : Option Addr} {sl43 : Array (Option Value)} {kV43 dc43 pm43 cd43 ct43 : Value} {f43 : Addr} {o44 : Value} {od44 an44 : Option Addr} {sl44 : Array (Option Value)} {kV44 dc44 pm44 cd44 ct44 : Value} {f44 : Addr}
 {C_NoNumber : Addr} {C_NoPaper : Addr} {C_NoWorld : Addr} {fI_NoNumber : Addr} {oI_NoNumber kVI_NoNumber dcI_NoNumber pmI_NoNumber cdI_NoNumber ctI_NoNumber : Value} {odI_NoNumber anI_NoNumber : Option Addr} {slI_NoNumber : Array (Option Value)} {fI_NoPaper : Addr} {oI_NoPaper kVI_NoPaper dcI_NoPaper pmI_NoPaper cdI_NoPaper ctI_NoPaper : Value} {odI_NoPaper anI_NoPaper : Option Addr} {slI_NoPaper : Array (Option Value)} {fI_NoWorld : Addr} {oI_NoWorld kVI_NoWorld dcI_NoWorld pmI_NoWorld cdI_NoWorld ctI_NoWorld : Value} {odI_NoWorld anI_NoWorld : Option Addr} {slI_NoWorld : Array (Option Value)}    {u_NOUGHT : Value}
    (g_NOUGHT : PySem.W.nsIn K mainGlobals "NOUGHT" = some (some u_NOUGHT)) (v_NOUGHT : CV K u_NOUGHT (.tup [.int 0, .int 1]))
    (a0 : PySem.W.nsIn K mainGlobals "is_number" = some (some (.ref f0))) (l0 : K.lookup f0 = some ⟨o0, od0, .func (PySem.W.fnOf "is_number" "is_number" (defArgs st_is_number_) (defBody st_is_number_) (defScope st_is_number_) .none kV0 dc0 pm0 an0 cd0 ct0), sl0⟩) (c0 : PySem.W.codeIn K cd0 "is_number" = true) (k0 : PySem.W.keepIn K (.ref f0) = true)
    (a1 : PySem.W.nsIn K mainGlobals "are_numbers" = some (some (.ref f1))) (l1 : K.lookup f1 = some ⟨o1, od1, .func (PySem.W.fnOf "are_numbers" "are_numbers" (defArgs st_are_numbers_) (defBody st_are_numbers_) (defScope st_are_numbers_) .none kV1 dc1 pm1 an1 cd1 ct1), sl1⟩) (c1 : PySem.W.codeIn K cd1 "are_numbers" = true) (k1 : PySem.W.keepIn K (.ref f1) = true)
    (a2 : PySem.W.nsIn K mainGlobals "common_divisor" = some (some (.ref f2))) (l2 : K.lookup f2 = some ⟨o2, od2, .func (PySem.W.fnOf "common_divisor" "common_divisor" (defArgs st_common_divisor_) (defBody st_common_divisor_) (defScope st_common_divisor_) .none kV2 dc2 pm2 an2 cd2 ct2), sl2⟩) (c2 : PySem.W.codeIn K cd2 "common_divisor" = true) (k2 : PySem.W.keepIn K (.ref f2) = true)
    (a3 : PySem.W.nsIn K mainGlobals "is_fraction" = some (some (.ref f3))) (l3 : K.lookup f3 = some ⟨o3, od3, .func (PySem.W.fnOf "is_fraction" "is_fraction" (defArgs st_is_fraction_) (defBody st_is_fraction_) (defScope st_is_fraction_) .none kV3 dc3 pm3 an3 cd3 ct3), sl3⟩) (c3 : PySem.W.codeIn K cd3 "is_fraction" = true) (k3 : PySem.W.keepIn K (.ref f3) = true)
    (a4 : PySem.W.nsIn K mainGlobals "ratio" = some (some (.ref f4))) (l4 : K.lookup f4 = some ⟨o4, od4, .func (PySem.W.fnOf "ratio" "ratio" (defArgs st_ratio_) (defBody st_ratio_) (defScope st_ratio_) .none kV4 dc4 pm4 an4 cd4 ct4), sl4⟩) (c4 : PySem.W.codeIn K cd4 "ratio" = true) (k4 : PySem.W.keepIn K (.ref f4) = true)
    (a5 : PySem.W.nsIn K mainGlobals "added" = some (some (.ref f5))) (l5 : K.lookup f5 = some ⟨o5, od5, .func (PySem.W.fnOf "added" "added" (defArgs st_added_) (defBody st_added_) (defScope st_added_) .none kV5 dc5 pm5 an5 cd5 ct5), sl5⟩) (c5 : PySem.W.codeIn K cd5 "added" = true) (k5 : PySem.W.keepIn K (.ref f5) = true)
    (a6 : PySem.W.nsIn K mainGlobals "less" = some (some (.ref f6))) (l6 : K.lookup f6 = some ⟨o6, od6, .func (PySem.W.fnOf "less" "less" (defArgs st_less_) (defBody st_less_) (defScope st_less_) .none kV6 dc6 pm6 an6 cd6 ct6), sl6⟩) (c6 : PySem.W.codeIn K cd6 "less" = true) (k6 : PySem.W.keepIn K (.ref f6) = true)
    (a7 : PySem.W.nsIn K mainGlobals "parted" = some (some (.ref f7))) (l7 : K.lookup f7 = some ⟨o7, od7, .func (PySem.W.fnOf "parted" "parted" (defArgs st_parted_) (defBody st_parted_) (defScope st_parted_) .none kV7 dc7 pm7 an7 cd7 ct7), sl7⟩) (c7 : PySem.W.codeIn K cd7 "parted" = true) (k7 : PySem.W.keepIn K (.ref f7) = true)
    (a8 : PySem.W.nsIn K mainGlobals "is_below" = some (some (.ref f8))) (l8 : K.lookup f8 = some ⟨o8, od8, .func (PySem.W.fnOf "is_below" "is_below" (defArgs st_is_below_) (defBody st_is_below_) (defScope st_is_below_) .none kV8 dc8 pm8 an8 cd8 ct8), sl8⟩) (c8 : PySem.W.codeIn K cd8 "is_below" = true) (k8 : PySem.W.keepIn K (.ref f8) = true)
    (a9 : PySem.W.nsIn K mainGlobals "common_unit" = some (some (.ref f9))) (l9 : K.lookup f9 = some ⟨o9, od9, .func (PySem.W.fnOf "common_unit" "common_unit" (defArgs st_common_unit_) (defBody st_common_unit_) (defScope st_common_unit_) .none kV9 dc9 pm9 an9 cd9 ct9), sl9⟩) (c9 : PySem.W.codeIn K cd9 "common_unit" = true) (k9 : PySem.W.keepIn K (.ref f9) = true)
    (a10 : PySem.W.nsIn K mainGlobals "drift_of" = some (some (.ref f10))) (l10 : K.lookup f10 = some ⟨o10, od10, .func (PySem.W.fnOf "drift_of" "drift_of" (defArgs st_drift_of_) (defBody st_drift_of_) (defScope st_drift_of_) .none kV10 dc10 pm10 an10 cd10 ct10), sl10⟩) (c10 : PySem.W.codeIn K cd10 "drift_of" = true) (k10 : PySem.W.keepIn K (.ref f10) = true)
    (a11 : PySem.W.nsIn K mainGlobals "moves_into" = some (some (.ref f11))) (l11 : K.lookup f11 = some ⟨o11, od11, .func (PySem.W.fnOf "moves_into" "moves_into" (defArgs st_moves_into_) (defBody st_moves_into_) (defScope st_moves_into_) .none kV11 dc11 pm11 an11 cd11 ct11), sl11⟩) (c11 : PySem.W.codeIn K cd11 "moves_into" = true) (k11 : PySem.W.keepIn K (.ref f11) = true)
    (a12 : PySem.W.nsIn K mainGlobals "history_moves" = some (some (.ref f12))) (l12 : K.lookup f12 = some ⟨o12, od12, .func (PySem.W.fnOf "history_moves" "history_moves" (defArgs st_history_moves_) (defBody st_history_moves_) (defScope st_history_moves_) .none kV12 dc12 pm12 an12 cd12 ct12), sl12⟩) (c12 : PySem.W.codeIn K cd12 "history_moves" = true) (k12 : PySem.W.keepIn K (.ref f12) = true)
    (a13 : PySem.W.nsIn K mainGlobals "history_steps" = some (some (.ref f13))) (l13 : K.lookup f13 = some ⟨o13, od13, .func (PySem.W.fnOf "history_steps" "history_steps" (defArgs st_history_steps_) (defBody st_history_steps_) (defScope st_history_steps_) .none kV13 dc13 pm13 an13 cd13 ct13), sl13⟩) (c13 : PySem.W.codeIn K cd13 "history_steps" = true) (k13 : PySem.W.keepIn K (.ref f13) = true)
    (a14 : PySem.W.nsIn K mainGlobals "whole_steps" = some (some (.ref f14))) (l14 : K.lookup f14 = some ⟨o14, od14, .func (PySem.W.fnOf "whole_steps" "whole_steps" (defArgs st_whole_steps_) (defBody st_whole_steps_) (defScope st_whole_steps_) .none kV14 dc14 pm14 an14 cd14 ct14), sl14⟩) (c14 : PySem.W.codeIn K cd14 "whole_steps" = true) (k14 : PySem.W.keepIn K (.ref f14) = true)
    (a15 : PySem.W.nsIn K mainGlobals "go_over" = some (some (.ref f15))) (l15 : K.lookup f15 = some ⟨o15, od15, .func (PySem.W.fnOf "go_over" "go_over" (defArgs st_go_over_) (defBody st_go_over_) (defScope st_go_over_) .none kV15 dc15 pm15 an15 cd15 ct15), sl15⟩) (c15 : PySem.W.codeIn K cd15 "go_over" = true) (k15 : PySem.W.keepIn K (.ref f15) = true)
    (a16 : PySem.W.nsIn K mainGlobals "go_down" = some (some (.ref f16))) (l16 : K.lookup f16 = some ⟨o16, od16, .func (PySem.W.fnOf "go_down" "go_down" (defArgs st_go_down_) (defBody st_go_down_) (defScope st_go_down_) .none kV16 dc16 pm16 an16 cd16 ct16), sl16⟩) (c16 : PySem.W.codeIn K cd16 "go_down" = true) (k16 : PySem.W.keepIn K (.ref f16) = true)
    (a17 : PySem.W.nsIn K mainGlobals "ring_behind" = some (some (.ref f17))) (l17 : K.lookup f17 = some ⟨o17, od17, .func (PySem.W.fnOf "ring_behind" "ring_behind" (defArgs st_ring_behind_) (defBody st_ring_behind_) (defScope st_ring_behind_) .none kV17 dc17 pm17 an17 cd17 ct17), sl17⟩) (c17 : PySem.W.codeIn K cd17 "ring_behind" = true) (k17 : PySem.W.keepIn K (.ref f17) = true)
    (a18 : PySem.W.nsIn K mainGlobals "world_or_ring" = some (some (.ref f18))) (l18 : K.lookup f18 = some ⟨o18, od18, .func (PySem.W.fnOf "world_or_ring" "world_or_ring" (defArgs st_world_or_ring_) (defBody st_world_or_ring_) (defScope st_world_or_ring_) .none kV18 dc18 pm18 an18 cd18 ct18), sl18⟩) (c18 : PySem.W.codeIn K cd18 "world_or_ring" = true) (k18 : PySem.W.keepIn K (.ref f18) = true)
    (a19 : PySem.W.nsIn K mainGlobals "ring_of" = some (some (.ref f19))) (l19 : K.lookup f19 = some ⟨o19, od19, .func (PySem.W.fnOf "ring_of" "ring_of" (defArgs st_ring_of_) (defBody st_ring_of_) (defScope st_ring_of_) .none kV19 dc19 pm19 an19 cd19 ct19), sl19⟩) (c19 : PySem.W.codeIn K cd19 "ring_of" = true) (k19 : PySem.W.keepIn K (.ref f19) = true)
    (a20 : PySem.W.nsIn K mainGlobals "bar_number" = some (some (.ref f20))) (l20 : K.lookup f20 = some ⟨o20, od20, .func (PySem.W.fnOf "bar_number" "bar_number" (defArgs st_bar_number_) (defBody st_bar_number_) (defScope st_bar_number_) .none kV20 dc20 pm20 an20 cd20 ct20), sl20⟩) (c20 : PySem.W.codeIn K cd20 "bar_number" = true) (k20 : PySem.W.keepIn K (.ref f20) = true)
    (a21 : PySem.W.nsIn K mainGlobals "bar_ring" = some (some (.ref f21))) (l21 : K.lookup f21 = some ⟨o21, od21, .func (PySem.W.fnOf "bar_ring" "bar_ring" (defArgs st_bar_ring_) (defBody st_bar_ring_) (defScope st_bar_ring_) .none kV21 dc21 pm21 an21 cd21 ct21), sl21⟩) (c21 : PySem.W.codeIn K cd21 "bar_ring" = true) (k21 : PySem.W.keepIn K (.ref f21) = true)
    (a22 : PySem.W.nsIn K mainGlobals "sums_parted" = some (some (.ref f22))) (l22 : K.lookup f22 = some ⟨o22, od22, .func (PySem.W.fnOf "sums_parted" "sums_parted" (defArgs st_sums_parted_) (defBody st_sums_parted_) (defScope st_sums_parted_) .none kV22 dc22 pm22 an22 cd22 ct22), sl22⟩) (c22 : PySem.W.codeIn K cd22 "sums_parted" = true) (k22 : PySem.W.keepIn K (.ref f22) = true)
    (a23 : PySem.W.nsIn K mainGlobals "only_at" = some (some (.ref f23))) (l23 : K.lookup f23 = some ⟨o23, od23, .func (PySem.W.fnOf "only_at" "only_at" (defArgs st_only_at_) (defBody st_only_at_) (defScope st_only_at_) .none kV23 dc23 pm23 an23 cd23 ct23), sl23⟩) (c23 : PySem.W.codeIn K cd23 "only_at" = true) (k23 : PySem.W.keepIn K (.ref f23) = true)
    (a24 : PySem.W.nsIn K mainGlobals "steps_leaving" = some (some (.ref f24))) (l24 : K.lookup f24 = some ⟨o24, od24, .func (PySem.W.fnOf "steps_leaving" "steps_leaving" (defArgs st_steps_leaving_) (defBody st_steps_leaving_) (defScope st_steps_leaving_) .none kV24 dc24 pm24 an24 cd24 ct24), sl24⟩) (c24 : PySem.W.codeIn K cd24 "steps_leaving" = true) (k24 : PySem.W.keepIn K (.ref f24) = true)
    (a25 : PySem.W.nsIn K mainGlobals "run_clever" = some (some (.ref f25))) (l25 : K.lookup f25 = some ⟨o25, od25, .func (PySem.W.fnOf "run_clever" "run_clever" (defArgs st_run_clever_) (defBody st_run_clever_) (defScope st_run_clever_) .none kV25 dc25 pm25 an25 cd25 ct25), sl25⟩) (c25 : PySem.W.codeIn K cd25 "run_clever" = true) (k25 : PySem.W.keepIn K (.ref f25) = true)
    (a26 : PySem.W.nsIn K mainGlobals "reach_clever" = some (some (.ref f26))) (l26 : K.lookup f26 = some ⟨o26, od26, .func (PySem.W.fnOf "reach_clever" "reach_clever" (defArgs st_reach_clever_) (defBody st_reach_clever_) (defScope st_reach_clever_) .none kV26 dc26 pm26 an26 cd26 ct26), sl26⟩) (c26 : PySem.W.codeIn K cd26 "reach_clever" = true) (k26 : PySem.W.keepIn K (.ref f26) = true)
    (a27 : PySem.W.nsIn K mainGlobals "reach" = some (some (.ref f27))) (l27 : K.lookup f27 = some ⟨o27, od27, .func (PySem.W.fnOf "reach" "reach" (defArgs st_reach_) (defBody st_reach_) (defScope st_reach_) .none kV27 dc27 pm27 an27 cd27 ct27), sl27⟩) (c27 : PySem.W.codeIn K cd27 "reach" = true) (k27 : PySem.W.keepIn K (.ref f27) = true)
    (a28 : PySem.W.nsIn K mainGlobals "sum_along" = some (some (.ref f28))) (l28 : K.lookup f28 = some ⟨o28, od28, .func (PySem.W.fnOf "sum_along" "sum_along" (defArgs st_sum_along_) (defBody st_sum_along_) (defScope st_sum_along_) .none kV28 dc28 pm28 an28 cd28 ct28), sl28⟩) (c28 : PySem.W.codeIn K cd28 "sum_along" = true) (k28 : PySem.W.keepIn K (.ref f28) = true)
    (a29 : PySem.W.nsIn K mainGlobals "lets_ring" = some (some (.ref f29))) (l29 : K.lookup f29 = some ⟨o29, od29, .func (PySem.W.fnOf "lets_ring" "lets_ring" (defArgs st_lets_ring_) (defBody st_lets_ring_) (defScope st_lets_ring_) .none kV29 dc29 pm29 an29 cd29 ct29), sl29⟩) (c29 : PySem.W.codeIn K cd29 "lets_ring" = true) (k29 : PySem.W.keepIn K (.ref f29) = true)
    (a30 : PySem.W.nsIn K mainGlobals "are_fractions" = some (some (.ref f30))) (l30 : K.lookup f30 = some ⟨o30, od30, .func (PySem.W.fnOf "are_fractions" "are_fractions" (defArgs st_are_fractions_) (defBody st_are_fractions_) (defScope st_are_fractions_) .none kV30 dc30 pm30 an30 cd30 ct30), sl30⟩) (c30 : PySem.W.codeIn K cd30 "are_fractions" = true) (k30 : PySem.W.keepIn K (.ref f30) = true)
    (a31 : PySem.W.nsIn K mainGlobals "world_bars" = some (some (.ref f31))) (l31 : K.lookup f31 = some ⟨o31, od31, .func (PySem.W.fnOf "world_bars" "world_bars" (defArgs st_world_bars_) (defBody st_world_bars_) (defScope st_world_bars_) .none kV31 dc31 pm31 an31 cd31 ct31), sl31⟩) (c31 : PySem.W.codeIn K cd31 "world_bars" = true) (k31 : PySem.W.keepIn K (.ref f31) = true)
    (a32 : PySem.W.nsIn K mainGlobals "lets_world" = some (some (.ref f32))) (l32 : K.lookup f32 = some ⟨o32, od32, .func (PySem.W.fnOf "lets_world" "lets_world" (defArgs st_lets_world_) (defBody st_lets_world_) (defScope st_lets_world_) .none kV32 dc32 pm32 an32 cd32 ct32), sl32⟩) (c32 : PySem.W.codeIn K cd32 "lets_world" = true) (k32 : PySem.W.keepIn K (.ref f32) = true)
    (a33 : PySem.W.nsIn K mainGlobals "_law_feed" = some (some (.ref f33))) (l33 : K.lookup f33 = some ⟨o33, od33, .func (PySem.W.fnOf "_law_feed" "_law_feed" (defArgs st_feedL_) (defBody st_feedL_) (defScope st_feedL_) .none kV33 dc33 pm33 an33 cd33 ct33), sl33⟩) (c33 : PySem.W.codeIn K cd33 "_law_feed" = true) (k33 : PySem.W.keepIn K (.ref f33) = true)
    (a34 : PySem.W.nsIn K mainGlobals "_law_draw" = some (some (.ref f34))) (l34 : K.lookup f34 = some ⟨o34, od34, .func (PySem.W.fnOf "_law_draw" "_law_draw" (defArgs st_drawL_) (defBody st_drawL_) (defScope st_drawL_) .none kV34 dc34 pm34 an34 cd34 ct34), sl34⟩) (c34 : PySem.W.codeIn K cd34 "_law_draw" = true) (k34 : PySem.W.keepIn K (.ref f34) = true)
    (a35 : PySem.W.nsIn K mainGlobals "_law_frac" = some (some (.ref f35))) (l35 : K.lookup f35 = some ⟨o35, od35, .func (PySem.W.fnOf "_law_frac" "_law_frac" (defArgs st_fracL_) (defBody st_fracL_) (defScope st_fracL_) .none kV35 dc35 pm35 an35 cd35 ct35), sl35⟩) (c35 : PySem.W.codeIn K cd35 "_law_frac" = true) (k35 : PySem.W.keepIn K (.ref f35) = true)
    (a36 : PySem.W.nsIn K mainGlobals "_law_field" = some (some (.ref f36))) (l36 : K.lookup f36 = some ⟨o36, od36, .func (PySem.W.fnOf "_law_field" "_law_field" (defArgs st_fieldL_) (defBody st_fieldL_) (defScope st_fieldL_) .none kV36 dc36 pm36 an36 cd36 ct36), sl36⟩) (c36 : PySem.W.codeIn K cd36 "_law_field" = true) (k36 : PySem.W.keepIn K (.ref f36) = true)
    (a37 : PySem.W.nsIn K mainGlobals "_law_rates" = some (some (.ref f37))) (l37 : K.lookup f37 = some ⟨o37, od37, .func (PySem.W.fnOf "_law_rates" "_law_rates" (defArgs st_ratesL_) (defBody st_ratesL_) (defScope st_ratesL_) .none kV37 dc37 pm37 an37 cd37 ct37), sl37⟩) (c37 : PySem.W.codeIn K cd37 "_law_rates" = true) (k37 : PySem.W.keepIn K (.ref f37) = true)
    (a38 : PySem.W.nsIn K mainGlobals "_law_open" = some (some (.ref f38))) (l38 : K.lookup f38 = some ⟨o38, od38, .func (PySem.W.fnOf "_law_open" "_law_open" (defArgs st_openL_) (defBody st_openL_) (defScope st_openL_) .none kV38 dc38 pm38 an38 cd38 ct38), sl38⟩) (c38 : PySem.W.codeIn K cd38 "_law_open" = true) (k38 : PySem.W.keepIn K (.ref f38) = true)
    (a39 : PySem.W.nsIn K mainGlobals "_law_drawn" = some (some (.ref f39))) (l39 : K.lookup f39 = some ⟨o39, od39, .func (PySem.W.fnOf "_law_drawn" "_law_drawn" (defArgs st_drawnL_) (defBody st_drawnL_) (defScope st_drawnL_) .none kV39 dc39 pm39 an39 cd39 ct39), sl39⟩) (c39 : PySem.W.codeIn K cd39 "_law_drawn" = true) (k39 : PySem.W.keepIn K (.ref f39) = true)
    (a40 : PySem.W.nsIn K mainGlobals "_law_barred" = some (some (.ref f40))) (l40 : K.lookup f40 = some ⟨o40, od40, .func (PySem.W.fnOf "_law_barred" "_law_barred" (defArgs st_barredL_) (defBody st_barredL_) (defScope st_barredL_) .none kV40 dc40 pm40 an40 cd40 ct40), sl40⟩) (c40 : PySem.W.codeIn K cd40 "_law_barred" = true) (k40 : PySem.W.keepIn K (.ref f40) = true)
    (a41 : PySem.W.nsIn K mainGlobals "_law_let" = some (some (.ref f41))) (l41 : K.lookup f41 = some ⟨o41, od41, .func (PySem.W.fnOf "_law_let" "_law_let" (defArgs st_letL_) (defBody st_letL_) (defScope st_letL_) .none kV41 dc41 pm41 an41 cd41 ct41), sl41⟩) (c41 : PySem.W.codeIn K cd41 "_law_let" = true) (k41 : PySem.W.keepIn K (.ref f41) = true)
    (a42 : PySem.W.nsIn K mainGlobals "_law_barring" = some (some (.ref f42))) (l42 : K.lookup f42 = some ⟨o42, od42, .func (PySem.W.fnOf "_law_barring" "_law_barring" (defArgs st_barringL_) (defBody st_barringL_) (defScope st_barringL_) .none kV42 dc42 pm42 an42 cd42 ct42), sl42⟩) (c42 : PySem.W.codeIn K cd42 "_law_barring" = true) (k42 : PySem.W.keepIn K (.ref f42) = true)
    (a43 : PySem.W.nsIn K mainGlobals "_law_right" = some (some (.ref f43))) (l43 : K.lookup f43 = some ⟨o43, od43, .func (PySem.W.fnOf "_law_right" "_law_right" (defArgs st_rightL_) (defBody st_rightL_) (defScope st_rightL_) .none kV43 dc43 pm43 an43 cd43 ct43), sl43⟩) (c43 : PySem.W.codeIn K cd43 "_law_right" = true) (k43 : PySem.W.keepIn K (.ref f43) = true)
    (a44 : PySem.W.nsIn K mainGlobals "law" = some (some (.ref f44))) (l44 : K.lookup f44 = some ⟨o44, od44, .func (PySem.W.fnOf "law" "law" (defArgs st_law_) (defBody st_law_) (defScope st_law_) .none kV44 dc44 pm44 an44 cd44 ct44), sl44⟩) (c44 : PySem.W.codeIn K cd44 "law" = true) (k44 : PySem.W.keepIn K (.ref f44) = true)
    (aC_NoNumber : PySem.W.nsIn K mainGlobals "NoNumber" = some (some (.ref C_NoNumber)))
    (aC_NoPaper : PySem.W.nsIn K mainGlobals "NoPaper" = some (some (.ref C_NoPaper)))
    (aC_NoWorld : PySem.W.nsIn K mainGlobals "NoWorld" = some (some (.ref C_NoWorld)))
    (eX_NoPaper : PySem.W.exmOne K (.ref C_NoPaper) (.ref C_NoPaper) = some true)
    (T_NoNumber : OexL K C_NoNumber) (iC_NoNumber : PySem.W.findIn K (.ref C_NoNumber) "__init__" = some (some (.ref fI_NoNumber))) (tI_NoNumber : PySem.W.typeIn K (.ref fI_NoNumber) = some (.type "function")) (lI_NoNumber : K.lookup fI_NoNumber = some ⟨oI_NoNumber, odI_NoNumber, .func (PySem.W.fnOf "__init__" "NoNumber.__init__" (defArgs st_i_NoNumber) (defBody st_i_NoNumber) (defScope st_i_NoNumber) .none kVI_NoNumber dcI_NoNumber pmI_NoNumber anI_NoNumber cdI_NoNumber ctI_NoNumber), slI_NoNumber⟩) (cI_NoNumber : PySem.W.codeIn K cdI_NoNumber "NoNumber.__init__" = true) (kI_NoNumber : PySem.W.keepIn K (.ref fI_NoNumber) = true) (nC_NoNumber_0 : PySem.W.findIn K (.ref C_NoNumber) "number" = some none)
    (T_NoPaper : OexC K C_NoPaper) (iC_NoPaper : PySem.W.findIn K (.ref C_NoPaper) "__init__" = some (some (.ref fI_NoPaper))) (tI_NoPaper : PySem.W.typeIn K (.ref fI_NoPaper) = some (.type "function")) (lI_NoPaper : K.lookup fI_NoPaper = some ⟨oI_NoPaper, odI_NoPaper, .func (PySem.W.fnOf "__init__" "NoPaper.__init__" (defArgs st_i_NoPaper) (defBody st_i_NoPaper) (defScope st_i_NoPaper) .none kVI_NoPaper dcI_NoPaper pmI_NoPaper anI_NoPaper cdI_NoPaper ctI_NoPaper), slI_NoPaper⟩) (cI_NoPaper : PySem.W.codeIn K cdI_NoPaper "NoPaper.__init__" = true) (kI_NoPaper : PySem.W.keepIn K (.ref fI_NoPaper) = true) (nC_NoPaper_0 : PySem.W.findIn K (.ref C_NoPaper) "word" = some none) (nC_NoPaper_1 : PySem.W.findIn K (.ref C_NoPaper) "at" = some none)
    (T_NoWorld : OexC K C_NoWorld) (iC_NoWorld : PySem.W.findIn K (.ref C_NoWorld) "__init__" = some (some (.ref fI_NoWorld))) (tI_NoWorld : PySem.W.typeIn K (.ref fI_NoWorld) = some (.type "function")) (lI_NoWorld : K.lookup fI_NoWorld = some ⟨oI_NoWorld, odI_NoWorld, .func (PySem.W.fnOf "__init__" "NoWorld.__init__" (defArgs st_i_NoWorld) (defBody st_i_NoWorld) (defScope st_i_NoWorld) .none kVI_NoWorld dcI_NoWorld pmI_NoWorld anI_NoWorld cdI_NoWorld ctI_NoWorld), slI_NoWorld⟩) (cI_NoWorld : PySem.W.codeIn K cdI_NoWorld "NoWorld.__init__" = true) (kI_NoWorld : PySem.W.keepIn K (.ref fI_NoWorld) = true) (nC_NoWorld_0 : PySem.W.findIn K (.ref C_NoWorld) "ring" = some none)
    (eY_NoWorld : PySem.W.exmOne K (.ref C_NoWorld) (.ref C_NoWorld) = some true)
    (kE_NoWorld_0 : PySem.W.findIn K (.ref C_NoWorld) "__getattribute__" = some (some (.builtin "BaseException.__getattribute__")))
    (kE_NoWorld_1 : PySem.W.findIn K (.ref C_NoWorld) "__getattr__" = some none)
    (kE_NoWorld_2 : PySem.W.subIn K (.ref C_NoWorld) (.type "BaseException") = some true)
    (kE_NoWorld_3 : PySem.W.hasDictIn K C_NoWorld = true)
    (kE_NoWorld_4 : PySem.W.findIn K (.ref C_NoWorld) "__class__" = some (some (.builtin "object.__class__")))
    (kE_NoWorld_5 : PySem.W.specialIn K (.builtin "object.__class__") "__get__" = some (some (.builtin "getset_descriptor.__get__")))
    (kE_NoWorld_6 : PySem.W.takesIn K (.builtin "object.__class__") = some true)
    (kE_NoWorld_7 : PySem.W.mroIn K C_NoWorld (.type "object") = some true)
    (z_isinstance : PySem.W.nsIn K mainGlobals "isinstance" = some none) (z_int : PySem.W.nsIn K mainGlobals "int" = some none) (z_bool : PySem.W.nsIn K mainGlobals "bool" = some none) (z_tuple : PySem.W.nsIn K mainGlobals "tuple" = some none) (z_all : PySem.W.nsIn K mainGlobals "all" = some none) (z_abs : PySem.W.nsIn K mainGlobals "abs" = some none) (z_len : PySem.W.nsIn K mainGlobals "len" = some none) (z_enumerate : PySem.W.nsIn K mainGlobals "enumerate" = some none) (z_range : PySem.W.nsIn K mainGlobals "range" = some none) (z_list : PySem.W.nsIn K mainGlobals "list" = some none) (z_sorted : PySem.W.nsIn K mainGlobals "sorted" = some none) (z_max : PySem.W.nsIn K mainGlobals "max" = some none) :
    ∃ fd : FuncData, (∀ (s : Shared) (v : Value), BindsTo s fd ⟨[v], []⟩ [("_law_script", v)]) ∧ ∀ base : Heap, K.In base → base.Ns mainGlobals mg → FnG l.prog w K mg base 14 fa fd ["_law_script"] (spW K) := by
  have e := hfa.symm.trans (PySem.W.mg_of X G a44)
  cases e
  have F0 := fun_mk (st := st_is_number_) l0 c0 k0
  have g0 := PySem.W.mg_of X G a0
  have b0 := F0.binds (ps := ["thing"]) fun _ _ _ _ _ _ us hl => match us, hl with | [_], _ => rfl
  have F1 := fun_mk (st := st_are_numbers_) l1 c1 k1
  have g1 := PySem.W.mg_of X G a1
  have b1 := F1.binds (ps := ["thing"]) fun _ _ _ _ _ _ us hl => match us, hl with | [_], _ => rfl
  have F2 := fun_mk (st := st_common_divisor_) l2 c2 k2
  have g2 := PySem.W.mg_of X G a2
  have b2 := F2.binds (ps := ["a", "b"]) fun _ _ _ _ _ _ us hl => match us, hl with | [_, _], _ => rfl
  have F3 := fun_mk (st := st_is_fraction_) l3 c3 k3
  have g3 := PySem.W.mg_of X G a3
  have b3 := F3.binds (ps := ["thing"]) fun _ _ _ _ _ _ us hl => match us, hl with | [_], _ => rfl
  have F4 := fun_mk (st := st_ratio_) l4 c4 k4
  have g4 := PySem.W.mg_of X G a4
  have b4 := F4.binds (ps := ["a", "b"]) fun _ _ _ _ _ _ us hl => match us, hl with | [_, _], _ => rfl
  have F5 := fun_mk (st := st_added_) l5 c5 k5
  have g5 := PySem.W.mg_of X G a5
  have b5 := F5.binds (ps := ["one", "other"]) fun _ _ _ _ _ _ us hl => match us, hl with | [_, _], _ => rfl
  have F6 := fun_mk (st := st_less_) l6 c6 k6
  have g6 := PySem.W.mg_of X G a6
  have b6 := F6.binds (ps := ["one", "other"]) fun _ _ _ _ _ _ us hl => match us, hl with | [_, _], _ => rfl
  have F7 := fun_mk (st := st_parted_) l7 c7 k7
  have g7 := PySem.W.mg_of X G a7
  have b7 := F7.binds (ps := ["one", "other"]) fun _ _ _ _ _ _ us hl => match us, hl with | [_, _], _ => rfl
  have F8 := fun_mk (st := st_is_below_) l8 c8 k8
  have g8 := PySem.W.mg_of X G a8
  have b8 := F8.binds (ps := ["one", "other"]) fun _ _ _ _ _ _ us hl => match us, hl with | [_, _], _ => rfl
  have F9 := fun_mk (st := st_common_unit_) l9 c9 k9
  have g9 := PySem.W.mg_of X G a9
  have b9 := F9.binds (ps := ["fractions"]) fun _ _ _ _ _ _ us hl => match us, hl with | [_], _ => rfl
  have F10 := fun_mk (st := st_drift_of_) l10 c10 k10
  have g10 := PySem.W.mg_of X G a10
  have b10 := F10.binds (ps := ["field", "name"]) fun _ _ _ _ _ _ us hl => match us, hl with | [_, _], _ => rfl
  have F11 := fun_mk (st := st_moves_into_) l11 c11 k11
  have g11 := PySem.W.mg_of X G a11
  have b11 := F11.binds (ps := ["field", "events", "last", "event"]) fun _ _ _ _ _ _ us hl => match us, hl with | [_, _, _, _], _ => rfl
  have F12 := fun_mk (st := st_history_moves_) l12 c12 k12
  have g12 := PySem.W.mg_of X G a12
  have b12 := F12.binds (ps := ["history"]) fun _ _ _ _ _ _ us hl => match us, hl with | [_], _ => rfl
  have F13 := fun_mk (st := st_history_steps_) l13 c13 k13
  have g13 := PySem.W.mg_of X G a13
  have b13 := F13.binds (ps := ["history"]) fun _ _ _ _ _ _ us hl => match us, hl with | [_], _ => rfl
  have F14 := fun_mk (st := st_whole_steps_) l14 c14 k14
  have g14 := PySem.W.mg_of X G a14
  have b14 := F14.binds (ps := ["steps"]) fun _ _ _ _ _ _ us hl => match us, hl with | [_], _ => rfl
  have F15 := fun_mk (st := st_go_over_) l15 c15 k15
  have g15 := PySem.W.mg_of X G a15
  have b15 := F15.binds (ps := ["whole", "moments", "came_by"]) fun _ _ _ _ _ _ us hl => match us, hl with | [_, _, _], _ => rfl
  have F16 := fun_mk (st := st_go_down_) l16 c16 k16
  have g16 := PySem.W.mg_of X G a16
  have b16 := F16.binds (ps := ["whole", "moments", "came_by"]) fun _ _ _ _ _ _ us hl => match us, hl with | [_, _, _], _ => rfl
  have F17 := fun_mk (st := st_ring_behind_) l17 c17 k17
  have g17 := PySem.W.mg_of X G a17
  have b17 := F17.binds (ps := ["steps", "came_by", "event"]) fun _ _ _ _ _ _ us hl => match us, hl with | [_, _, _], _ => rfl
  have F18 := fun_mk (st := st_world_or_ring_) l18 c18 k18
  have g18 := PySem.W.mg_of X G a18
  have b18 := F18.binds (ps := ["history"]) fun _ _ _ _ _ _ us hl => match us, hl with | [_], _ => rfl
  have F19 := fun_mk (st := st_ring_of_) l19 c19 k19
  have g19 := PySem.W.mg_of X G a19
  have b19 := F19.binds (ps := ["history"]) fun _ _ _ _ _ _ us hl => match us, hl with | [_], _ => rfl
  have F20 := fun_mk (st := st_bar_number_) l20 c20 k20
  have g20 := PySem.W.mg_of X G a20
  have b20 := F20.binds (ps := ["history", "number"]) fun _ _ _ _ _ _ us hl => match us, hl with | [_, _], _ => rfl
  have F21 := fun_mk (st := st_bar_ring_) l21 c21 k21
  have g21 := PySem.W.mg_of X G a21
  have b21 := F21.binds (ps := ["history"]) fun _ _ _ _ _ _ us hl => match us, hl with | [_], _ => rfl
  have F22 := fun_mk (st := st_sums_parted_) l22 c22 k22
  have g22 := PySem.W.mg_of X G a22
  have b22 := F22.binds (ps := ["sums", "unit"]) fun _ _ _ _ _ _ us hl => match us, hl with | [_, _], _ => rfl
  have F23 := fun_mk (st := st_only_at_) l23 c23 k23
  have g23 := PySem.W.mg_of X G a23
  have b23 := F23.binds (ps := ["many", "x"]) fun _ _ _ _ _ _ us hl => match us, hl with | [_, _], _ => rfl
  have F24 := fun_mk (st := st_steps_leaving_) l24 c24 k24
  have g24 := PySem.W.mg_of X G a24
  have b24 := F24.binds (ps := ["whole", "many"]) fun _ _ _ _ _ _ us hl => match us, hl with | [_, _], _ => rfl
  have F25 := fun_mk (st := st_run_clever_) l25 c25 k25
  have g25 := PySem.W.mg_of X G a25
  have b25 := F25.binds (ps := ["whole", "many", "x"]) fun _ _ _ _ _ _ us hl => match us, hl with | [_, _, _], _ => rfl
  have F26 := fun_mk (st := st_reach_clever_) l26 c26 k26
  have g26 := PySem.W.mg_of X G a26
  have b26 := F26.binds (ps := ["history", "x"]) fun _ _ _ _ _ _ us hl => match us, hl with | [_, _], _ => rfl
  have F27 := fun_mk (st := st_reach_) l27 c27 k27
  have g27 := PySem.W.mg_of X G a27
  have b27 := F27.binds (ps := ["history", "x", "y"]) fun _ _ _ _ _ _ us hl => match us, hl with | [_, _, _], _ => rfl
  have F28 := fun_mk (st := st_sum_along_) l28 c28 k28
  have g28 := PySem.W.mg_of X G a28
  have b28 := F28.binds (ps := ["steps", "numbers"]) fun _ _ _ _ _ _ us hl => match us, hl with | [_, _], _ => rfl
  have F29 := fun_mk (st := st_lets_ring_) l29 c29 k29
  have g29 := PySem.W.mg_of X G a29
  have b29 := F29.binds (ps := ["history", "thing"]) fun _ _ _ _ _ _ us hl => match us, hl with | [_, _], _ => rfl
  have F30 := fun_mk (st := st_are_fractions_) l30 c30 k30
  have g30 := PySem.W.mg_of X G a30
  have b30 := F30.binds (ps := ["thing"]) fun _ _ _ _ _ _ us hl => match us, hl with | [_], _ => rfl
  have F31 := fun_mk (st := st_world_bars_) l31 c31 k31
  have g31 := PySem.W.mg_of X G a31
  have b31 := F31.binds (ps := ["history", "world"]) fun _ _ _ _ _ _ us hl => match us, hl with | [_, _], _ => rfl
  have F32 := fun_mk (st := st_lets_world_) l32 c32 k32
  have g32 := PySem.W.mg_of X G a32
  have b32 := F32.binds (ps := ["history", "thing"]) fun _ _ _ _ _ _ us hl => match us, hl with | [_, _], _ => rfl
  have F33 := fun_mk (st := st_feedL_) l33 c33 k33
  have g33 := PySem.W.mg_of X G a33
  have b33 := F33.binds (ps := ["_law_script"]) fun _ _ _ _ _ _ us hl => match us, hl with | [_], _ => rfl
  have F34 := fun_mk (st := st_drawL_) l34 c34 k34
  have g34 := PySem.W.mg_of X G a34
  have b34 := F34.binds (ps := ["_law_feed_here", "_law_many"]) fun _ _ _ _ _ _ us hl => match us, hl with | [_, _], _ => rfl
  have F35 := fun_mk (st := st_fracL_) l35 c35 k35
  have g35 := PySem.W.mg_of X G a35
  have b35 := F35.binds (ps := ["_law_top", "_law_bottom"]) fun _ _ _ _ _ _ us hl => match us, hl with | [_, _], _ => rfl
  have F36 := fun_mk (st := st_fieldL_) l36 c36 k36
  have g36 := PySem.W.mg_of X G a36
  have b36 := F36.binds (ps := ["_law_feed_here", "_law_most"]) fun _ _ _ _ _ _ us hl => match us, hl with | [_, _], _ => rfl
  have F37 := fun_mk (st := st_ratesL_) l37 c37 k37
  have g37 := PySem.W.mg_of X G a37
  have b37 := F37.binds (ps := ["_law_field_here", "_law_name"]) fun _ _ _ _ _ _ us hl => match us, hl with | [_, _], _ => rfl
  have F38 := fun_mk (st := st_openL_) l38 c38 k38
  have g38 := PySem.W.mg_of X G a38
  have b38 := F38.binds (ps := ["_law_field_here", "_law_sends", "_law_name", "_law_now"]) fun _ _ _ _ _ _ us hl => match us, hl with | [_, _, _, _], _ => rfl
  have F39 := fun_mk (st := st_drawnL_) l39 c39 k39
  have g39 := PySem.W.mg_of X G a39
  have b39 := F39.binds (ps := ["_law_feed_here", "_law_most", "_law_many"]) fun _ _ _ _ _ _ us hl => match us, hl with | [_, _, _], _ => rfl
  have F40 := fun_mk (st := st_barredL_) l40 c40 k40
  have g40 := PySem.W.mg_of X G a40
  have b40 := F40.binds (ps := ["_law_feed_here", "_law_history"]) fun _ _ _ _ _ _ us hl => match us, hl with | [_, _], _ => rfl
  have F41 := fun_mk (st := st_letL_) l41 c41 k41
  have g41 := PySem.W.mg_of X G a41
  have b41 := F41.binds (ps := ["_law_look", "_law_history", "_law_thing"]) fun _ _ _ _ _ _ us hl => match us, hl with | [_, _, _], _ => rfl
  have F42 := fun_mk (st := st_barringL_) l42 c42 k42
  have g42 := PySem.W.mg_of X G a42
  have b42 := F42.binds (ps := ["_law_history"]) fun _ _ _ _ _ _ us hl => match us, hl with | [_], _ => rfl
  have F43 := fun_mk (st := st_rightL_) l43 c43 k43
  have g43 := PySem.W.mg_of X G a43
  have b43 := F43.binds (ps := ["_law_history", "_law_clocked"]) fun _ _ _ _ _ _ us hl => match us, hl with | [_, _], _ => rfl
  have F44 := fun_mk (st := st_law_) l44 c44 k44
  have gC_NoNumber := PySem.W.mg_of X G aC_NoNumber
  have gC_NoPaper := PySem.W.mg_of X G aC_NoPaper
  have gC_NoWorld := PySem.W.mg_of X G aC_NoWorld
  have FI_NoNumber := fun_mk (st := st_i_NoNumber) lI_NoNumber cI_NoNumber kI_NoNumber
  have bI_NoNumber := FI_NoNumber.binds (ps := ["self", "number"]) fun _ _ _ _ _ _ us hl => match us, hl with | [_, _], _ => rfl
  have FI_NoPaper := fun_mk (st := st_i_NoPaper) lI_NoPaper cI_NoPaper kI_NoPaper
  have bI_NoPaper := FI_NoPaper.binds (ps := ["self", "word", "at"]) fun _ _ _ _ _ _ us hl => match us, hl with | [_, _, _], _ => rfl
  have FI_NoWorld := fun_mk (st := st_i_NoWorld) lI_NoWorld cI_NoWorld kI_NoWorld
  have bI_NoWorld := FI_NoWorld.binds (ps := ["self", "ring"]) fun _ _ _ _ _ _ us hl => match us, hl with | [_, _], _ => rfl
  have m_isinstance := PySem.W.mg_none_of X G z_isinstance
  have m_int := PySem.W.mg_none_of X G z_int
  have m_bool := PySem.W.mg_none_of X G z_bool
  have m_tuple := PySem.W.mg_none_of X G z_tuple
  have m_all := PySem.W.mg_none_of X G z_all
  have m_abs := PySem.W.mg_none_of X G z_abs
  have m_len := PySem.W.mg_none_of X G z_len
  have m_enumerate := PySem.W.mg_none_of X G z_enumerate
  have m_range := PySem.W.mg_none_of X G z_range
  have m_list := PySem.W.mg_none_of X G z_list
  have m_sorted := PySem.W.mg_none_of X G z_sorted
  have m_max := PySem.W.mg_none_of X G z_max
  have c_NOUGHT : Cst K mg "NOUGHT" (.tup [.int 0, .int 1]) := ⟨u_NOUGHT, PySem.W.mg_of X G g_NOUGHT, v_NOUGHT⟩
  letI : AL.TT := TC K
  refine ⟨PySem.W.fnOf "law" "law" (defArgs st_law_) (defBody st_law_) (defScope st_law_) .none kV44 dc44 pm44 an44 cd44 ct44, fun s v => .of_eq rfl, fun base _ _ => ?_⟩
  have tc_lets_ring : AL.TT.cls "lets_ring" = f29 := clsK_at a29
  have hV_lets_ring : mg "lets_ring" = some (.ref (AL.TT.cls "lets_ring")) := by rw [tc_lets_ring]; exact g29
  have tc_lets_world : AL.TT.cls "lets_world" = f32 := clsK_at a32
  have hV_lets_world : mg "lets_world" = some (.ref (AL.TT.cls "lets_world")) := by rw [tc_lets_world]; exact g32
  have x_NoNumber : KnX l.prog w K mg base "NoNumber" := kn_NoNumber T_NoNumber iC_NoNumber tI_NoNumber gC_NoNumber FI_NoNumber bI_NoNumber nC_NoNumber_0
  have x_NoPaper : KnX l.prog w K mg base "NoPaper" := kn_NoPaper T_NoPaper iC_NoPaper tI_NoPaper gC_NoPaper FI_NoPaper bI_NoPaper nC_NoPaper_0 nC_NoPaper_1
  have x_NoWorld : KnX l.prog w K mg base "NoWorld" := kn_NoWorld T_NoWorld iC_NoWorld tI_NoWorld gC_NoWorld FI_NoWorld bI_NoWorld nC_NoWorld_0
  have cl_NoWorld := gC_NoWorld
  have hx_NoWorld : ∃ D, mg "NoWorld" = some (.ref D) ∧ PySem.W.exmOne K (.ref D) (.ref C_NoWorld) = some true := ⟨_, gC_NoWorld, eY_NoWorld⟩
  have ke_NoWorld : KnE K mg "NoWorld" := ⟨C_NoWorld, gC_NoWorld, kE_NoWorld_0, kE_NoWorld_1, kE_NoWorld_2, kE_NoWorld_3, kE_NoWorld_4, kE_NoWorld_5, kE_NoWorld_6, kE_NoWorld_7, fun n hn => by
    have hn : n ∈ (["ring"] : List Str) := hn
    simp only [List.mem_cons, List.not_mem_nil, or_false] at hn
    rcases hn with rfl
    · exact nC_NoWorld_0⟩
  have cl_NoPaper := gC_NoPaper
  have ex_NoPaper := eX_NoPaper
  have d_is_number_ : Def l.prog w K mg base 1 "is_number" ["thing"] is_number_ := ok_is_number_ F0 b0 g0 m_isinstance m_int m_bool
  have d_are_numbers_ : Def l.prog w K mg base 2 "are_numbers" ["thing"] are_numbers_ := ok_are_numbers_ F1 b1 g1 d_is_number_ m_isinstance m_tuple m_all
  have d_common_divisor_ : Def l.prog w K mg base 1 "common_divisor" ["a", "b"] common_divisor_ := ok_common_divisor_ F2 b2 g2 m_abs
  have d_is_fraction_ : Def l.prog w K mg base 2 "is_fraction" ["thing"] is_fraction_ := ok_is_fraction_ F3 b3 g3 d_is_number_ d_common_divisor_ m_isinstance m_tuple m_len
  have d_ratio_ : Def l.prog w K mg base 2 "ratio" ["a", "b"] ratio_ := ok_ratio_ F4 b4 g4 d_common_divisor_
  have d_added_ : Def l.prog w K mg base 3 "added" ["one", "other"] added_ := ok_added_ F5 b5 g5 d_ratio_
  have d_less_ : Def l.prog w K mg base 3 "less" ["one", "other"] less_ := ok_less_ F6 b6 g6 d_ratio_
  have d_parted_ : Def l.prog w K mg base 3 "parted" ["one", "other"] parted_ := ok_parted_ F7 b7 g7 d_ratio_
  have d_is_below_ : Def l.prog w K mg base 1 "is_below" ["one", "other"] is_below_ := ok_is_below_ F8 b8 g8
  have d_common_unit_ : Def l.prog w K mg base 2 "common_unit" ["fractions"] common_unit_ := ok_common_unit_ F9 b9 g9 d_common_divisor_
  have d_drift_of_ : Def l.prog w K mg base 1 "drift_of" ["field", "name"] drift_of_ := ok_drift_of_ F10 b10 g10
  have d_moves_into_ : Def l.prog w K mg base 4 "moves_into" ["field", "events", "last", "event"] moves_into_ := ok_moves_into_ F11 b11 g11 d_drift_of_ d_less_ d_parted_
  have d_history_moves_ : Def l.prog w K mg base 5 "history_moves" ["history"] history_moves_ := ok_history_moves_ F12 b12 g12 d_moves_into_ m_enumerate
  have d_history_steps_ : Def l.prog w K mg base 6 "history_steps" ["history"] history_steps_ := ok_history_steps_ F13 b13 g13 d_history_moves_ d_less_ c_NOUGHT m_enumerate m_tuple
  have d_whole_steps_ : Def l.prog w K mg base 3 "whole_steps" ["steps"] whole_steps_ := ok_whole_steps_ F14 b14 g14 d_common_unit_
  have d_go_over_ : Def l.prog w K mg base 1 "go_over" ["whole", "moments", "came_by"] go_over_ := ok_go_over_ F15 b15 g15 m_enumerate
  have d_go_down_ : Def l.prog w K mg base 2 "go_down" ["whole", "moments", "came_by"] go_down_ := ok_go_down_ F16 b16 g16 d_go_over_ m_len
  have d_ring_behind_ : Def l.prog w K mg base 1 "ring_behind" ["steps", "came_by", "event"] ring_behind_ := ok_ring_behind_ F17 b17 g17 m_tuple
  have d_world_or_ring_ : Def l.prog w K mg base 7 "world_or_ring" ["history"] world_or_ring_ := ok_world_or_ring_ F18 b18 g18 d_history_steps_ d_whole_steps_ d_go_down_ d_ring_behind_ d_ratio_ m_tuple
  have d_ring_of_ : Def l.prog w K mg base 8 "ring_of" ["history"] ring_of_ := ok_ring_of_ F19 b19 g19 d_world_or_ring_
  have d_bar_number_ : DefX l.prog w K mg base 3 "bar_number" ["history", "number"] bar_number_ := ok_bar_number_ F20 b20 g20 x_NoNumber m_len
  have d_bar_ring_ : DefX l.prog w K mg base 9 "bar_ring" ["history"] bar_ring_ := ok_bar_ring_ F21 b21 g21 d_ring_of_ x_NoWorld
  have d_sums_parted_ : Def l.prog w K mg base 3 "sums_parted" ["sums", "unit"] sums_parted_ := ok_sums_parted_ F22 b22 g22 d_ratio_ m_tuple
  have d_only_at_ : Def l.prog w K mg base 1 "only_at" ["many", "x"] only_at_ := ok_only_at_ F23 b23 g23 m_range
  have d_steps_leaving_ : Def l.prog w K mg base 1 "steps_leaving" ["whole", "many"] steps_leaving_ := ok_steps_leaving_ F24 b24 g24 m_range
  have d_run_clever_ : Def l.prog w K mg base 2 "run_clever" ["whole", "many", "x"] run_clever_ := ok_run_clever_ F25 b25 g25 d_only_at_ d_steps_leaving_ m_len
  have d_reach_clever_ : DefX l.prog w K mg base 10 "reach_clever" ["history", "x"] reach_clever_ := ok_reach_clever_ F26 b26 g26 d_whole_steps_ d_sums_parted_ d_history_steps_ d_run_clever_ d_bar_ring_ d_bar_number_ m_len
  have d_reach_ : DefX l.prog w K mg base 11 "reach" ["history", "x", "y"] reach_ := ok_reach_ F27 b27 g27 d_reach_clever_ d_bar_number_
  have d_sum_along_ : Def l.prog w K mg base 4 "sum_along" ["steps", "numbers"] sum_along_ := ok_sum_along_ F28 b28 g28 d_added_ c_NOUGHT
  have d_lets_ring_ : DefX l.prog w K mg base 7 "lets_ring" ["history", "thing"] lets_ring_ := ok_lets_ring_ F29 b29 g29 d_history_steps_ d_sum_along_ d_is_below_ d_are_numbers_ x_NoPaper c_NOUGHT m_enumerate m_len
  have d_are_fractions_ : Def l.prog w K mg base 3 "are_fractions" ["thing"] are_fractions_ := ok_are_fractions_ F30 b30 g30 d_is_fraction_ m_isinstance m_tuple m_all
  have d_world_bars_ : Def l.prog w K mg base 7 "world_bars" ["history", "world"] world_bars_ := ok_world_bars_ F31 b31 g31 d_history_steps_ d_is_below_ d_added_ m_enumerate
  have d_lets_world_ : DefX l.prog w K mg base 8 "lets_world" ["history", "thing"] lets_world_ := ok_lets_world_ F32 b32 g32 d_world_bars_ d_are_fractions_ x_NoPaper m_len
  have d_feedL_ : Def l.prog w K mg base 1 "_law_feed" ["_law_script"] feedL_ := ok_feedL_ F33 b33 g33 m_list
  have d_drawL_ : Def l.prog w K mg base 1 "_law_draw" ["_law_feed_here", "_law_many"] drawL_ := ok_drawL_ F34 b34 g34 m_abs m_len m_int
  have d_fracL_ : Def l.prog w K mg base 1 "_law_frac" ["_law_top", "_law_bottom"] fracL_ := ok_fracL_ F35 b35 g35 m_abs
  have d_fieldL_ : Def l.prog w K mg base 2 "_law_field" ["_law_feed_here", "_law_most"] fieldL_ := ok_fieldL_ F36 b36 g36 d_drawL_ d_fracL_ m_sorted m_range m_tuple m_int m_len
  have d_ratesL_ : Def l.prog w K mg base 1 "_law_rates" ["_law_field_here", "_law_name"] ratesL_ := ok_ratesL_ F37 b37 g37
  have d_openL_ : Def l.prog w K mg base 1 "_law_open" ["_law_field_here", "_law_sends", "_law_name", "_law_now"] openL_ := ok_openL_ F38 b38 g38
  have d_drawnL_ : Def l.prog w K mg base 3 "_law_drawn" ["_law_feed_here", "_law_most", "_law_many"] drawnL_ := ok_drawnL_ F39 b39 g39 d_fieldL_ d_openL_ d_drawL_ d_ratesL_ d_fracL_ m_range m_tuple m_enumerate m_len
  have d_barredL_ : Def l.prog w K mg base 2 "_law_barred" ["_law_feed_here", "_law_history"] barredL_ := ok_barredL_ F40 b40 g40 d_drawL_ d_fracL_ m_list m_range m_max m_len m_tuple
  have d_letL_ : Def l.prog w K mg base 9 "_law_let" ["_law_look", "_law_history", "_law_thing"] letL_ := ok_letL_ F41 b41 g41 d_lets_ring_ d_lets_world_ hV_lets_ring hV_lets_world cl_NoPaper ex_NoPaper
  have d_barringL_ : Def l.prog w K mg base 12 "_law_barring" ["_law_history"] barringL_ := ok_barringL_ F42 b42 g42 d_reach_ cl_NoWorld hx_NoWorld ke_NoWorld m_len
  have d_rightL_ : Def l.prog w K mg base 13 "_law_right" ["_law_history", "_law_clocked"] rightL_ := ok_rightL_ F43 b43 g43 d_world_or_ring_ d_ring_of_ d_barringL_ d_letL_ d_fracL_ hV_lets_ring hV_lets_world m_tuple m_len
  exact ok_law_ F44 d_feedL_ d_drawnL_ d_barredL_ d_drawL_ d_letL_ d_rightL_ d_world_or_ring_ d_ring_of_ d_barringL_ hV_lets_world m_range m_len
end K27
open PySem PySem.W PyProof.Rows in
set_option maxRecDepth 100000 in
set_option maxHeartbeats 0 in
theorem PySem.Challenge.cw_ledclocks_k27_whole_world_or_ring_holds : PySem.Challenge.rw_ledclocks_k27_whole_world_or_ring.Holds := by
  w_on; o_law; k_head; (case hw => w_witness2)
  k_fill
  refine G.walk_g (l := PySem.Challenge.rw_ledclocks_k27_whole_world_or_ring) (n := 63) (k := 14) (x := "_law_script") (sp := fun w => K27.spW _) rfl (by decide) rfl ⟨rfl, by decide, by decide⟩ (fun w h Y => PySem.W.kIn_of Y) ?F (fun w _ a ns hl hO hS => K27.spW_h hl hO hS)
  case F =>
    intro w mg fa h KX G hmg
    refine' K27.all_mk KX G hmg ?g_NOUGHT ?v_NOUGHT ?a0 ?l0 ?c0 ?k0 ?a1 ?l1 ?c1 ?k1 ?a2 ?l2 ?c2 ?k2 ?a3 ?l3 ?c3 ?k3 ?a4 ?l4 ?c4 ?k4 ?a5 ?l5 ?c5 ?k5 ?a6 ?l6 ?c6 ?k6 ?a7 ?l7 ?c7 ?k7 ?a8 ?l8 ?c8 ?k8 ?a9 ?l9 ?c9 ?k9 ?a10 ?l10 ?c10 ?k10 ?a11 ?l11 ?c11 ?k11 ?a12 ?l12 ?c12 ?k12 ?a13 ?l13 ?c13 ?k13 ?a14 ?l14 ?c14 ?k14 ?a15 ?l15 ?c15 ?k15 ?a16 ?l16 ?c16 ?k16 ?a17 ?l17 ?c17 ?k17 ?a18 ?l18 ?c18 ?k18 ?a19 ?l19 ?c19 ?k19 ?a20 ?l20 ?c20 ?k20 ?a21 ?l21 ?c21 ?k21 ?a22 ?l22 ?c22 ?k22 ?a23 ?l23 ?c23 ?k23 ?a24 ?l24 ?c24 ?k24 ?a25 ?l25 ?c25 ?k25 ?a26 ?l26 ?c26 ?k26 ?a27 ?l27 ?c27 ?k27 ?a28 ?l28 ?c28 ?k28 ?a29 ?l29 ?c29 ?k29 ?a30 ?l30 ?c30 ?k30 ?a31 ?l31 ?c31 ?k31 ?a32 ?l32 ?c32 ?k32 ?a33 ?l33 ?c33 ?k33 ?a34 ?l34 ?c34 ?k34 ?a35 ?l35 ?c35 ?k35 ?a36 ?l36 ?c36 ?k36 ?a37 ?l37 ?c37 ?k37 ?a38 ?l38 ?c38 ?k38 ?a39 ?l39 ?c39 ?k39 ?a40 ?l40 ?c40 ?k40 ?a41 ?l41 ?c41 ?k41 ?a42 ?l42 ?c42 ?k42 ?a43 ?l43 ?c43 ?k43 ?a44 ?l44 ?c44 ?k44   ?aC_NoNumber ?aC_NoPaper ?aC_NoWorld ?eX_NoPaper ?T_NoNumber ?iC_NoNumber ?tI_NoNumber ?lI_NoNumber ?cI_NoNumber ?kI_NoNumber ?nC_NoNumber_0 ?T_NoPaper ?iC_NoPaper ?tI_NoPaper ?lI_NoPaper ?cI_NoPaper ?kI_NoPaper ?nC_NoPaper_0 ?nC_NoPaper_1 ?T_NoWorld ?iC_NoWorld ?tI_NoWorld ?lI_NoWorld ?cI_NoWorld ?kI_NoWorld ?nC_NoWorld_0 ?eY_NoWorld ?kE_NoWorld_0 ?kE_NoWorld_1 ?kE_NoWorld_2 ?kE_NoWorld_3 ?kE_NoWorld_4 ?kE_NoWorld_5 ?kE_NoWorld_6 ?kE_NoWorld_7  ?z_isinstance ?z_int ?z_bool ?z_tuple ?z_all ?z_abs ?z_len ?z_enumerate ?z_range ?z_list ?z_sorted ?z_max
    (case g_NOUGHT => k_is)
    (case v_NOUGHT => open AL in exact (cv_tup (by k_is) rfl rfl (by decide) (cvs_cons cv_int (cvs_cons cv_int cvs_nil))))
    (case a0 => k_is)
    (case l0 => k_is)
    (case c0 => k_is)
    (case k0 => k_is)
    (case a1 => k_is)
    (case l1 => k_is)
    (case c1 => k_is)
    (case k1 => k_is)
    (case a2 => k_is)
    (case l2 => k_is)
    (case c2 => k_is)
    (case k2 => k_is)
    (case a3 => k_is)
    (case l3 => k_is)
    (case c3 => k_is)
    (case k3 => k_is)
    (case a4 => k_is)
    (case l4 => k_is)
    (case c4 => k_is)
    (case k4 => k_is)
    (case a5 => k_is)
    (case l5 => k_is)
    (case c5 => k_is)
    (case k5 => k_is)
    (case a6 => k_is)
    (case l6 => k_is)
    (case c6 => k_is)
    (case k6 => k_is)
    (case a7 => k_is)
    (case l7 => k_is)
    (case c7 => k_is)
    (case k7 => k_is)
    (case a8 => k_is)
    (case l8 => k_is)
    (case c8 => k_is)
    (case k8 => k_is)
    (case a9 => k_is)
    (case l9 => k_is)
    (case c9 => k_is)
    (case k9 => k_is)
    (case a10 => k_is)
    (case l10 => k_is)
    (case c10 => k_is)
    (case k10 => k_is)
    (case a11 => k_is)
    (case l11 => k_is)
    (case c11 => k_is)
    (case k11 => k_is)
    (case a12 => k_is)
    (case l12 => k_is)
    (case c12 => k_is)
    (case k12 => k_is)
    (case a13 => k_is)
    (case l13 => k_is)
    (case c13 => k_is)
    (case k13 => k_is)
    (case a14 => k_is)
    (case l14 => k_is)
    (case c14 => k_is)
    (case k14 => k_is)
    (case a15 => k_is)
    (case l15 => k_is)
    (case c15 => k_is)
    (case k15 => k_is)
    (case a16 => k_is)
    (case l16 => k_is)
    (case c16 => k_is)
    (case k16 => k_is)
    (case a17 => k_is)
    (case l17 => k_is)
    (case c17 => k_is)
    (case k17 => k_is)
    (case a18 => k_is)
    (case l18 => k_is)
    (case c18 => k_is)
    (case k18 => k_is)
    (case a19 => k_is)
    (case l19 => k_is)
    (case c19 => k_is)
    (case k19 => k_is)
    (case a20 => k_is)
    (case l20 => k_is)
    (case c20 => k_is)
    (case k20 => k_is)
    (case a21 => k_is)
    (case l21 => k_is)
    (case c21 => k_is)
    (case k21 => k_is)
    (case a22 => k_is)
    (case l22 => k_is)
    (case c22 => k_is)
    (case k22 => k_is)
    (case a23 => k_is)
    (case l23 => k_is)
    (case c23 => k_is)
    (case k23 => k_is)
    (case a24 => k_is)
    (case l24 => k_is)
    (case c24 => k_is)
    (case k24 => k_is)
    (case a25 => k_is)
    (case l25 => k_is)
    (case c25 => k_is)
    (case k25 => k_is)
    (case a26 => k_is)
    (case l26 => k_is)
    (case c26 => k_is)
    (case k26 => k_is)
    (case a27 => k_is)
    (case l27 => k_is)
    (case c27 => k_is)
    (case k27 => k_is)
    (case a28 => k_is)
    (case l28 => k_is)
    (case c28 => k_is)
    (case k28 => k_is)
    (case a29 => k_is)
    (case l29 => k_is)
    (case c29 => k_is)
    (case k29 => k_is)
    (case a30 => k_is)
    (case l30 => k_is)
    (case c30 => k_is)
    (case k30 => k_is)
    (case a31 => k_is)
    (case l31 => k_is)
    (case c31 => k_is)
    (case k31 => k_is)
    (case a32 => k_is)
    (case l32 => k_is)
    (case c32 => k_is)
    (case k32 => k_is)
    (case a33 => k_is)
    (case l33 => k_is)
    (case c33 => k_is)
    (case k33 => k_is)
    (case a34 => k_is)
    (case l34 => k_is)
    (case c34 => k_is)
    (case k34 => k_is)
    (case a35 => k_is)
    (case l35 => k_is)
    (case c35 => k_is)
    (case k35 => k_is)
    (case a36 => k_is)
    (case l36 => k_is)
    (case c36 => k_is)
    (case k36 => k_is)
    (case a37 => k_is)
    (case l37 => k_is)
    (case c37 => k_is)
    (case k37 => k_is)
    (case a38 => k_is)
    (case l38 => k_is)
    (case c38 => k_is)
    (case k38 => k_is)
    (case a39 => k_is)
    (case l39 => k_is)
    (case c39 => k_is)
    (case k39 => k_is)
    (case a40 => k_is)
    (case l40 => k_is)
    (case c40 => k_is)
    (case k40 => k_is)
    (case a41 => k_is)
    (case l41 => k_is)
    (case c41 => k_is)
    (case k41 => k_is)
    (case a42 => k_is)
    (case l42 => k_is)
    (case c42 => k_is)
    (case k42 => k_is)
    (case a43 => k_is)
    (case l43 => k_is)
    (case c43 => k_is)
    (case k43 => k_is)
    (case a44 => k_is)
    (case l44 => k_is)
    (case c44 => k_is)
    (case k44 => k_is)
    (case aC_NoNumber => k_is)
    (case aC_NoPaper => k_is)
    (case aC_NoWorld => k_is)
    (case eY_NoWorld => exact PySem.W.exm_ref (by k_is) (by k_is) (by k_is) (by k_is))
    (case kE_NoWorld_0 => k_is)
    (case kE_NoWorld_1 => k_is)
    (case kE_NoWorld_2 => k_is)
    (case kE_NoWorld_3 => k_is)
    (case kE_NoWorld_4 => k_is)
    (case kE_NoWorld_5 => k_is)
    (case kE_NoWorld_6 => k_is)
    (case kE_NoWorld_7 => k_is)
    (case eX_NoPaper => exact PySem.W.exm_ref (by k_is) (by k_is) (by k_is) (by k_is))
    (case T_NoNumber => exact ⟨⟨_, _, _, _, _, _, _, _, _, _, _, _, _, _, _, by k_is, by decide +kernel⟩, by k_is, by k_is, by k_is, by k_is⟩)
    (case iC_NoNumber => k_is)
    (case tI_NoNumber => k_is)
    (case lI_NoNumber => k_is)
    (case cI_NoNumber => k_is)
    (case kI_NoNumber => k_is)
    (case nC_NoNumber_0 => k_is)
    (case T_NoPaper => exact ⟨⟨_, _, _, _, _, _, _, _, _, _, _, _, _, _, _, by k_is, by decide +kernel⟩, by k_is, by k_is, by k_is, by k_is⟩)
    (case iC_NoPaper => k_is)
    (case tI_NoPaper => k_is)
    (case lI_NoPaper => k_is)
    (case cI_NoPaper => k_is)
    (case kI_NoPaper => k_is)
    (case nC_NoPaper_0 => k_is)
    (case nC_NoPaper_1 => k_is)
    (case T_NoWorld => exact ⟨⟨_, _, _, _, _, _, _, _, _, _, _, _, _, _, _, by k_is, by decide +kernel⟩, by k_is, by k_is, by k_is, by k_is⟩)
    (case iC_NoWorld => k_is)
    (case tI_NoWorld => k_is)
    (case lI_NoWorld => k_is)
    (case cI_NoWorld => k_is)
    (case kI_NoWorld => k_is)
    (case nC_NoWorld_0 => k_is)
    (case z_isinstance => k_is)
    (case z_int => k_is)
    (case z_bool => k_is)
    (case z_tuple => k_is)
    (case z_all => k_is)
    (case z_abs => k_is)
    (case z_len => k_is)
    (case z_enumerate => k_is)
    (case z_range => k_is)
    (case z_list => k_is)
    (case z_sorted => k_is)
    (case z_max => k_is)
