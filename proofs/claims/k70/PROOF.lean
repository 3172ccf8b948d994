import PyProof.Rows.All
import Wide.All
import OpenK.AllK
import Wide.FinOn
import HandS.ForMost
import HandS.Wide
import HandS.TryOnly
import HandS.Codes
import PyProof.ReprRoads
import HandS.Lambda
import HandS.Walk
import HandS.Strs
import HandS.Sort
import HandS.SortRule
import HandS.Style
import HandS.IsInst
import HandS.TupAny
import HandS.RaiseMore
import PyProof.StrOps2
import PyProof.StrLawsRepr
import KE.GoesMore
import PyProof.EnumMake
import PyProof.EnumFor
import PyProof.Draws
import HandS.Iter
import KE.GoesZip
import HandS.Zip
import KE.KSortTupAny
import HandS.SortOrd
import HandS.More
import HandS.Defaults
import HandS.MakeKwOnly
import HandS.DictComp
import HandS.Exc
import HandS.SetFor
import HandS.Deep
import PyProof.P3Eq
import HandS.TupLe
import HandS.ExcOwn
import HandS.ExcInit
import KE.KExcInit
import HandS.ExcField
import HandS.EndBits
import KE.KExcIs
import KE.KTryMore
import PyProof.Rows.CountFlat
import HandS.HotCalls
import PyProof.Rows.InDataRows
import KE.KDictPairs
import HandS.Dict
import KE.KEqDict
import HandS.ExcIs
import PySem.Challenge.RW_ledclocks_k70_rings_and_ghosts_there
set_option Elab.async false
set_option linter.all false
set_option maxRecDepth 100000
set_option maxHeartbeats 4000000
set_option exponentiation.threshold 3000
namespace G
open PySem PySem.Spec PyProof.Rows L2

structure FnG (P : Program) (w : World) (K : PySem.W.Frag) (mg : Str → Option Value) (base : Heap) (k : Nat) (f : Addr) (fd : FuncData) (ps : List Str) (sp : Sp) : Prop where
  len : ∀ vs H Q E, sp vs H Q E → vs.length = ps.length
  run : ∀ (A : Around) (outer : List Env) (s : Shared) (H : Hp) (args : Args) (us : List Value) (vs : List V) (Q : VK) (E : XK),
    A.guards = some [] → Room k A → Env0 P w K mg base A outer s H → BindsTo s fd args (ps.zip us) → Vals vs us → sp vs H Q E →
      codeAny (model P w) A (.call (.ref f) args) (CR CX0 outer P w H s Q E) s
section
variable {X : Cx} {k : Nat} {f : Addr} {fd : FuncData} {ps : List Str} {sp : Sp} {E : XK} {x : Str} {p pos : Pos} {e : Expr} {es : List Expr} {t : TA}
theorem run_g {pins : List (Addr × Obj)} {σ : L2.St} {H : Hp} {s : Shared} {Q : VK} {us : List Value} {vs : List V}
    (F : FnG X.prog X.w X.K X.mg X.base k f fd ps sp) (g : X.A.guards = some []) (hr : Room k X.A) (hb : Binds X.K fd ps [])
    (I : Inv X pins σ H s) (r : Vals vs us) (h : sp vs H Q E) :
    wpAny (model X.prog X.w) X.A (call (.ref f) us) (EP X pins σ Q) X.xe s := by
  have n1 : us.length = ps.length := r.length.symm.trans (F.len vs H Q E h)
  have b1 := hb s us I.kIn ((congrArg List.length (List.append_nil us)).trans n1)
  rw [List.append_nil] at b1
  refine wpAny_call (codeAny_mono (F.run X.A X.stack s H ⟨us, []⟩ us vs Q E g hr I.env0 b1 r h) ?_)
  intro res s' c
  match res, c with
  | .error _, c => exact False.elim c
  | .ok (.ret _), c => exact I.after c
  | .ok .next, c => exact False.elim c
  | .ok .brk, c => exact False.elim c
  | .ok .cont, c => exact False.elim c

theorem pe_callG (F : FnG X.prog X.w X.K X.mg X.base k f fd ps sp) (g : X.A.guards = some []) (hr : Room k X.A) (hgl : Gl X x) (hm : X.mg x = some (.ref f))
    (hk : PySem.W.keepIn X.K (.ref f) = true) (hb : Binds X.K fd ps []) (ha : PA X (e :: es) t)
    (hdb : (x == ("__debug__" : Str)) = false := by decide)
    (he : starEach (e :: es) X.env = (false, eval e X.env) :: starEach es X.env := by rfl)
    (hpl : (backTo pos (starEach es X.env)).any (·.1) = false := by rfl) :
    PE X (.Call (.Name x p) (e :: es) [] pos) (fun σ H Q => t σ H fun vs H1 => sp vs H1 Q E0) := by
  constructor
  intro pins s σ H Q I h
  apply wpAny_Call_Name_kw
  apply ld_glob I hgl hm _ hdb
  refine PySem.W.callWith_K (h₀ := X.base) I.ok.mod.kin hk (thn (ha.run pos pins s σ H _ I h) ?_) he hpl
  rintro us s1 ⟨vs, H1, I1, r, q⟩
  exact ⟨I1.kIn, run_g (E := E0) F g hr hb I1 r q⟩
end

theorem fn_g {P : Program} {w : World} {K : PySem.W.Frag} {mg : Str → Option Value} {base : Heap} {x qual : Str} {st : Stmt} {f : Addr} {fd : FuncData} {N ps : List Str} {k : Nat} {sp : Sp}
    (F : Fun K x qual st f fd) (S : FnScope N ps (defScope st)) (len : ∀ vs H Q E, sp vs H Q E → vs.length = ps.length)
    (body : ∀ (cdv : Value) (A : Around) (outer : List Env) (s : Shared) (H : Hp) (vs : List V) (Q : VK) (E : XK), A.guards = some [] →
      Room k (A.deeper (envOfC qual (defScope st) s.heap.objs.size f cdv)) → sp vs H Q E →
      ∃ t, PSs (cxOf CX0 P w K mg base N qual (defScope st) f cdv A outer s H E).nox (defBody st) t ∧ t { nx := fun _ H' => Q .non H', rt := Q } (start N vs) H) :
    FnG P w K mg base (k + 1) f fd ps sp := by
  obtain ⟨oc, od, kV, doc, pm, an, cdv, ct, osl, rfl, lk, hcd⟩ := F.ex
  refine ⟨len, ?_⟩
  intro A outer s H args us vs Q E g hr e0 hb r hsp
  have up : ∀ b o, base.get? b = some o → s.heap.get? b = some o := fun b o e => (e0.bs b o e).1
  have KX : K.In s.heap := e0.mod.kin.keeps up
  refine codeAny_call_function hr.depth (KX _ _ lk) rfl S.co S.gen rfl (PySem.W.codeRec_of KX hcd) (hb _ _ _ _ ?_)
  refine wpAny_newFunctionEnv_cells S.kind ?_ ?_
  · rintro ⟨n, v⟩ hy
    cases S.par n (List.of_mem_zip hy).1 with
    | inl q => exact .inl q
    | inr q => exact .inr ⟨q, PySem.W.cellsFrom_some _ _ _ (.inl q)⟩
  · rintro env rfl s1 x
    refine ⟨(e0.mod.nolimit.keeps up).keeps x.toInCall.keep, codeAny_func ?_⟩
    obtain ⟨t, ht, hq⟩ := body cdv A outer s H vs Q E g (hr.deeper _) hsp
    have I := inv_start (CX := CX0) (E := E) S hr.hd e0 (len _ _ _ _ hsp) r x
    refine wpAny_mono (ht.nox.run [] s1 (start N vs) H _ I hq) ?_ (fun e s' hs => hs)
    intro fl s' hs
    match fl, hs with
    | .ret u, ⟨v, σ', H', J, rv, q⟩ => exact ⟨v, H', J.os, J.bare, J.base, J.hok, rv, q⟩
    | .next, ⟨σ', H', J, q⟩ => exact ⟨.non, H', J.os, J.bare, J.base, J.hok, rfl, q⟩
    | .brk, ⟨_, _, _, q⟩ => exact False.elim q
    | .cont, ⟨_, _, _, q⟩ => exact False.elim q

theorem law_core {P : Program} {w : World} {K : PySem.W.Frag} {mg mb : Str → Option Value} {k : Nat} {fa a : Addr} {fd : FuncData} {x : Str} {sp : Sp} {s₁ : Shared} {vs : List Value}
    (KX : K.In s₁.heap) (hns : s₁.heap.Ns mainGlobals mg) (hb : s₁.heap.Ns builtinsNs mb) (hbb : ∀ x : Str, x ≠ "__name__" → mb x = bootBuiltins x) (hlim : s₁.heap.NoLimit) (hg : s₁.gens = #[])
    (ha : s₁.heap.get? a = some { cls := .type "list", data := .seq vs.toArray }) (hr : Room k callerA)
    (F : ∀ base : Heap, K.In base → base.Ns mainGlobals mg → FnG P w K mg base k fa fd [x] sp) (hbind : ∀ (s : Shared) (u : Value), BindsTo s fd ⟨[u], []⟩ [(x, u)])
    (H : Hp) (hO : Only H) (hok : HOk P w H s₁.heap) (hA : ∀ b, H b ≠ none → b = a) (hK : H a ≠ none → K.lookup a = none)
    (hsp : sp [.ref a] H (fun v _ => v = .bl true) fun _ _ _ => False) :
    codeAny (model P w) callerA (.call (.ref fa) ⟨[.ref a], []⟩) (fun r s' => r = .ok (.ret (.bool true)) ∧ OldK s₁.heap s'.heap ∧ s'.os = s₁.os ∧ AllBare s'.gens) s₁ := by
  have free : ∀ {b : Addr} {o : Obj}, s₁.heap.get? b = some o → (b = a → False) → H b = none := by
    intro b o _ hne
    cases q : H b with
    | none => rfl
    | some u => exact (hne (hA b (by simp [q]))).elim
  have hid : ∀ {b : Addr} {o : Obj}, s₁.heap.get? b = some o → H b = none → (hidT s₁.heap H).get? b = some o := fun e n => hidT_get e n
  have ns_of : ∀ {b : Addr} {m : Str → Option Value}, s₁.heap.Ns b m → (hidT s₁.heap H).Ns b m := by
    rintro b m ⟨o, es, ep, e, d, r⟩
    refine ⟨o, es, ep, hid e (free e fun z => ?_), d, r⟩
    subst z
    rw [ha] at e
    cases e
    cases (d : Data.seq vs.toArray _ = Data.dict es ep)
  have kin : K.In (hidT s₁.heap H) := by
    intro b o e
    have e2 := KX b o e
    cases q : H b with
    | none => exact hid e2 q
    | some u =>
      have z := hA b (by simp [q])
      subst z
      rw [hK (by simp [q])] at e
      cases e
  obtain ⟨mc, l1, l2⟩ := hlim
  have md : Mod K mg (hidT s₁.heap H) := ⟨kin, ns_of hns, ⟨mb, ns_of hb, hbb⟩, ⟨mc, ns_of l1, l2⟩⟩
  have none_in : ∀ {b : Addr} {Z : Prop}, b ∈ ([] : List Addr) → Z := fun z => (nomatch z)
  have e0 : Env0 P w K mg (hidT s₁.heap H) callerA [] s₁ H :=
    ⟨rfl, md, fun b o e => of_hidT e, Nat.le_of_eq (hidT_size _ _), trivial, fun b z => none_in z, hok, .of_eq hg⟩
  refine codeAny_mono ((F _ kin (ns_of hns)).run callerA [] s₁ H ⟨[.ref a], []⟩ [.ref a] [.ref a] _ _ rfl hr e0 (hbind s₁ (.ref a)) (.cons rfl .nil) hsp) ?_
  intro r s' c
  match r, c with
  | .error _, c => exact False.elim c
  | .ok .next, c => exact False.elim c
  | .ok .brk, c => exact False.elim c
  | .ok .cont, c => exact False.elim c
  | .ok (.ret u), ⟨v, H', os, bare, un, hok', rv, q⟩ =>
    have q' : v = .bl true := q
    subst q'
    obtain rfl : u = Value.bool true := rv
    refine ⟨rfl, OldK.of_keep ?_, os, bare⟩
    intro b o e
    cases hq : H b with
    | none => exact un.keep b o e hq (fun z => none_in z) (by simp)
    | some u =>
      cases hO b with
      | inl z => rw [hq] at z; cases z
      | inr z =>
        obtain ⟨ob, xs, z⟩ := z
        have o1 := (hok b _ z).1
        have o2 := (hok' b _ (un.frzs b ob _ z)).1
        rw [e] at o1
        cases o1
        exact o2
theorem law_g {P : Program} {w : World} {K : PySem.W.Frag} {mg mb : Str → Option Value} {k : Nat} {fa a : Addr} {fd : FuncData} {x : Str} {sp : Sp} {s₁ : Shared} {vs : List Value} {ns : List Int}
    (KX : K.In s₁.heap) (hns : s₁.heap.Ns mainGlobals mg) (hb : s₁.heap.Ns builtinsNs mb) (hbb : ∀ x : Str, x ≠ "__name__" → mb x = bootBuiltins x) (hlim : s₁.heap.NoLimit) (hg : s₁.gens = #[])
    (ha : s₁.heap.get? a = some { cls := .type "list", data := .seq vs.toArray }) (hi : IntsAre vs ns) (hl : ns.length ≤ sizeLine) (hr : Room k callerA)
    (F : ∀ base : Heap, K.In base → base.Ns mainGlobals mg → FnG P w K mg base k fa fd [x] sp) (hbind : ∀ (s : Shared) (u : Value), BindsTo s fd ⟨[u], []⟩ [(x, u)])
    (hsp : ∀ H : Hp, Only H → SqL K H a (ns.map V.int) → sp [.ref a] H (fun v _ => v = .bl true) fun _ _ _ => False) :
    codeAny (model P w) callerA (.call (.ref fa) ⟨[.ref a], []⟩) (fun r s' => r = .ok (.ret (.bool true)) ∧ OldK s₁.heap s'.heap ∧ s'.os = s₁.os ∧ AllBare s'.gens) s₁ := by
  have rv := vals_ints hi
  cases hk : K.lookup a with
  | some o =>
    have e := KX a o hk
    rw [ha] at e
    cases e
    have oo : Only (fun _ => none) := fun _ => .inl rfl
    refine law_core KX hns hb hbb hlim hg ha hr F hbind (fun _ => none) oo (fun b u z => by cases (z : (none : Option HO) = some u)) (fun b z => absurd rfl z) (fun z => absurd rfl z) (hsp _ oo ?_)
    refine .inr ⟨_, vs.toArray, _, hk, rfl, rfl, rfl, ?_, by simpa using rv⟩
    rw [List.size_toArray, hi.length]
    exact hl
  | none =>
    let H : Hp := fun b => if b = a then some (.frz { cls := .type "list", data := .seq vs.toArray } (.lst (ns.map V.int))) else none
    have at_ : H a = some (.frz { cls := .type "list", data := .seq vs.toArray } (.lst (ns.map V.int))) := if_pos rfl
    have off : ∀ {b : Addr}, b ≠ a → H b = none := fun n => if_neg n
    have oo : Only H := fun b => by
      by_cases z : b = a
      · subst z
        exact .inr ⟨_, _, at_⟩
      · exact .inl (off z)
    refine law_core KX hns hb hbb hlim hg ha hr F hbind H oo ?_ ?_ (fun _ => hk) (hsp _ oo (.inl (.inr ⟨_, at_⟩)))
    · intro b u z
      by_cases q : b = a
      · subst q
        rw [at_] at z
        cases z
        exact ⟨ha, by rw [List.length_map]; exact hl, vs, _, rv, ha⟩
      · rw [off q] at z
        cases z
    · intro b z
      by_cases q : b = a
      · exact q
      · exact absurd (off q) z

theorem walk_g {l : PySem.W.OpenLaw} {n k : Nat} {q : Program} {loose : List Str} {XP : (Str → Option Value) → Heap → Prop} {YP : World → Heap → Prop} {d : DefRec} {K : Params → PySem.W.Frag} {sp : World → Sp} {x : Str}
    (hn : l.most = some n) (hn2 : n ≤ sizeLine) (hdf : d.params.defaults = []) (hr : Room k callerA)
    (hY : ∀ (w : World) (h : Heap), YP w h → (K w.params).In h)
    (F : ∀ (w : World) (mg : Str → Option Value) (fa : Addr) (h : Heap), (K w.params).In h → h.Ns mainGlobals mg → mg d.name = some (.ref fa) →
      ∃ fd : FuncData, (∀ (s : Shared) (u : Value), BindsTo s fd ⟨[u], []⟩ [(x, u)]) ∧
        ∀ base : Heap, (K w.params).In base → base.Ns mainGlobals mg → FnG l.prog w (K w.params) mg base k fa fd [x] (sp w))
    (hsp : ∀ (w : World) (H : Hp) (a : Addr) (ns : List Int), ns.length ≤ n → Only H → SqL (K w.params) H a (ns.map V.int) → sp w [.ref a] H (fun v _ => v = .bl true) fun _ _ _ => False) :
    PySem.W.WalkO q loose XP YP l.row.toRowW d [] (fun f vs => PySem.call f vs) := by
  refine Att.attach_call hn hdf ?_
  intro w s₀ s₁ mg mb fa o pm cd doc a vs ns G Y ho hd hcd hmg hobj hints hlen hg
  obtain ⟨fd, hb, hF⟩ := F w mg fa _ (hY w _ Y) G.T.g hmg
  exact law_g (hY w _ Y) G.T.g G.T.b G.T.builtins G.T.nolimit hg hobj hints (Nat.le_trans hlen hn2) hr hF hb (fun H oo hS => hsp w H a ns hlen oo hS)
end G
namespace LamT
open PySem PySem.Spec PyProof.Rows L2 LamX

structure TE where
  P : Addr
  lo : Nat
  hi : Nat
  q : Str
def TabS (H : Hp) (e : TE) : Prop := ∃ tb : Array Value, H e.P = some (.tbl tb) ∧ TriplesOk tb.toList ∧ ∀ (at_ : Pos) (v : Value), e.lo ≤ at_.line → at_.line ≤ e.hi → codeAmong at_ tb.toList = some v → ∃ d, v = .ref d ∧ H d = some (CodeO d e.q)
def Tabs (T : List TE) (H : Hp) : Prop := ∀ e ∈ T, TabS H e
theorem TabS.nil {H : Hp} {e : TE} (h : H e.P = some (.tbl #[])) : TabS H e := by
  refine ⟨#[], h, trivial, ?_⟩
  intro at_ v _ _ z
  have z2 : codeAmong at_ ([] : List Value) = some v := z
  simp [codeAmong] at z2
end LamT
namespace AL
open PySem PySem.Spec PyProof.Rows L2 G
inductive Val where
  | non | bl (b : Bool) | int (i : Int) | str (x : Str) | tup (vs : List Val) | ref (n : Nat) | scr (ns : List Int)
  
  | lam (f c : Addr) (q : Str) (us : List V) (vs : List Val)
  
  | exc (a dd : Addr) (c : Str) (vs : List Val)
  
  | ptu (vs : List Val)
inductive Ob where
  | lst (vs : List Val)
  | dic (kvs : List (Key × Val))
  | set (w : World) (f : Int → Bool) (n : Nat)
  
  | obj (C : Str) (fs : List (Str × Val))
abbrev Sto := List Ob

class TT where
  T : List LamT.TE
  
  cls : Str → Addr
instance (priority := low) noTT : TT := ⟨[], fun _ => 0⟩

def xfs (c : Str) : List Str := if c = "NoPaper" then ["word", "at"] else if c = "NoEvent" then ["word", "at"] else if c = "NoWorld" then ["ring"] else if c = "Lied" then ["many"] else if c = "NoText" then ["row", "word"] else if c = "NoRow" then ["row"] else if c = "NoHouse" then ["name"] else ["number"]

theorem set_ne_code {w : World} {a : Addr} {f : Int → Bool} {n : Nat} {q : Str} : SetO w a f n ≠ LamX.CodeO a q := by
  intro z
  have e : (fun h => SetR w h a f n) = fun h => ∃ (oc : Obj) (vs : Array Value) (t : Tok), h.get? a = some oc ∧ oc.data = .fields vs ∧ vs[1]? = some (.str q t) := HO.ext.inj z
  have g : (⟨Array.replicate (a + 1) { cls := .none, data := .fields #[.none, .str q 0] }, {}⟩ : Heap).get? a = some { cls := .none, data := .fields #[.none, .str q 0] } := by
    unfold Heap.get?
    simp
  have y := congrFun e ⟨Array.replicate (a + 1) { cls := .none, data := .fields #[.none, .str q 0] }, {}⟩
  have h2 : ∃ (oc : Obj) (vs : Array Value) (t : Tok), (⟨Array.replicate (a + 1) { cls := .none, data := .fields #[.none, .str q 0] }, {}⟩ : Heap).get? a = some oc ∧ oc.data = .fields vs ∧ vs[1]? = some (.str q t) := ⟨_, _, 0, g, rfl, rfl⟩
  obtain ⟨o, es, ep, t, ho, _, hd, _⟩ := y.mpr h2
  rw [g] at ho
  cases ho
  cases hd
abbrev Rho := List (Option Val)

def SqF (K : PySem.W.Frag) (H : Hp) (a : Addr) (ns : List Int) : Prop :=
  (∃ o, H a = some (.frz o (.lst (ns.map V.int)))) ∨ ∃ (o : Obj) (its : Array Value) (n : Nat), K.lookup a = some o ∧ o.cls = .type "list" ∧ o.dict = none ∧ o.data = .seq its n ∧ its.size ≤ sizeLine ∧ Vals (ns.map V.int) its.toList
theorem SqF.sq {K : PySem.W.Frag} {H : Hp} {a : Addr} {ns : List Int} (h : SqF K H a ns) : SqL K H a (ns.map V.int) := by
  rcases h with ⟨o, h⟩ | h
  · exact .inl (.inr ⟨o, h⟩)
  · exact .inr h

def TupAt (K : PySem.W.Frag) (H : Hp) (a : Addr) (xs : List V) : Prop :=
  H a = some (.tup xs) ∨ (∃ (o : Obj) (its : Array Value) (n : Nat), K.lookup a = some o ∧ o.cls = .type "tuple" ∧ o.data = .seq its n ∧ its.size ≤ sizeLine ∧ Vals xs its.toList) ∨ ∃ o : Obj, H a = some (.frz o (.tup xs))
theorem TupAt.sq {K : PySem.W.Frag} {H : Hp} {a : Addr} {xs : List V} (h : TupAt K H a xs) : SqT K H a xs := by
  rcases h with h | h | ⟨o, h⟩
  · exact .inl (.inl h)
  · exact .inr h
  · exact .inl (.inr ⟨o, h⟩)
mutual
inductive VR (K : PySem.W.Frag) (H : Hp) (m : List Addr) : V → Val → Prop
  | non : VR K H m .non .non
  | bl (b : Bool) : VR K H m (.bl b) (.bl b)
  | int (i : Int) : VR K H m (.int i) (.int i)
  | str (x : Str) : VR K H m (.str x) (.str x)
  | tup {a : Addr} {xs : List V} {vs : List Val} : TupAt K H a xs → VRs K H m xs vs → VR K H m (.ref a) (.tup vs)
  | ref {a : Addr} {n : Nat} : m[n]? = some a → VR K H m (.ref a) (.ref n)
  | scr {a : Addr} {ns : List Int} : SqF K H a ns → VR K H m (.ref a) (.scr ns)
  | lam {f c : Addr} {q : Str} {us : List V} {vs : List Val} : H c = some (LamX.CodeO c q) → VRs K H m us vs → VR K H m (.ref f) (.lam f c q us vs)
  | exc {a dd : Addr} {c : Str} {fs : List (Str × V)} {us : List V} {vs : List Val} : H dd = some (.xd fs) → (∀ (i : Nat) (n : Str) (u : V), (xfs c)[i]? = some n → us[i]? = some u → fs.lookup n = some u) → VRs K H m us vs → VR K H m (.ref a) (.exc a dd c vs)
  | ptu {a : Addr} {o : Obj} {xs : List V} {vs : List Val} : H a = some (.frz o (.tup xs)) → o.dict = none → VRs K H m xs vs → VR K H m (.ref a) (.ptu vs)
inductive VRs (K : PySem.W.Frag) (H : Hp) (m : List Addr) : List V → List Val → Prop
  | nil : VRs K H m [] []
  | cons {u : V} {us : List V} {v : Val} {vs : List Val} : VR K H m u v → VRs K H m us vs → VRs K H m (u :: us) (v :: vs)
end

structure Kp (m : List Addr) (H : Hp) (m' : List Addr) (H' : Hp) : Prop where
  pre : ∃ r, m' = m ++ r
  tup : ∀ a xs, H a = some (.tup xs) → H' a = some (.tup xs)
  frz : ∀ a o u, H a = some (.frz o u) → H' a = some (.frz o u)
  xd : ∀ a fs, H a = some (.xd fs) → H' a = some (.xd fs)
  cod : ∀ a q, H a = some (LamX.CodeO a q) → H' a = some (LamX.CodeO a q)
theorem Kp.refl (m : List Addr) (H : Hp) : Kp m H m H := ⟨⟨[], (List.append_nil m).symm⟩, fun _ _ h => h, fun _ _ _ h => h, fun _ _ h => h, fun _ _ h => h⟩
theorem Kp.grow {m : List Addr} {H H' : Hp} (r : List Addr) (k : Kp m H m H') : Kp m H (m ++ r) H' := ⟨⟨r, rfl⟩, k.tup, k.frz, k.xd, k.cod⟩
theorem Kp.trans {m m1 m2 : List Addr} {H H1 H2 : Hp} (a : Kp m H m1 H1) (b : Kp m1 H1 m2 H2) : Kp m H m2 H2 := by
  obtain ⟨r, rfl⟩ := a.pre
  obtain ⟨q, rfl⟩ := b.pre
  exact ⟨⟨r ++ q, List.append_assoc ..⟩, fun x y h => b.tup x y (a.tup x y h), fun x y z h => b.frz x y z (a.frz x y z h), fun x y h => b.xd x y (a.xd x y h), fun x y h => b.cod x y (a.cod x y h)⟩
theorem Kp.get {m m' : List Addr} {H H' : Hp} (k : Kp m H m' H') {n : Nat} {a : Addr} (h : m[n]? = some a) : m'[n]? = some a := by
  obtain ⟨r, rfl⟩ := k.pre
  rw [List.getElem?_append_left (List.getElem?_eq_some_iff.mp h).1]
  exact h

def Mut (a : Addr) : HO → Prop := fun u => (∃ xs, u = .lst xs) ∨ (∃ xs, u = .dK xs) ∨ (∃ C dx fs, u = .ins C dx fs) ∨ ∃ w f n, u = SetO w a f n
theorem Mut.ne {a : Addr} {u : HO} (h : Mut a u) : (∀ xs, u ≠ .tup xs) ∧ (∀ o v, u ≠ .frz o v) ∧ (∀ fs, u ≠ .xd fs) ∧ (∀ q, u ≠ LamX.CodeO a q) ∧ ∀ ps, u ≠ .tbl ps := by
  rcases h with ⟨xs, rfl⟩ | ⟨xs, rfl⟩ | ⟨C, dx, fs, rfl⟩ | ⟨w, f, n, rfl⟩
  · refine ⟨?_, ?_, ?_, ?_, ?_⟩ <;> intros <;> intro z <;> cases z
  · refine ⟨?_, ?_, ?_, ?_, ?_⟩ <;> intros <;> intro z <;> cases z
  · refine ⟨?_, ?_, ?_, ?_, ?_⟩ <;> intros <;> intro z <;> cases z
  · refine ⟨fun _ z => ?_, fun _ _ z => ?_, fun _ z => ?_, fun _ => set_ne_code, fun _ z => ?_⟩ <;> (unfold SetO at z; cases z)
theorem Kp.at_ {m : List Addr} {H : Hp} {a : Addr} {o : HO} (h : ∀ u, H a = some u → Mut a u) : Kp m H m (upd H a o) := by
  refine ⟨⟨[], (List.append_nil m).symm⟩, fun b xs e => ?_, fun b o' u e => ?_, fun b xs e => ?_, fun b xs e => ?_⟩
  · rw [upd_ne (show b ≠ a from fun z => (h _ (z ▸ e)).ne.1 xs rfl)]
    exact e
  · rw [upd_ne (show b ≠ a from fun z => (h _ (z ▸ e)).ne.2.1 o' u rfl)]
    exact e
  · rw [upd_ne (show b ≠ a from fun z => (h _ (z ▸ e)).ne.2.2.1 xs rfl)]
    exact e
  · by_cases z : b = a
    · subst z
      exact absurd rfl ((h _ e).ne.2.2.2.1 xs)
    · rw [upd_ne z]
      exact e
theorem Kp.new {m : List Addr} {H : Hp} {a : Addr} {o : HO} (h : H a = none) : Kp m H m (upd H a o) := .at_ fun u e => by rw [h] at e; cases e
section
variable {K : PySem.W.Frag} {H H' : Hp} {m m' : List Addr}
theorem TupAt.kp (k : Kp m H m' H') {a : Addr} {xs : List V} (h : TupAt K H a xs) : TupAt K H' a xs := by
  rcases h with h | h | ⟨o, h⟩
  · exact .inl (k.tup _ _ h)
  · exact .inr (.inl h)
  · exact .inr (.inr ⟨o, k.frz _ _ _ h⟩)
theorem SqF.kp (k : Kp m H m' H') {a : Addr} {ns : List Int} (h : SqF K H a ns) : SqF K H' a ns := by
  rcases h with ⟨o, h⟩ | h
  · exact .inl ⟨o, k.frz _ _ _ h⟩
  · exact .inr h
mutual
theorem VR.kpA (k : Kp m H m' H') : ∀ (v : Val) (u : V), VR K H m u v → VR K H' m' u v
  | .non, _, h => by cases h; exact .non
  | .bl b, _, h => by cases h; exact .bl _
  | .int i, _, h => by cases h; exact .int _
  | .str x, _, h => by cases h; exact .str _
  | .ref n, _, h => by
    cases h with
    | ref e => exact .ref (k.get e)
  | .scr ns, _, h => by
    cases h with
    | scr e => exact .scr (e.kp k)
  | .lam f c q us vs, _, h => by
    cases h with
    | lam e r => exact .lam (k.cod _ _ e) (VRs.kpA k vs _ r)
  | .exc a dd c vs, _, h => by
    cases h with
    | exc e l r => exact .exc (k.xd _ _ e) l (VRs.kpA k vs _ r)
  | .ptu vs, _, h => by
    cases h with
    | ptu e d r => exact .ptu (k.frz _ _ _ e) d (VRs.kpA k vs _ r)
  | .tup vs, _, h => by
    cases h with
    | tup e r => exact .tup (e.kp k) (VRs.kpA k vs _ r)
theorem VRs.kpA (k : Kp m H m' H') : ∀ (vs : List Val) (us : List V), VRs K H m us vs → VRs K H' m' us vs
  | [], _, h => by cases h; exact .nil
  | v :: vs, _, h => by
    cases h with
    | cons a r => exact .cons (VR.kpA k v _ a) (VRs.kpA k vs _ r)
end
theorem VR.kp {u : V} {v : Val} (h : VR K H m u v) (k : Kp m H m' H') : VR K H' m' u v := VR.kpA k v u h
theorem VRs.kp {us : List V} {vs : List Val} (h : VRs K H m us vs) (k : Kp m H m' H') : VRs K H' m' us vs := VRs.kpA k vs us h
theorem VRs.len : ∀ {us : List V} {vs : List Val}, VRs K H m us vs → us.length = vs.length
  | _, _, .nil => rfl
  | _, _, .cons _ r => by rw [List.length_cons, List.length_cons, r.len]
theorem VRs.get : ∀ {us : List V} {vs : List Val} {i : Nat} {v : Val}, VRs K H m us vs → vs[i]? = some v → ∃ u, us[i]? = some u ∧ VR K H m u v
  | _, _, _, _, .nil, e => by simp at e
  | _, _, 0, _, .cons a q, e => by
    cases e
    exact ⟨_, rfl, a⟩
  | _, _, i + 1, _, .cons a q, e => q.get (i := i) e
theorem VRs.app : ∀ {us ws : List V} {vs xs : List Val}, VRs K H m us vs → VRs K H m ws xs → VRs K H m (us ++ ws) (vs ++ xs)
  | _, _, _, _, .nil, r => r
  | _, _, _, _, .cons a q, r => .cons a (q.app r)
theorem VRs.take : ∀ {us : List V} {vs : List Val} (n : Nat), VRs K H m us vs → VRs K H m (us.take n) (vs.take n)
  | _, _, 0, _ => .nil
  | _, _, _ + 1, .nil => .nil
  | _, _, n + 1, .cons a q => .cons a (q.take n)
theorem VRs.drop : ∀ {us : List V} {vs : List Val} (n : Nat), VRs K H m us vs → VRs K H m (us.drop n) (vs.drop n)
  | _, _, 0, h => h
  | _, _, _ + 1, .nil => .nil
  | _, _, n + 1, .cons a q => q.drop n
theorem VRs.set {u : V} {v : Val} (h : VR K H m u v) : ∀ {us : List V} {vs : List Val} (n : Nat), VRs K H m us vs → VRs K H m (us.set n u) (vs.set n v)
  | _, _, _, .nil => .nil
  | _, _, 0, .cons a q => .cons h q
  | _, _, n + 1, .cons a q => .cons a (q.set h n)
theorem VR.one {u : V} {v : Val} (h : VR K H m u v) : VRs K H m [u] [v] := .cons h .nil
end
variable [TT]

def OR (K : PySem.W.Frag) (H : Hp) (m : List Addr) (a : Addr) : Ob → Prop
  | .lst vs => ∃ xs, H a = some (.lst xs) ∧ VRs K H m xs vs
  | .dic kvs => ∃ xs : List (Key × V), H a = some (.dK xs) ∧ xs.map (·.1) = kvs.map (·.1) ∧ VRs K H m (xs.map (·.2)) (kvs.map (·.2))
  | .set w f n => H a = some (SetO w a f n)
  | .obj C fs => ∃ (dx : Addr) (xs : List (Str × V)), H a = some (.ins (TT.cls C) dx xs) ∧ xs.map (·.1) = fs.map (·.1) ∧ VRs K H m (xs.map (·.2)) (fs.map (·.2))
structure Rel (K : PySem.W.Frag) (m : List Addr) (S : Sto) (H : Hp) : Prop where
  len : m.length = S.length
  nd : m.Nodup
  ob : ∀ (n : Nat) (o : Ob) (a : Addr), S[n]? = some o → m[n]? = some a → OR K H m a o
  tb : LamT.Tabs TT.T H
structure Ext (m : List Addr) (H : Hp) (m' : List Addr) (H' : Hp) : Prop where
  pre : ∃ r, m' = m ++ r
  fr' : ∀ a o, H a = some o → a ∉ m → (∀ ps, o ≠ .tbl ps) → H' a = some o
  nw' : ∀ a o, a ∈ m' → a ∉ m → H a = some o → ∃ ps, o = .tbl ps
section
variable {K : PySem.W.Frag} {H H' H2 : Hp} {m m' m2 : List Addr} {S S' : Sto}
omit [TT] in
theorem Ext.refl (m : List Addr) (H : Hp) : Ext m H m H := ⟨⟨[], (List.append_nil m).symm⟩, fun _ _ h _ _ => h, fun _ _ h n => absurd h n⟩
omit [TT] in
theorem Ext.fr (e : Ext m H m' H') (a : Addr) (o : HO) (h : H a = some o) (n : a ∉ m) (t : ∀ ps, o ≠ .tbl ps := by intro ps z; cases z) : H' a = some o := e.fr' a o h n t
omit [TT] in
theorem Ext.no (e : Ext m H m' H') {a : Addr} {o : HO} (h : H a = some o) (n : a ∉ m) (t : ∀ ps, o ≠ .tbl ps := by intro ps z; cases z) : a ∉ m' := fun z => by
  obtain ⟨ps, e⟩ := e.nw' a o z n h
  exact t ps e
omit [TT] in
theorem Ext.mem (e : Ext m H m' H') {a : Addr} (h : a ∈ m) : a ∈ m' := by
  obtain ⟨r, rfl⟩ := e.pre
  exact List.mem_append_left _ h
omit [TT] in
theorem Ext.trans (a : Ext m H m' H') (b : Ext m' H' m2 H2) : Ext m H m2 H2 := by
  refine ⟨?_, fun x o h n t => b.fr' x o (a.fr' x o h n t) (a.no h n t) t, fun x o h n e => ?_⟩
  · obtain ⟨r, rfl⟩ := a.pre
    obtain ⟨q, rfl⟩ := b.pre
    exact ⟨r ++ q, List.append_assoc ..⟩
  · by_cases t : ∀ ps, o ≠ .tbl ps
    · exact b.nw' x o h (a.no e n t) (a.fr' x o e n t)
    · simpa using t
theorem Rel.find (R : Rel K m S H) {n : Nat} {a : Addr} (h : m[n]? = some a) : ∃ o, S[n]? = some o ∧ OR K H m a o := by
  have l := (List.getElem?_eq_some_iff.mp h).1
  have l2 : n < S.length := by rw [← R.len]; exact l
  exact ⟨S[n], List.getElem?_eq_getElem l2, R.ob n _ a (List.getElem?_eq_getElem l2) h⟩
theorem OR.some {a : Addr} {o : Ob} (h : OR K H m a o) : ∃ u, H a = some u ∧ Mut a u := by
  cases o with
  | lst vs => obtain ⟨xs, h, _⟩ := h; exact ⟨_, h, .inl ⟨xs, rfl⟩⟩
  | dic kvs => obtain ⟨xs, h, _⟩ := h; exact ⟨_, h, .inr (.inl ⟨xs, rfl⟩)⟩
  | set w f n => exact ⟨_, h, .inr (.inr (.inr ⟨w, f, n, rfl⟩))⟩
  | obj C fs => obtain ⟨dx, xs, h, _⟩ := h; exact ⟨_, h, .inr (.inr (.inl ⟨_, dx, xs, rfl⟩))⟩
theorem Rel.held (R : Rel K m S H) {a : Addr} (h : a ∈ m) : ∃ u, H a = some u ∧ Mut a u := by
  obtain ⟨n, hn⟩ := List.getElem?_of_mem h
  obtain ⟨o, _, q⟩ := R.find hn
  exact q.some
theorem Rel.off_ (R : Rel K m S H) {a : Addr} {u : HO} (h : H a = some u) (hu : ¬ Mut a u) : a ∉ m := fun z => by
  obtain ⟨u', e, hm⟩ := R.held z
  rw [h] at e
  cases e
  exact hu hm
theorem Rel.noTup (R : Rel K m S H) {a : Addr} {xs : List V} (h : H a = some (.tup xs)) : a ∉ m := R.off_ h fun z => z.ne.1 xs rfl
theorem Rel.noFrz (R : Rel K m S H) {a : Addr} {o : Obj} {u : HO} (h : H a = some (.frz o u)) : a ∉ m := R.off_ h fun z => z.ne.2.1 o u rfl
theorem Rel.noXd (R : Rel K m S H) {a : Addr} {fs : List (Str × V)} (h : H a = some (.xd fs)) : a ∉ m := R.off_ h fun z => z.ne.2.2.1 fs rfl
theorem Rel.noCod (R : Rel K m S H) {a : Addr} {q : Str} (h : H a = some (LamX.CodeO a q)) : a ∉ m := R.off_ h fun z => z.ne.2.2.2.1 q rfl
theorem Rel.noTbl (R : Rel K m S H) {a : Addr} {ps : Array Value} (h : H a = some (.tbl ps)) : a ∉ m := R.off_ h fun z => z.ne.2.2.2.2 ps rfl
theorem Rel.noNone (R : Rel K m S H) {a : Addr} (h : H a = none) : a ∉ m := fun z => by
  obtain ⟨u', e, _⟩ := R.held z
  rw [h] at e
  cases e

theorem Rel.kput (R : Rel K m S H) {a : Addr} {o : HO} (h : a ∈ m) : Kp m H m (upd H a o) := .at_ fun u e => by
  obtain ⟨u', e', hm⟩ := R.held h
  rw [e] at e'
  cases e'
  exact hm
theorem Ext.kp (R : Rel K m S H) (e : Ext m H m' H') : Kp m H m' H' := ⟨e.pre, fun a xs h => e.fr a _ h (R.noTup h), fun a o u h => e.fr a _ h (R.noFrz h), fun a xs h => e.fr a _ h (R.noXd h), fun a q h => e.fr' a _ h (R.noCod h) LamX.codeO_ne⟩
theorem OR.kp {a : Addr} {o : Ob} (h : OR K H m a o) (k : Kp m H m' H') (e : H' a = H a) : OR K H' m' a o := by
  cases o with
  | lst vs => obtain ⟨xs, h, r⟩ := h; exact ⟨xs, e.trans h, r.kp k⟩
  | dic kvs => obtain ⟨xs, h, q, r⟩ := h; exact ⟨xs, e.trans h, q, r.kp k⟩
  | set w f n => exact e.trans h
  | obj C fs => obtain ⟨dx, xs, h, q, r⟩ := h; exact ⟨dx, xs, e.trans h, q, r.kp k⟩

theorem tabs_kp {T : List LamT.TE} (h : LamT.Tabs T H) (k : Kp m H m' H') (t : ∀ P ps, H P = some (.tbl ps) → H' P = some (.tbl ps)) : LamT.Tabs T H' := fun p hp => by
  obtain ⟨ps, h1, h2, h3⟩ := h p hp
  refine ⟨ps, t _ _ h1, h2, fun pos cv l1 l2 hc => ?_⟩
  obtain ⟨c, e1, e2⟩ := h3 pos cv l1 l2 hc
  exact ⟨c, e1, k.cod _ _ e2⟩
theorem Rel.off (R : Rel K m S H) (k : Kp m H m H') (e : ∀ a ∈ m, H' a = H a) (t : ∀ P ps, H P = some (.tbl ps) → H' P = some (.tbl ps)) : Rel K m S H' :=
  ⟨R.len, R.nd, fun n o a h1 h2 => (R.ob n o a h1 h2).kp k (e a (List.mem_of_getElem? h2)), tabs_kp R.tb k t⟩
omit [TT] in
theorem tbl_at {a P : Addr} {o u : HO} {ps : Array Value} (h : H a = some u) (hu : ∀ ps, u ≠ .tbl ps) (e : H P = some (.tbl ps)) : upd H a o P = some (.tbl ps) := by
  rw [upd_ne fun z => ?_]
  · exact e
  · rw [z, h] at e
    cases e
    exact hu _ rfl
omit [TT] in
theorem Ext.off (e : ∀ a o, H a = some o → a ∉ m → H' a = some o) : Ext m H m H' := ⟨⟨[], (List.append_nil m).symm⟩, fun a o h n _ => e a o h n, fun _ _ h n => absurd h n⟩

theorem Rel.tmp (R : Rel K m S H) {p : Addr} {o : HO} (h : H p = none) : Rel K m S (upd H p o) ∧ Ext m H m (upd H p o) := by
  refine ⟨R.off (.new h) (fun a ha => upd_ne fun z => R.noNone h (z ▸ ha)) fun P ps e => by rw [upd_ne (ne_of_none e h)]; exact e, .off fun a o' e n => ?_⟩
  rw [upd_ne (ne_of_none e h)]
  exact e

theorem Rel.alloc (R : Rel K m S H) {p : Addr} {o : HO} {b : Ob} (h : H p = none) (hb : OR K (upd H p o) (m ++ [p]) p b) : Rel K (m ++ [p]) (S ++ [b]) (upd H p o) ∧ Ext m H (m ++ [p]) (upd H p o) := by
  have k : Kp m H (m ++ [p]) (upd H p o) := .grow [p] (.new h)
  have np := R.noNone h
  refine ⟨⟨by simp [R.len], ?_, fun n o' a h1 h2 => ?_, tabs_kp R.tb k fun P ps e => by rw [upd_ne (ne_of_none e h)]; exact e⟩, ⟨⟨[p], rfl⟩, fun a o' e n _ => ?_, fun a o' ha n e => ?_⟩⟩
  · rw [List.nodup_append]
    refine ⟨R.nd, by simp, fun a ha b hb z => ?_⟩
    simp only [List.mem_singleton] at hb
    exact np (hb ▸ z ▸ ha)
  · by_cases hn : n < S.length
    · rw [List.getElem?_append_left hn] at h1
      rw [List.getElem?_append_left (by rw [R.len]; exact hn)] at h2
      refine (R.ob n o' a h1 h2).kp k (upd_ne fun z => np (z ▸ List.mem_of_getElem? h2))
    · have e : n = S.length := by
        have := (List.getElem?_eq_some_iff.mp h1).1
        simp only [List.length_append, List.length_singleton] at this
        omega
      subst e
      rw [List.getElem?_concat_length] at h1
      rw [← R.len, List.getElem?_concat_length] at h2
      cases h1
      cases h2
      exact hb
  · rw [upd_ne (ne_of_none e h)]
    exact e
  · rcases List.mem_append.mp ha with q | q
    · exact absurd q n
    · simp only [List.mem_singleton] at q
      rw [q, h] at e
      cases e

theorem Rel.put (R : Rel K m S H) {n : Nat} {a : Addr} {o : HO} {b : Ob} (h : m[n]? = some a) (hb : OR K (upd H a o) m a b) : Rel K m (S.set n b) (upd H a o) ∧ Ext m H m (upd H a o) := by
  have ha := List.mem_of_getElem? h
  have k : Kp m H m (upd H a o) := R.kput ha
  refine ⟨⟨by simp [R.len], R.nd, fun n' o' a' h1 h2 => ?_, tabs_kp R.tb k fun P ps e => by rw [upd_ne (show P ≠ a from fun z => R.noTbl e (z ▸ ha))]; exact e⟩, .off fun x o' e nx => ?_⟩
  · by_cases z : n' = n
    · subst z
      rw [h] at h2
      cases h2
      have l := (List.getElem?_eq_some_iff.mp h1).1
      rw [List.length_set] at l
      rw [List.getElem?_set_self l] at h1
      cases h1
      exact hb
    · rw [List.getElem?_set_ne (Ne.symm z)] at h1
      refine (R.ob n' o' a' h1 h2).kp k (upd_ne fun q => z ?_)
      have l1 := (List.getElem?_eq_some_iff.mp h).1
      have l2 := (List.getElem?_eq_some_iff.mp h2).1
      rw [← q] at h
      exact (List.getElem?_inj l2 R.nd).mp (h2.trans h.symm)
  · rw [upd_ne (show x ≠ a from fun z => nx (z ▸ ha))]
    exact e
end
structure RhoR (K : PySem.W.Frag) (H : Hp) (m : List Addr) (ρ : Rho) (σ : L2.St) : Prop where
  len : ρ.length = σ.length
  at_ : ∀ (i : Nat) (v : Val), ρ[i]? = some (some v) → ∃ u, σ[i]? = some (some u) ∧ VR K H m u v
section
variable {K : PySem.W.Frag} {H H' : Hp} {m m' : List Addr} {ρ : Rho} {σ : L2.St}
theorem RhoR.kp (r : RhoR K H m ρ σ) (k : Kp m H m' H') : RhoR K H' m' ρ σ := ⟨r.len, fun i v h => let ⟨u, h1, h2⟩ := r.at_ i v h; ⟨u, h1, h2.kp k⟩⟩
theorem RhoR.set (r : RhoR K H m ρ σ) {u : V} {v : Val} (h : VR K H m u v) (i : Nat) : RhoR K H m (ρ.set i (some v)) (σ.set i (some u)) := by
  refine ⟨by simp [r.len], fun j w e => ?_⟩
  by_cases z : i = j
  · subst z
    have l := (List.getElem?_eq_some_iff.mp e).1
    rw [List.length_set] at l
    rw [List.getElem?_set_self l] at e
    cases e
    exact ⟨u, List.getElem?_set_self (by rw [← r.len]; exact l), h⟩
  · rw [List.getElem?_set_ne z] at e
    rw [List.getElem?_set_ne z]
    exact r.at_ j w e
theorem RhoR.unset (r : RhoR K H m ρ σ) (i : Nat) (o : Option V) : RhoR K H m (ρ.set i none) (σ.set i o) := by
  refine ⟨by simp [r.len], fun j w e => ?_⟩
  by_cases z : i = j
  · subst z
    have l := (List.getElem?_eq_some_iff.mp e).1
    rw [List.length_set] at l
    rw [List.getElem?_set_self l] at e
    cases e
  · rw [List.getElem?_set_ne z] at e
    rw [List.getElem?_set_ne z]
    exact r.at_ j w e
end
end AL
namespace AL
open PySem PySem.Spec PyProof.Rows L2 G
variable [TT]
abbrev EF := Rho → Sto → Option (Val × Sto)
abbrev BF := Rho → Sto → Option (Bool × Sto)
abbrev AF := Rho → Sto → Option (List Val × Sto)
def tF (K : PySem.W.Frag) (f : EF) : TE := fun σ H Q => ∃ m ρ S v S', Rel K m S H ∧ RhoR K H m ρ σ ∧ f ρ S = some (v, S') ∧ ∀ m' u H', Ext m H m' H' → Rel K m' S' H' → VR K H' m' u v → Q u H'
def tFb (K : PySem.W.Frag) (f : BF) : L2.TT := fun σ H Q => ∃ m ρ S b S', Rel K m S H ∧ RhoR K H m ρ σ ∧ f ρ S = some (b, S') ∧ ∀ m' H', Ext m H m' H' → Rel K m' S' H' → Q b H'
def tFa (K : PySem.W.Frag) (f : AF) : TA := fun σ H Q => ∃ m ρ S vs S', Rel K m S H ∧ RhoR K H m ρ σ ∧ f ρ S = some (vs, S') ∧ ∀ m' us H', Ext m H m' H' → Rel K m' S' H' → VRs K H' m' us vs → Q us H'
abbrev AE (X : Cx) (e : Expr) (f : EF) : Prop := PE X e (tF X.K f)
abbrev AT (X : Cx) (e : Expr) (f : BF) : Prop := PT X e (tFb X.K f)
abbrev AW (X : Cx) (e : Expr) (f : BF) : Prop := PW X e (tFb X.K f)
abbrev AA (X : Cx) (es : List Expr) (f : AF) : Prop := PA X es (tFa X.K f)
section
variable {X : Cx} {e a b c : Expr} {es : List Expr} {pos : Pos} {f fa fb fc : EF} {K : PySem.W.Frag}
theorem pe_w {t t' : TE} (h : PE X e t) (hi : ∀ σ H Q, t' σ H Q → t σ H Q) : PE X e t' := ⟨fun pins s σ H Q I hq => h.run pins s σ H Q I (hi σ H Q hq)⟩
theorem pt_w {t t' : L2.TT} (h : PT X e t) (hi : ∀ σ H Q, t' σ H Q → t σ H Q) : PT X e t' := ⟨fun pins s σ H Q I hq => h.run pins s σ H Q I (hi σ H Q hq)⟩
theorem pw_w {t t' : L2.TT} (h : PW X e t) (hi : ∀ σ H Q, t' σ H Q → t σ H Q) : PW X e t' := ⟨fun w pins s σ H Q I hq => h.run w pins s σ H Q I (hi σ H Q hq)⟩
theorem pa_w {t t' : TA} (h : PA X es t) (hi : ∀ σ H Q, t' σ H Q → t σ H Q) : PA X es t' := ⟨fun p pins s σ H Q I hq => h.run p pins s σ H Q I (hi σ H Q hq)⟩
def eV (i : Nat) : EF := fun ρ S => match ρ[i]? with
  | some (some v) => some (v, S)
  | _ => none
def eC (v : Val) : EF := fun _ S => some (v, S)
theorem av (i : Nat) {x : Str} (hN : X.N[i]? = some x := by rfl) (hv : Vis X.env.scope x := by first | exact Or.inl rfl | exact Or.inr (Or.inl rfl) | exact Or.inr (Or.inr rfl)) (hd : (x == ("__debug__" : Str)) = false := by decide)
    (hcd : (x == ("__classdict__" : Str)) = false := by decide) : AE X (.Name x pos) (eV i) := by
  refine pe_w (pe_var hN hv hd hcd) fun σ H Q h => ?_
  obtain ⟨m, ρ, S, v, S', R, r, e, q⟩ := h
  unfold eV at e
  split at e
  · next w hw =>
    cases e
    obtain ⟨u, h1, h2⟩ := r.at_ i _ hw
    exact ⟨u, h1, q m u H (.refl _ _) R h2⟩
  · cases e
theorem ac {u : V} {v : Val} (h : PE X e (tC u)) (hv : ∀ H m, VR X.K H m u v) : AE X e (eC v) := by
  refine pe_w h fun σ H Q h => ?_
  obtain ⟨m, ρ, S, w, S', R, r, e, q⟩ := h
  cases e
  exact q m u H (.refl _ _) R (hv H m)
theorem ai {i : Int} {j : Nat} : AE X (.Constant (.int i) j pos) (eC (.int i)) := ac pe_int fun _ _ => .int i
theorem abl {i : Bool} {j : Nat} : AE X (.Constant (.bool i) j pos) (eC (.bl i)) := ac pe_bl fun _ _ => .bl i
theorem an {j : Nat} : AE X (.Constant .none j pos) (eC .non) := ac pe_non fun _ _ => .non
theorem astr {x : Str} {j : Nat} : AE X (.Constant (.str x) j pos) (eC (.str x)) := ac pe_str fun _ _ => .str x
def eB (g : Val → Val → Sto → Option (Val × Sto)) (fa fb : EF) : EF := fun ρ S => (fa ρ S).bind fun p => (fb ρ p.2).bind fun q => g p.1 q.1 q.2
def OpA (K : PySem.W.Frag) (r : R2) (g : Val → Val → Sto → Option (Val × Sto)) : Prop := ∀ m S H x y v S' u w Q, Rel K m S H → VR K H m u x → VR K H m w y → g x y S = some (v, S') →
  (∀ m' z H', Ext m H m' H' → Rel K m' S' H' → VR K H' m' z v → Q z H') → r u w H Q
theorem eB_ok {r : R2} {g : Val → Val → Sto → Option (Val × Sto)} (hg : OpA K r g) {σ : L2.St} {H : Hp} {Q : VK} (h : tF K (eB g fa fb) σ H Q) : tOp r (tF K fa) (tF K fb) σ H Q := by
  obtain ⟨m, ρ, S, v, S', R, r, e, q⟩ := h
  obtain ⟨⟨x, S1⟩, e1, e⟩ := Option.bind_eq_some_iff.mp e
  obtain ⟨⟨y, S2⟩, e2, e⟩ := Option.bind_eq_some_iff.mp e
  refine ⟨m, ρ, S, x, S1, R, r, e1, fun m1 u H1 E1 R1 r1 => ⟨m1, ρ, S1, y, S2, R1, r.kp (E1.kp R), e2, fun m2 w H2 E2 R2 r2 => ?_⟩⟩
  exact hg m2 S2 H2 x y v S' u w Q R2 (r1.kp (E2.kp R1)) r2 e fun m3 z H3 E3 R3 r3 => q m3 z H3 ((E1.trans E2).trans E3) R3 r3
theorem aop {op : Operator} {r : R2} {g : Val → Val → Sto → Option (Val × Sto)} (ho : OpR X (binaryOp op) r) (hg : OpA X.K r g) (ha : AE X a fa) (hb : AE X b fb) : AE X (.BinOp a op b pos) (eB g fa fb) := pe_w (pe_op ho ha hb) fun _ _ _ h => eB_ok hg h
theorem acm {op : CmpOp} {r : R2} {g : Val → Val → Sto → Option (Val × Sto)} (ho : OpR X (compareOp op) r) (hg : OpA X.K r g) (ha : AE X a fa) (hb : AE X b fb) (hm : behindInMarks op b = false) : AE X (.Compare a [op] [b] pos) (eB g fa fb) := pe_w (pe_cmpR ho ha hb hm) fun _ _ _ h => eB_ok hg h
def eT (f : EF) : BF := fun ρ S => (f ρ S).bind fun p => match p.1 with
  | .bl b => some (b, p.2)
  | _ => none
theorem eT_ok {σ : L2.St} {H : Hp} {Q : Bool → Hp → Prop} (h : tFb K (eT f) σ H Q) : tF K f σ H fun x H' => ∃ k, x = .bl k ∧ Q k H' := by
  obtain ⟨m, ρ, S, v, S', R, r, e, q⟩ := h
  obtain ⟨⟨x, S1⟩, e1, e⟩ := Option.bind_eq_some_iff.mp e
  refine ⟨m, ρ, S, x, S1, R, r, e1, fun m1 u H1 E1 R1 r1 => ?_⟩
  cases x <;> try cases e
  cases r1
  exact ⟨_, rfl, q m1 H1 E1 R1⟩
theorem atc {op : CmpOp} {r : R2} {g : Val → Val → Sto → Option (Val × Sto)} (ho : OpR X (compareOp op) r) (hg : OpA X.K r g) (ha : AE X a fa) (hb : AE X b fb) (hm : behindInMarks op b = false) : AT X (.Compare a [op] [b] pos) (eT (eB g fa fb)) := pt_w (pt_cmpR ho ha hb hm) fun _ _ _ h => eB_ok hg (eT_ok h)
theorem atv (ha : AE X e f) (he : ∀ whole, isTrue e X.env whole = (do let v ← whole; standAt e.pos; holding [v] (truthy v)) := by intro _; rfl) : AT X e (eT f) := pt_w (pt_val ha he) fun _ _ _ h => eT_ok h
def bAnd (f g : BF) : BF := fun ρ S => (f ρ S).bind fun p => if p.1 then g ρ p.2 else some (false, p.2)
def bOr (f g : BF) : BF := fun ρ S => (f ρ S).bind fun p => if p.1 then some (true, p.2) else g ρ p.2
def bNot (f : BF) : BF := fun ρ S => (f ρ S).bind fun p => some (!p.1, p.2)
variable {g1 g2 : BF} {rest : List Expr}
theorem aw1 (h : AT X a g1) : AW X (.BoolOp .And [a] pos) g1 := pw_and1 h
theorem awo1 (h : AT X a g1) : AW X (.BoolOp .Or [a] pos) g1 := pw_or1 h
theorem aw (h : AT X a g1) (h2 : AW X (.BoolOp .And (b :: rest) pos) g2) : AW X (.BoolOp .And (a :: b :: rest) pos) (bAnd g1 g2) := by
  refine pw_w (pw_and h h2) fun σ H Q h => ?_
  obtain ⟨m, ρ, S, v, S', R, r, e, q⟩ := h
  obtain ⟨⟨x, S1⟩, e1, e⟩ := Option.bind_eq_some_iff.mp e
  refine ⟨m, ρ, S, x, S1, R, r, e1, fun m1 H1 E1 R1 => ?_⟩
  cases x with
  | true => exact ⟨m1, ρ, S1, v, S', R1, r.kp (E1.kp R), e, fun m2 H2 E2 R2 => q m2 H2 (E1.trans E2) R2⟩
  | false =>
    cases e
    exact q m1 H1 E1 R1
theorem awo (h : AT X a g1) (h2 : AW X (.BoolOp .Or (b :: rest) pos) g2) : AW X (.BoolOp .Or (a :: b :: rest) pos) (bOr g1 g2) := by
  refine pw_w (pw_or h h2) fun σ H Q h => ?_
  obtain ⟨m, ρ, S, v, S', R, r, e, q⟩ := h
  obtain ⟨⟨x, S1⟩, e1, e⟩ := Option.bind_eq_some_iff.mp e
  refine ⟨m, ρ, S, x, S1, R, r, e1, fun m1 H1 E1 R1 => ?_⟩
  cases x with
  | true =>
    cases e
    exact q m1 H1 E1 R1
  | false => exact ⟨m1, ρ, S1, v, S', R1, r.kp (E1.kp R), e, fun m2 H2 E2 R2 => q m2 H2 (E1.trans E2) R2⟩
theorem atw (h : AW X e g1) : AT X e g1 := PW.pt h
theorem atn (h : AT X a g1) : AT X (.UnaryOp .Not a pos) (bNot g1) := by
  refine pt_w (pt_not h) fun σ H Q h => ?_
  obtain ⟨m, ρ, S, v, S', R, r, e, q⟩ := h
  obtain ⟨⟨x, S1⟩, e1, e⟩ := Option.bind_eq_some_iff.mp e
  cases e
  exact ⟨m, ρ, S, x, _, R, r, e1, q⟩

def eAnd (f g : EF) : EF := fun ρ S => (f ρ S).bind fun p => match p.1 with
  | .bl true => g ρ p.2
  | .bl false => some (.bl false, p.2)
  | _ => none
def eOr (f g : EF) : EF := fun ρ S => (f ρ S).bind fun p => match p.1 with
  | .bl true => some (.bl true, p.2)
  | .bl false => g ρ p.2
  | _ => none
def eNot (f : EF) : EF := fun ρ S => (f ρ S).bind fun p => match p.1 with
  | .bl b => some (.bl (!b), p.2)
  | _ => none
def eIf (t : BF) (fa fb : EF) : EF := fun ρ S => (t ρ S).bind fun p => if p.1 then fa ρ p.2 else fb ρ p.2
theorem aif (hc : AT X c g1) (ha : AE X a fa) (hb : AE X b fb) : AE X (.IfExp c a b pos) (eIf g1 fa fb) := by
  refine pe_w (pe_ifExp hc ha hb) fun σ H Q h => ?_
  obtain ⟨m, ρ, S, v, S', R, r, e, q⟩ := h
  obtain ⟨⟨x, S1⟩, e1, e⟩ := Option.bind_eq_some_iff.mp e
  refine ⟨m, ρ, S, x, S1, R, r, e1, fun m1 H1 E1 R1 => ?_⟩
  cases x with
  | true => exact ⟨m1, ρ, S1, v, S', R1, r.kp (E1.kp R), e, fun m2 u H2 E2 R2 r2 => q m2 u H2 (E1.trans E2) R2 r2⟩
  | false => exact ⟨m1, ρ, S1, v, S', R1, r.kp (E1.kp R), e, fun m2 u H2 E2 R2 r2 => q m2 u H2 (E1.trans E2) R2 r2⟩

def eCh (g g' : Val → Val → Sto → Option (Val × Sto)) (fa fb fc : EF) : EF := fun ρ S => (fa ρ S).bind fun p => (fb ρ p.2).bind fun q => (g p.1 q.1 q.2).bind fun z => match z.1 with
  | .bl true => (fc ρ z.2).bind fun w => g' q.1 w.1 w.2
  | .bl false => some (.bl false, z.2)
  | _ => none
def aNil : AF := fun _ S => some ([], S)
def aCons (f : EF) (g : AF) : AF := fun ρ S => (f ρ S).bind fun p => (g ρ p.2).bind fun q => some (p.1 :: q.1, q.2)
variable {ga : AF}
theorem aan : AA X [] aNil := by
  refine pa_w pa_nil fun σ H Q h => ?_
  obtain ⟨m, ρ, S, v, S', R, r, e, q⟩ := h
  cases e
  exact q m [] H (.refl _ _) R .nil
theorem aac (ha : AE X e f) (hr : AA X es ga) (hs : starEach (e :: es) X.env = (false, eval e X.env) :: starEach es X.env := by rfl) : AA X (e :: es) (aCons f ga) := by
  refine pa_w (pa_cons ha hr hs) fun σ H Q h => ?_
  obtain ⟨m, ρ, S, v, S', R, r, e, q⟩ := h
  obtain ⟨⟨x, S1⟩, e1, e⟩ := Option.bind_eq_some_iff.mp e
  obtain ⟨⟨y, S2⟩, e2, e⟩ := Option.bind_eq_some_iff.mp e
  cases e
  exact ⟨m, ρ, S, x, S1, R, r, e1, fun m1 u H1 E1 R1 r1 => ⟨m1, ρ, S1, y, S2, R1, r.kp (E1.kp R), e2, fun m2 w H2 E2 R2 r2 => q m2 _ H2 (E1.trans E2) R2 (.cons (r1.kp (E2.kp R1)) r2)⟩⟩
def eTup (g : AF) : EF := fun ρ S => (g ρ S).bind fun p => if p.1.length ≤ 1000000 then some (.tup p.1, p.2) else none
def eLst (g : AF) : EF := fun ρ S => (g ρ S).bind fun p => if p.1.length ≤ 1000000 then some (.ref p.2.length, p.2 ++ [.lst p.1]) else none
theorem mill {n : Nat} (h : n ≤ 1000000) : n ≤ sizeLine := Nat.le_trans h (by decide)
theorem atup {k : Nat} (h : AA X es ga) : AE X (.Tuple es k pos) (eTup ga) := by
  refine pe_w (pe_tup h) fun σ H Q h => ?_
  obtain ⟨m, ρ, S, v, S', R, r, e, q⟩ := h
  obtain ⟨⟨x, S1⟩, e1, e⟩ := Option.bind_eq_some_iff.mp e
  refine ⟨m, ρ, S, x, S1, R, r, e1, fun m1 us H1 E1 R1 r1 => ?_⟩
  dsimp only at e
  split at e
  · next hl =>
    cases e
    refine ⟨by rw [r1.len]; exact mill hl, fun p hp => ?_⟩
    obtain ⟨R2, E2⟩ := R1.tmp (o := .tup us) hp
    exact q m1 _ _ (E1.trans E2) R2 (.tup (.inl upd_same) (r1.kp (E2.kp R1)))
  · cases e
theorem alst (h : AA X es ga) : AE X (.List es pos) (eLst ga) := by
  refine pe_w (pe_lst h) fun σ H Q h => ?_
  obtain ⟨m, ρ, S, v, S', R, r, e, q⟩ := h
  obtain ⟨⟨x, S1⟩, e1, e⟩ := Option.bind_eq_some_iff.mp e
  refine ⟨m, ρ, S, x, S1, R, r, e1, fun m1 us H1 E1 R1 r1 => ?_⟩
  dsimp only at e
  split at e
  · next hl =>
    cases e
    refine ⟨by rw [r1.len]; exact mill hl, fun p hp => ?_⟩
    have k1 : Kp m1 H1 (m1 ++ [p]) (upd H1 p (.lst us)) := .grow [p] (.new hp)
    obtain ⟨R2, E2⟩ := R1.alloc (o := .lst us) (b := .lst x) hp ⟨us, upd_same, r1.kp k1⟩
    refine q _ _ _ (E1.trans E2) R2 (.ref ?_)
    rw [← R1.len, List.getElem?_concat_length]
  · cases e
def eCall (g : List Val → Sto → Option (Val × Sto)) (ga : AF) : EF := fun ρ S => (ga ρ S).bind fun p => g p.1 p.2
def CaA (K : PySem.W.Frag) (r : List V → Hp → VK → Prop) (g : List Val → Sto → Option (Val × Sto)) : Prop := ∀ m S H xs v S' us Q, Rel K m S H → VRs K H m us xs → g xs S = some (v, S') →
  (∀ m' z H', Ext m H m' H' → Rel K m' S' H' → VR K H' m' z v → Q z H') → r us H Q
theorem eCall_ok {r : List V → Hp → VK → Prop} {g : List Val → Sto → Option (Val × Sto)} (hg : CaA K r g) {σ : L2.St} {H : Hp} {Q : VK} (h : tF K (eCall g ga) σ H Q) : tFa K ga σ H fun us H1 => r us H1 Q := by
  obtain ⟨m, ρ, S, v, S', R, r, e, q⟩ := h
  obtain ⟨⟨x, S1⟩, e1, e⟩ := Option.bind_eq_some_iff.mp e
  exact ⟨m, ρ, S, x, S1, R, r, e1, fun m1 us H1 E1 R1 r1 => hg m1 S1 H1 x v S' us Q R1 r1 e fun m2 z H2 E2 R2 r2 => q m2 z H2 (E1.trans E2) R2 r2⟩
theorem CaA.or {r r' : List V → Hp → VK → Prop} {g g' : List Val → Sto → Option (Val × Sto)} (h : CaA K r g) (h' : CaA K r' g') : CaA K (fun x H Q => r x H Q ∨ r' x H Q) (fun x S => (g x S).or (g' x S)) := by
  intro m S H x v S' u Q R ru e q
  cases eg : g x S with
  | some p =>
    simp only [eg, Option.some_or] at e
    cases e
    exact .inl (h m S H x v S' u Q R ru eg q)
  | none =>
    simp only [eg, Option.none_or] at e
    exact .inr (h' m S H x v S' u Q R ru e q)
theorem CallR.or {f : Value} {r r' : List V → Hp → VK → Prop} (h : CallR X f r) (h' : CallR X f r') : CallR X f (fun xs H Q => r xs H Q ∨ r' xs H Q) := by
  intro pins s σ H xs us Q I rs q
  rcases q with q | q
  · exact h pins s σ H xs us Q I rs q
  · exact h' pins s σ H xs us Q I rs q
theorem acb {id : String} {x : Str} {p : Pos} {r : List V → Hp → VK → Prop} {g : List Val → Sto → Option (Val × Sto)} (hc : CallR X (.builtin id) r) (hgg : CaA X.K r g) (hg : Gl X x) (hm : X.mg x = none) (hv : bootBuiltins x = some (.builtin id)) (ha : AA X (e :: es) ga) (hn : x ≠ "__name__" := by decide) (hdb : (x == ("__debug__" : Str)) = false := by decide)
    (he : starEach (e :: es) X.env = (false, eval e X.env) :: starEach es X.env := by rfl) (hpl : (backTo pos (starEach es X.env)).any (·.1) = false := by rfl) : AE X (.Call (.Name x p) (e :: es) [] pos) (eCall g ga) :=
  pe_w (pe_callB hc hg hm hv ha hn hdb he hpl) fun _ _ _ h => eCall_ok hgg h
theorem act {T : String} {x : Str} {p : Pos} {r : List V → Hp → VK → Prop} {g : List Val → Sto → Option (Val × Sto)} (hc : CallR X (.type T) r) (hgg : CaA X.K r g) (hg : Gl X x) (hm : X.mg x = none) (hv : bootBuiltins x = some (.type T)) (ha : AA X (e :: es) ga) (hn : x ≠ "__name__" := by decide) (hdb : (x == ("__debug__" : Str)) = false := by decide)
    (he : starEach (e :: es) X.env = (false, eval e X.env) :: starEach es X.env := by rfl) (hpl : (backTo pos (starEach es X.env)).any (·.1) = false := by rfl) : AE X (.Call (.Name x p) (e :: es) [] pos) (eCall g ga) :=
  pe_w (pe_callTy hc hg hm hv ha hn hdb he hpl) fun _ _ _ h => eCall_ok hgg h
abbrev FA := List Val → Sto → Option (Val × Sto)
def spA (K : PySem.W.Frag) (n : Nat) (F : FA) : Sp := fun us H Q _ => us.length = n ∧ ∃ m S vs v S', Rel K m S H ∧ VRs K H m us vs ∧ F vs S = some (v, S') ∧ ∀ m' z H', Ext m H m' H' → Rel K m' S' H' → VR K H' m' z v → Q z H'

structure Def (P : Program) (w : World) (K : PySem.W.Frag) (mg : Str → Option Value) (base : Heap) (k : Nat) (x : Str) (ps : List Str) (F : FA) : Prop where
  ex : ∃ f fd, FnG P w K mg base k f fd ps (spA K ps.length F) ∧ Binds K fd ps [] ∧ mg x = some (.ref f) ∧ PySem.W.keepIn K (.ref f) = true
def eDef (F : FA) (n : Nat) (ga : AF) : EF := fun ρ S => (ga ρ S).bind fun p => if p.1.length = n then F p.1 p.2 else none
theorem acd {k : Nat} {x : Str} {ps : List Str} {F : FA} {p : Pos} (D : Def X.prog X.w X.K X.mg X.base k x ps F) (g : X.A.guards = some []) (hr : Room k X.A) (hgl : Gl X x) (ha : AA X (e :: es) ga) (hdb : (x == ("__debug__" : Str)) = false := by decide)
    (he : starEach (e :: es) X.env = (false, eval e X.env) :: starEach es X.env := by rfl) (hpl : (backTo pos (starEach es X.env)).any (·.1) = false := by rfl) {n : Nat} (hn : ps.length = n := by rfl) : AE X (.Call (.Name x p) (e :: es) [] pos) (eDef F n ga) := by
  subst hn
  obtain ⟨f, fd, hF, hb, hm, hk⟩ := D.ex
  refine pe_w (pe_callG hF g hr hgl hm hk hb ha hdb he hpl) fun σ H Q h => ?_
  obtain ⟨m, ρ, S, v, S', R, r, e, q⟩ := h
  obtain ⟨⟨x, S1⟩, e1, e⟩ := Option.bind_eq_some_iff.mp e
  dsimp only at e
  split at e
  · next hl => exact ⟨m, ρ, S, x, S1, R, r, e1, fun m1 us H1 E1 R1 r1 => ⟨by rw [r1.len]; exact hl, m1, S1, x, v, S', R1, r1, e, fun m2 z H2 E2 R2 r2 => q m2 z H2 (E1.trans E2) R2 r2⟩⟩
  · cases e
def eMt (ok : Val → Sto → Bool) (g : Val → List Val → Sto → Option (Val × Sto)) (fo : EF) (ga : AF) : EF := fun ρ S => (fo ρ S).bind fun p => if ok p.1 p.2 then (ga ρ p.2).bind fun q => g p.1 q.1 q.2 else none
def MtA (K : PySem.W.Frag) (r : V → List V → Hp → VK → Prop) (g : Val → List Val → Sto → Option (Val × Sto)) : Prop := ∀ m S H x xs v S' u us Q, Rel K m S H → VR K H m u x → VRs K H m us xs → g x xs S = some (v, S') →
  (∀ m' z H', Ext m H m' H' → Rel K m' S' H' → VR K H' m' z v → Q z H') → r u us H Q
def TyA (K : PySem.W.Frag) (T : String) (ok : Val → Sto → Bool) : Prop := ∀ m S H u v, Rel K m S H → VR K H m u v → ok v S = true → tyV K T u H
theorem am {o : Expr} {fo : EF} {name : Str} {apos cpos : Pos} {T id : String} {r : V → List V → Hp → VK → Prop} {g : Val → List Val → Sto → Option (Val × Sto)} {ok : Val → Sto → Bool} (pa : PlainAttrs T) (slot : Slot T name id) (hty : typeOf (.builtin id) = pure (.type "method_descriptor")) (hm : MtR X id r) (hg : MtA X.K r g) (ht : TyA X.K T ok) (ho : AE X o fo) (ha : AA X (e :: es) ga)
    (hbase : attributeBase o name X.env (eval o X.env) = eval o X.env := by rfl)
    (hfew : ((backTo cpos (starEach (e :: es) X.env)).all (fun x => !x.1) && (backToKw cpos (keywordEach [] X.env)).all (fun x => x.1.isSome)
      && decide ((e :: es).length + ([] : List Keyword).length + (if ([] : List Keyword).isEmpty then 0 else 1) < 30)) = true := by rfl)
    (hline : (apos.endLine == cpos.line) = true := by rfl) (hs : starEach (e :: es) X.env = (false, eval e X.env) :: starEach es X.env := by rfl) (hplain : (backTo cpos (starEach es X.env)).any (·.1) = false := by rfl) :
    AE X (.Call (.Attribute o name apos) (e :: es) [] cpos) (eMt ok g fo ga) := by
  refine pe_w (pe_bm pa slot hty hm ho ha hbase hfew hline hs hplain) fun σ H Q h => ?_
  obtain ⟨m, ρ, S, v, S', R, r, e, q⟩ := h
  obtain ⟨⟨x, S1⟩, e1, e⟩ := Option.bind_eq_some_iff.mp e
  dsimp only at e
  split at e
  · next hl =>
    obtain ⟨⟨y, S2⟩, e2, e⟩ := Option.bind_eq_some_iff.mp e
    refine ⟨m, ρ, S, x, S1, R, r, e1, fun m1 u H1 E1 R1 r1 => ⟨ht m1 S1 H1 u x R1 r1 hl, m1, ρ, S1, y, S2, R1, r.kp (E1.kp R), e2, fun m2 us H2 E2 R2 r2 => ?_⟩⟩
    exact hg m2 S2 H2 x y v S' u us Q R2 (r1.kp (E2.kp R1)) r2 e fun m3 z H3 E3 R3 r3 => q m3 z H3 ((E1.trans E2).trans E3) R3 r3
  · cases e
def eU (g : Val → Sto → Option (Val × Sto)) (fa : EF) : EF := fun ρ S => (fa ρ S).bind fun p => g p.1 p.2
def UnA (K : PySem.W.Frag) (r : V → Hp → VK → Prop) (g : Val → Sto → Option (Val × Sto)) : Prop := ∀ m S H x v S' u Q, Rel K m S H → VR K H m u x → g x S = some (v, S') → (∀ m' z H', Ext m H m' H' → Rel K m' S' H' → VR K H' m' z v → Q z H') → r u H Q
theorem aun {op : UnaryOp} {r : V → Hp → VK → Prop} {g : Val → Sto → Option (Val × Sto)} (ho : UnR X (unaryOp op) r) (hg : UnA X.K r g) (ha : AE X a fa) : AE X (.UnaryOp op a pos) (eU g fa) := by
  refine pe_w (pe_un ho ha) fun σ H Q h => ?_
  obtain ⟨m, ρ, S, v, S', R, r, e, q⟩ := h
  obtain ⟨⟨x, S1⟩, e1, e⟩ := Option.bind_eq_some_iff.mp e
  exact ⟨m, ρ, S, x, S1, R, r, e1, fun m1 u H1 E1 R1 r1 => hg m1 S1 H1 x v S' u Q R1 r1 e fun m2 z H2 E2 R2 r2 => q m2 z H2 (E1.trans E2) R2 r2⟩

abbrev OF := Rho → Sto → Option (Option Int × Sto)
def oN : OF := fun _ S => some (none, S)
def oS (f : EF) : OF := fun ρ S => (f ρ S).bind fun p => match p.1 with
  | .int i => some (some i, p.2)
  | _ => none
def tFo (K : PySem.W.Frag) (f : OF) : TO := fun σ H Q => ∃ m ρ S o S', Rel K m S H ∧ RhoR K H m ρ σ ∧ f ρ S = some (o, S') ∧ ∀ m' H', Ext m H m' H' → Rel K m' S' H' → Q o H'
theorem po_w {o : Option Expr} {t t' : TO} (h : PO X o t) (hi : ∀ σ H Q, t' σ H Q → t σ H Q) : PO X o t' := ⟨fun pins s σ H Q I hq => h.run pins s σ H Q I (hi σ H Q hq)⟩
theorem aon : PO X none (tFo X.K oN) := po_w po_none fun σ H Q h => by
  obtain ⟨m, ρ, S, v, S', R, r, e, q⟩ := h
  cases e
  exact q m H (.refl _ _) R
theorem aos (ha : AE X e f) : PO X (some e) (tFo X.K (oS f)) := po_w (po_some ha) fun σ H Q h => by
  obtain ⟨m, ρ, S, v, S', R, r, e, q⟩ := h
  obtain ⟨⟨x, S1⟩, e1, e⟩ := Option.bind_eq_some_iff.mp e
  refine ⟨m, ρ, S, x, S1, R, r, e1, fun m1 u H1 E1 R1 r1 => ?_⟩
  cases x <;> cases e
  cases r1
  exact ⟨_, rfl, q m1 H1 E1 R1⟩
def eSl (g : Val → Option Int → Option Int → Sto → Option (Val × Sto)) (fa : EF) (lo hi : OF) : EF := fun ρ S => (fa ρ S).bind fun p => (lo ρ p.2).bind fun q => (hi ρ q.2).bind fun z => g p.1 q.1 z.1 z.2
def SlA (K : PySem.W.Frag) (r : V → Option Int → Option Int → Hp → VK → Prop) (g : Val → Option Int → Option Int → Sto → Option (Val × Sto)) : Prop := ∀ m S H x lo hi v S' u Q, Rel K m S H → VR K H m u x → g x lo hi S = some (v, S') →
  (∀ m' z H', Ext m H m' H' → Rel K m' S' H' → VR K H' m' z v → Q z H') → r u lo hi H Q
theorem asl {r : V → Option Int → Option Int → Hp → VK → Prop} {g : Val → Option Int → Option Int → Sto → Option (Val × Sto)} {lo hi : Option Expr} {fl fh : OF} {p2 : Pos} (hs : SlR X r) (hg : SlA X.K r g) (ha : AE X a fa) (hl : PO X lo (tFo X.K fl)) (hh : PO X hi (tFo X.K fh)) : AE X (.Subscript a (.Slice lo hi none p2) pos) (eSl g fa fl fh) := by
  refine pe_w (pe_slice hs ha hl hh) fun σ H Q h => ?_
  obtain ⟨m, ρ, S, v, S', R, r, e, q⟩ := h
  obtain ⟨⟨x, S1⟩, e1, e⟩ := Option.bind_eq_some_iff.mp e
  obtain ⟨⟨y, S2⟩, e2, e⟩ := Option.bind_eq_some_iff.mp e
  obtain ⟨⟨z, S3⟩, e3, e⟩ := Option.bind_eq_some_iff.mp e
  refine ⟨m, ρ, S, x, S1, R, r, e1, fun m1 u H1 E1 R1 r1 => ⟨m1, ρ, S1, y, S2, R1, r.kp (E1.kp R), e2, fun m2 H2 E2 R2 => ⟨m2, ρ, S2, z, S3, R2, r.kp ((E1.trans E2).kp R), e3, fun m3 H3 E3 R3 => ?_⟩⟩⟩
  exact hg m3 S3 H3 x y z v S' u Q R3 (r1.kp ((E2.trans E3).kp R1)) e fun m4 z H4 E4 R4 r4 => q m4 z H4 (((E1.trans E2).trans E3).trans E4) R4 r4
end
end AL
namespace AL
open PySem PySem.Spec PyProof.Rows L2 G
variable [TT]
inductive Res where
  | stuck | nx (ρ : Rho) (S : Sto) | rt (v : Val) (S : Sto) | bk (ρ : Rho) (S : Sto) | ct (ρ : Rho) (S : Sto)
abbrev SF := Rho → Sto → Res
def Post (K : PySem.W.Frag) (m : List Addr) (H : Hp) (D : Ends) : Res → Prop
  | .stuck => False
  | .nx ρ S => ∀ m' σ' H', Ext m H m' H' → Rel K m' S H' → RhoR K H' m' ρ σ' → D.nx σ' H'
  | .rt v S => ∀ m' u H', Ext m H m' H' → Rel K m' S H' → VR K H' m' u v → D.rt u H'
  | .bk ρ S => ∀ m' σ' H', Ext m H m' H' → Rel K m' S H' → RhoR K H' m' ρ σ' → D.bk σ' H'
  | .ct ρ S => ∀ m' σ' H', Ext m H m' H' → Rel K m' S H' → RhoR K H' m' ρ σ' → D.ct σ' H'
theorem Post.ext {K : PySem.W.Frag} {m m1 : List Addr} {H H1 : Hp} {D : Ends} {r : Res} (h : Post K m H D r) (E : Ext m H m1 H1) : Post K m1 H1 D r := by
  cases r with
  | stuck => exact h
  | nx ρ S => exact fun m' σ' H' E' => h m' σ' H' (E.trans E')
  | rt ρ S => exact fun m' σ' H' E' => h m' σ' H' (E.trans E')
  | bk ρ S => exact fun m' σ' H' E' => h m' σ' H' (E.trans E')
  | ct ρ S => exact fun m' σ' H' E' => h m' σ' H' (E.trans E')
def tS (K : PySem.W.Frag) (g : SF) : TS := fun D σ H => ∃ m ρ S, Rel K m S H ∧ RhoR K H m ρ σ ∧ Post K m H D (g ρ S)
abbrev AS (X : Cx) (st : Stmt) (g : SF) : Prop := PS X st (tS X.K g)
abbrev ASs (X : Cx) (sts : List Stmt) (g : SF) : Prop := PSs X sts (tS X.K g)
section
variable {X : Cx} {st : Stmt} {sts rest : List Stmt} {e a b c o i : Expr} {es : List Expr} {pos : Pos} {f fa fb fc : EF} {g g1 g2 : SF} {tb : BF} {K : PySem.W.Frag} {ga : AF}
theorem ps_w {t t' : TS} (h : PS X st t) (hi : ∀ D σ H, t' D σ H → t D σ H) : PS X st t' := ⟨fun pins s σ H D I hq => h.run pins s σ H D I (hi D σ H hq)⟩
theorem pss_w {t t' : TS} (h : PSs X sts t) (hi : ∀ D σ H, t' D σ H → t D σ H) : PSs X sts t' := ⟨fun pins s σ H D I hq => h.run pins s σ H D I (hi D σ H hq)⟩
def sNil : SF := fun ρ S => .nx ρ S
def sSeq (g1 g2 : SF) : SF := fun ρ S => match g1 ρ S with
  | .nx ρ S => g2 ρ S
  | r => r
theorem asn : ASs X [] sNil := pss_w pss_nil fun D σ H h => by
  obtain ⟨m, ρ, S, R, r, p⟩ := h
  exact p m σ H (.refl _ _) R r
theorem asq (h1 : AS X st g1) (h2 : ASs X rest g2) : ASs X (st :: rest) (sSeq g1 g2) := pss_w (pss_cons h1 h2) fun D σ H h => by
  obtain ⟨m, ρ, S, R, r, p⟩ := h
  refine ⟨m, ρ, S, R, r, ?_⟩
  unfold sSeq at p
  cases e : g1 ρ S with
  | nx ρ1 S1 =>
    rw [e] at p
    intro m1 σ1 H1 E1 R1 r1
    exact ⟨m1, ρ1, S1, R1, r1, p.ext E1⟩
  | stuck => rw [e] at p; exact p
  | rt v S1 => rw [e] at p; exact p
  | bk v S1 => rw [e] at p; exact p
  | ct v S1 => rw [e] at p; exact p
theorem as1 (h : AS X st g) : ASs X [st] g := pss_one h
def sExpr (f : EF) : SF := fun ρ S => match f ρ S with
  | some (_, S) => .nx ρ S
  | none => .stuck
theorem asx (he : AE X e f) (hs : swapsWith e none pos.line X.env = pure false := by rfl) : AS X (.Expr e pos) (sExpr f) := ps_w (ps_expr he hs) fun D σ H h => by
  obtain ⟨m, ρ, S, R, r, p⟩ := h
  unfold sExpr at p
  split at p
  · next v S1 e1 => exact ⟨m, ρ, S, v, S1, R, r, e1, fun m1 u H1 E1 R1 r1 => p m1 σ H1 E1 R1 (r.kp (E1.kp R))⟩
  · exact p.elim
def sRet (f : EF) : SF := fun ρ S => match f ρ S with
  | some (v, S) => .rt v S
  | none => .stuck
theorem asr (he : AE X e f) : AS X (.Return (some e) pos) (sRet f) := ps_w (ps_ret he) fun D σ H h => by
  obtain ⟨m, ρ, S, R, r, p⟩ := h
  unfold sRet at p
  split at p
  · next v S1 e1 => exact ⟨m, ρ, S, v, S1, R, r, e1, p⟩
  · exact p.elim
def sIf (t : BF) (g1 g2 : SF) : SF := fun ρ S => match t ρ S with
  | some (true, S) => g1 ρ S
  | some (false, S) => g2 ρ S
  | none => .stuck
theorem asi (hc : AT X c tb) (h1 : ASs X sts g1) (h2 : ASs X rest g2) : AS X (.If c sts rest pos) (sIf tb g1 g2) := ps_w (ps_if hc h1 h2) fun D σ H h => by
  obtain ⟨m, ρ, S, R, r, p⟩ := h
  unfold sIf at p
  split at p
  · next S1 e1 => exact ⟨m, ρ, S, true, S1, R, r, e1, fun m1 H1 E1 R1 => ⟨m1, ρ, S1, R1, r.kp (E1.kp R), p.ext E1⟩⟩
  · next S1 e1 => exact ⟨m, ρ, S, false, S1, R, r, e1, fun m1 H1 E1 R1 => ⟨m1, ρ, S1, R1, r.kp (E1.kp R), p.ext E1⟩⟩
  · exact p.elim
inductive Pat where
  | nm (i : Nat)
  | tp (ps : List Pat)
mutual
def Pat.bind : Pat → Val → Rho → Option Rho
  | .nm i, v, ρ => some (ρ.set i (some v))
  | .tp ps, .tup vs, ρ => Pat.binds ps vs ρ
  | .tp _, _, _ => none
def Pat.binds : List Pat → List Val → Rho → Option Rho
  | [], [], ρ => some ρ
  | p :: ps, v :: vs, ρ => (Pat.bind p v ρ).bind fun ρ1 => Pat.binds ps vs ρ1
  | _, _, _ => none
end
mutual
def Pat.slots : Pat → List Nat
  | .nm i => [i]
  | .tp ps => Pat.slotss ps
def Pat.slotss : List Pat → List Nat
  | [] => []
  | p :: ps => Pat.slots p ++ Pat.slotss ps
end
theorem wipe_get (σ : L2.St) : ∀ (vs : List Nat) (j : Nat), (wipe σ vs)[j]? = if j ∈ vs then (σ[j]?).map (fun _ => none) else σ[j]?
  | [], j => by simp [wipe]
  | v :: vs, j => by
    unfold wipe
    by_cases z : v = j
    · subst z
      rw [List.getElem?_set]
      simp only [if_true, wipe_length, List.mem_cons, true_or, if_true]
      by_cases l : v < σ.length
      · simp [l]
      · simp [l, List.getElem?_eq_none (Nat.le_of_not_lt l)]
    · rw [List.getElem?_set_ne z, wipe_get σ vs j]
      simp [List.mem_cons, Ne.symm z]
theorem wipe_set (σ : L2.St) {i : Nat} {vs : List Nat} (x : Option V) (h : i ∈ vs) : wipe (σ.set i x) vs = wipe σ vs := by
  apply List.ext_getElem?
  intro j
  rw [wipe_get, wipe_get]
  by_cases z : i = j
  · subst z
    simp only [h, if_true]
    by_cases l : i < σ.length
    · simp [l]
    · rw [List.getElem?_eq_none (by rw [List.length_set]; omega), List.getElem?_eq_none (by omega)]
  · rw [List.getElem?_set_ne z]
def tG (K : PySem.W.Frag) (p : Pat) : TG := fun u σ H Q => ∃ m S ρ v ρ', Rel K m S H ∧ RhoR K H m ρ σ ∧ VR K H m u v ∧ p.bind v ρ = some ρ' ∧ ∀ σ', RhoR K H m ρ' σ' → (∀ ws, (∀ i ∈ p.slots, i ∈ ws) → wipe σ' ws = wipe σ ws) → Q σ' H
def tGs (K : PySem.W.Frag) (ps : List Pat) : TGs := fun us σ H Q => ∃ m S ρ vs ρ', Rel K m S H ∧ RhoR K H m ρ σ ∧ VRs K H m us vs ∧ Pat.binds ps vs ρ = some ρ' ∧ ∀ σ', RhoR K H m ρ' σ' → (∀ ws, (∀ i ∈ Pat.slotss ps, i ∈ ws) → wipe σ' ws = wipe σ ws) → Q σ' H
theorem pg_w {tg : Expr} {t t' : TG} (h : PG X tg t) (hi : ∀ v σ H Q, t' v σ H Q → t v σ H Q) : PG X tg t' := ⟨fun pins s σ H v u Q I rv hq => h.run pins s σ H v u Q I rv (hi v σ H Q hq)⟩
theorem pgs_w {tgs : List Expr} {t t' : TGs} (h : PGs X tgs t) (hi : ∀ v σ H Q, t' v σ H Q → t v σ H Q) : PGs X tgs t' := ⟨fun pins s σ H v u Q I rv hq => h.run pins s σ H v u Q I rv (hi v σ H Q hq)⟩
theorem agn {i : Nat} {x : Str} (hN : X.N.Nodup) (hi : X.N[i]? = some x) (hx : Loc X.env.scope x) (hf : X.fn x = true ∨ X.env.scope.names.lookup x = some .local := by first | exact .inl rfl | exact .inr rfl | assumption) : PG X (.Name x pos) (tG X.K (.nm i)) := pg_w (pg_name hN hi hx hf) fun u σ H Q h => by
  obtain ⟨m, S, ρ, v, ρ', R, r, rv, e, q⟩ := h
  simp only [Pat.bind] at e
  cases e
  exact q _ (r.set rv i) fun ws hw => wipe_set σ _ (hw i (by simp [Pat.slots]))
theorem agl0 : PGs X [] (tGs X.K []) := pgs_w pgs_nil fun us σ H Q h => by
  obtain ⟨m, S, ρ, vs, ρ', R, r, rv, e, q⟩ := h
  cases vs with
  | nil =>
    cases rv
    simp only [Pat.binds] at e
    cases e
    exact ⟨rfl, q σ r fun _ _ => rfl⟩
  | cons v vs => simp only [Pat.binds] at e; cases e
theorem agl {p : Pat} {ps : List Pat} (h1 : PG X e (tG X.K p)) (h2 : PGs X es (tGs X.K ps))
    (hs : (assignEach (e :: es) X.env).map (·.2) = assign e X.env :: (assignEach es X.env).map (·.2) := by rfl) : PGs X (e :: es) (tGs X.K (p :: ps)) := pgs_w (pgs_cons h1 h2 hs) fun us σ H Q h => by
  obtain ⟨m, S, ρ, vs, ρ', R, r, rv, e, q⟩ := h
  cases vs with
  | nil => simp only [Pat.binds] at e; cases e
  | cons v vs =>
    cases rv with
    | cons rv rvs =>
      simp only [Pat.binds] at e
      obtain ⟨ρ1, e1, e2⟩ := Option.bind_eq_some_iff.mp e
      refine ⟨_, _, rfl, m, S, ρ, v, ρ1, R, r, rv, e1, fun σ1 r1 w1 => ⟨m, S, ρ1, vs, ρ', R, r1, rvs, e2, fun σ2 r2 w2 => q σ2 r2 fun ws hw => ?_⟩⟩
      rw [w2 ws fun i hi => hw i (by simp [Pat.slotss, hi]), w1 ws fun i hi => hw i (by simp [Pat.slotss, hi])]
theorem bindLen : ∀ {ps : List Pat} {vs : List Val} {ρ ρ' : Rho}, Pat.binds ps vs ρ = some ρ' → vs.length = ps.length
  | [], [], _, _, _ => rfl
  | [], _ :: _, _, _, h => by simp only [Pat.binds] at h; cases h
  | _ :: _, [], _, _, h => by simp only [Pat.binds] at h; cases h
  | p :: ps, v :: vs, ρ, ρ', h => by
    simp only [Pat.binds] at h
    obtain ⟨ρ1, e1, e2⟩ := Option.bind_eq_some_iff.mp h
    rw [List.length_cons, List.length_cons, bindLen e2]
theorem agt {ps : List Pat} {k n : Nat} (hc : X.calm = true) (h : PGs X es (tGs X.K ps)) (hn : (assignEach es X.env).length = n := by rfl) (hst : (assignEach es X.env).findIdx? (·.1) = none := by rfl) (hl : ps.length = n := by rfl) : PG X (.Tuple es k pos) (tG X.K (.tp ps)) := pg_w (pg_tup hc h hn hst) fun u σ H Q h => by
  obtain ⟨m, S, ρ, v, ρ', R, r, rv, e, q⟩ := h
  cases v <;> simp only [Pat.bind] at e <;> try cases e
  cases rv with
  | tup ha rs =>
    exact ⟨_, _, rfl, ha.sq, by rw [rs.len, bindLen e, hl], m, S, ρ, _, ρ', R, r, rs, e, fun σ' r' w' => q σ' r' fun ws hw => w' ws fun i hi => hw i (by simpa [Pat.slots] using hi)⟩
def sAsg (p : Pat) (f : EF) : SF := fun ρ S => match f ρ S with
  | some (v, S) => match p.bind v ρ with
    | some ρ => .nx ρ S
    | none => .stuck
  | none => .stuck
theorem sAsg_ok {p : Pat} {D : Ends} {σ : L2.St} {H : Hp} (h : tS K (sAsg p f) D σ H) : tAsg (tF K f) (tG K p) D σ H := by
  obtain ⟨m, ρ, S, R, r, q⟩ := h
  unfold sAsg at q
  split at q
  · next v S1 e1 =>
    split at q
    · next ρ1 e2 =>
      refine ⟨m, ρ, S, v, S1, R, r, e1, fun m1 u H1 E1 R1 r1 => ⟨m1, S1, ρ, v, ρ1, R1, r.kp (E1.kp R), r1, e2, fun σ' r' _ => q m1 σ' H1 E1 R1 r'⟩⟩
    · exact q.elim
  · exact q.elim
theorem asa {p : Pat} {tg : Expr} (he : AE X e f) (hg : PG X tg (tG X.K p)) (hs : swapsWithSole [tg] e pos.line X.env = pure false := by rfl) (hw : swappedStores [tg] e X.env = pure none := by rfl)
    (h1 : (assignEach [tg] X.env).map (·.2) = [assign tg X.env] := by rfl) : AS X (.Assign [tg] e pos) (sAsg p f) := ps_w (ps_asg he hg hs hw h1) fun D σ H h => sAsg_ok h
theorem ass {i : Nat} {x : Str} {pos' : Pos} (hN : X.N.Nodup) (hi : X.N[i]? = some x) (hx : Loc X.env.scope x) (he : AE X e f) (hs : swapsWith e (some (.Name x pos')) pos.line X.env = pure false := by rfl) (hf : X.fn x = true ∨ X.env.scope.names.lookup x = some .local := by first | exact .inl rfl | exact .inr rfl | assumption) :
    AS X (.Assign [.Name x pos'] e pos) (sAsg (.nm i) f) := ps_w (ps_set hN hi hx he hs hf) fun D σ H h => by
  obtain ⟨m, ρ, S, R, r, q⟩ := h
  unfold sAsg at q
  split at q
  · next v S1 e1 =>
    simp only [Pat.bind] at q
    exact ⟨m, ρ, S, v, S1, R, r, e1, fun m1 u H1 E1 R1 r1 => q m1 _ H1 E1 R1 ((r.kp (E1.kp R)).set r1 i)⟩
  · exact q.elim

def sPar (is : List Nat) (ga : AF) : SF := fun ρ S => match ga ρ S with
  | some (vs, S) => match Pat.binds (is.map Pat.nm) vs ρ with
    | some ρ => .nx ρ S
    | none => .stuck
  | none => .stuck

def sSub (g : Val → Val → Val → Sto → Option Sto) (fo fi f : EF) : SF := fun ρ S => match f ρ S with
  | some (v, S) => match fo ρ S with
    | some (o, S) => match fi ρ S with
      | some (i, S) => match g o i v S with
        | some S => .nx ρ S
        | none => .stuck
      | none => .stuck
    | none => .stuck
  | none => .stuck
def SetA (K : PySem.W.Frag) (r : TSet) (g : Val → Val → Val → Sto → Option Sto) : Prop := ∀ m S H o i v S' uo ui u Q, Rel K m S H → VR K H m uo o → VR K H m ui i → VR K H m u v → g o i v S = some S' → (∀ H', Ext m H m H' → Rel K m S' H' → Q H') → r uo ui u H Q
def whR (t : BF) (g : SF) : Nat → SF
  | 0 => fun _ _ => .stuck
  | n + 1 => fun ρ S => match t ρ S with
    | none => .stuck
    | some (false, S) => .nx ρ S
    | some (true, S) => match g ρ S with
      | .nx ρ S => whR t g n ρ S
      | .ct ρ S => whR t g n ρ S
      | .bk ρ S => .nx ρ S
      | .rt v S => .rt v S
      | .stuck => .stuck
open Classical in
noncomputable def sWhile (t : BF) (g : SF) : SF := fun ρ S => if h : ∃ n, whR t g n ρ S ≠ .stuck then whR t g h.choose ρ S else .stuck
theorem whR_succ {t : BF} {g : SF} : ∀ {n : Nat} {ρ : Rho} {S : Sto}, whR t g n ρ S ≠ .stuck → whR t g (n + 1) ρ S = whR t g n ρ S
  | 0, _, _, h => absurd rfl h
  | n + 1, ρ, S, h => by
    unfold whR at h ⊢
    split
    · rfl
    · rfl
    · next S1 e1 =>
      simp only [e1] at h
      split
      · next ρ2 S2 e2 =>
        simp only [e2] at h
        exact whR_succ h
      · next ρ2 S2 e2 =>
        simp only [e2] at h
        exact whR_succ h
      · rfl
      · rfl
      · rfl
theorem whR_add {t : BF} {g : SF} {n : Nat} {ρ : Rho} {S : Sto} (h : whR t g n ρ S ≠ .stuck) : ∀ k, whR t g (n + k) ρ S = whR t g n ρ S
  | 0 => rfl
  | k + 1 => by
    have e := whR_add h k
    rw [← Nat.add_assoc, whR_succ (by rw [e]; exact h), e]
theorem sWhile_eq {t : BF} {g : SF} {n : Nat} {ρ : Rho} {S : Sto} {r : Res} (h : whR t g n ρ S = r) (hr : r ≠ .stuck) : sWhile t g ρ S = r := by
  have ex : ∃ n, whR t g n ρ S ≠ .stuck := ⟨n, by rw [h]; exact hr⟩
  unfold sWhile
  rw [dif_pos ex]
  have h1 := whR_add ex.choose_spec n
  have h2 := whR_add (show whR t g n ρ S ≠ .stuck by rw [h]; exact hr) ex.choose
  rw [← h1, ← h, ← h2, Nat.add_comm]
theorem asw (hp : PassesOwn (model X.prog X.w) X.A X.env X.xe) (hc : AT X c tb) (hb : ASs X sts g) : AS X (.While c sts [] pos) (sWhile tb g) := ps_w (ps_while hp hc hb) fun D σ H h => by
  obtain ⟨m, ρ, S, R, r, q⟩ := h
  unfold sWhile at q
  split at q
  · next hex =>
    generalize hex.choose = n at q
    refine ⟨fun k σ H => ∃ m ρ S, Rel X.K m S H ∧ RhoR X.K H m ρ σ ∧ Post X.K m H D (whR tb g k ρ S), ⟨n, m, ρ, S, R, r, q⟩, ?_⟩
    rintro k σ H ⟨m, ρ, S, R, r, q⟩
    cases k with
    | zero => exact q.elim
    | succ k =>
      unfold whR at q
      split at q
      · exact q.elim
      · next S1 e1 =>
        refine ⟨m, ρ, S, false, S1, R, r, e1, fun m1 H1 E1 R1 => ?_⟩
        exact q m1 σ H1 E1 R1 (r.kp (E1.kp R))
      · next S1 e1 =>
        refine ⟨m, ρ, S, true, S1, R, r, e1, fun m1 H1 E1 R1 => ?_⟩
        refine iteT ?_
        refine ⟨fun σ H => ∃ m ρ S, Rel X.K m S H ∧ RhoR X.K H m ρ σ ∧ Post X.K m H D (whR tb g k ρ S), fun σ' H' h => ⟨k, Nat.lt_succ_self k, h⟩, m1, ρ, S1, R1, r.kp (E1.kp R), ?_⟩
        split at q
        · next ρ2 S2 e2 =>
          rw [e2]
          exact fun m2 σ2 H2 E2 R2 r2 => ⟨m2, ρ2, S2, R2, r2, q.ext (E1.trans E2)⟩
        · next ρ2 S2 e2 =>
          rw [e2]
          exact fun m2 σ2 H2 E2 R2 r2 => ⟨m2, ρ2, S2, R2, r2, q.ext (E1.trans E2)⟩
        · next ρ2 S2 e2 =>
          rw [e2]
          exact fun m2 σ2 H2 E2 R2 r2 => q m2 σ2 H2 (E1.trans E2) R2 r2
        · next v2 S2 e2 =>
          rw [e2]
          exact fun m2 σ2 H2 E2 R2 r2 => q m2 σ2 H2 (E1.trans E2) R2 r2
        · exact q.elim
  · exact q.elim
abbrev IF := Rho → Sto → Option (List Val × (Sto → Prop) × Sto)
structure ItA (K : PySem.W.Frag) (J : It) (m0 : List Addr) (H0 : Hp) (vs : List Val) (ok : Sto → Prop) : Prop where
  step : ∀ (i : Nat) (m : List Addr) (S : Sto) (H : Hp), Ext m0 H0 m H → Rel K m S H → ok S → ∀ v, vs[i]? = some v → J.go i H ∧ ∀ x H', J.yld i H x H' → Rel K m S H' ∧ Ext m H m H' ∧ VR K H' m x v
  stop : ∀ (m : List Addr) (S : Sto) (H : Hp), Ext m0 H0 m H → Rel K m S H → ok S → J.stop vs.length H
def tI (K : PySem.W.Frag) (fi : IF) : TI := fun σ H R => ∃ m ρ S vs ok S', Rel K m S H ∧ RhoR K H m ρ σ ∧ fi ρ S = some (vs, ok, S') ∧ ∀ m' H' J, Ext m H m' H' → Rel K m' S' H' → ItA K J m' H' vs ok → R J H'
abbrev AI (X : Cx) (tg it : Expr) (fi : IF) : Prop := PI X tg it (tI X.K fi)
theorem pi_w {tg it : Expr} {w w' : TI} (h : PI X tg it w) (hi : ∀ σ H R, w' σ H R → w σ H R) : PI X tg it w' := ⟨fun pins s σ H R I hq => h.run pins s σ H R I (hi σ H R hq)⟩
theorem PI.or {tg it : Expr} {w w' : TI} (h : PI X tg it w) (h' : PI X tg it w') : PI X tg it (fun σ H R => w σ H R ∨ w' σ H R) := ⟨fun pins s σ H R I hq => hq.elim (h.run pins s σ H R I) (h'.run pins s σ H R I)⟩
open Classical in
noncomputable def forR (p : Pat) (g : SF) (ok : Sto → Prop) : List Val → SF
  | [] => fun ρ S => if ok S then .nx ρ S else .stuck
  | v :: vs => fun ρ S => if ok S then match p.bind v ρ with
    | none => .stuck
    | some ρ => match g ρ S with
      | .nx ρ S => forR p g ok vs ρ S
      | .ct ρ S => forR p g ok vs ρ S
      | .bk ρ S => .nx ρ S
      | .rt v S => .rt v S
      | .stuck => .stuck
    else .stuck
noncomputable def sFor (p : Pat) (fi : IF) (g : SF) : SF := fun ρ S => match fi ρ S with
  | some (vs, ok, S) => forR p g ok vs ρ S
  | none => .stuck
theorem asf {p : Pat} {tg it : Expr} {fi : IF} (hp : PassesOwn (model X.prog X.w) X.A X.env X.xe) (hc : X.calm = true) (hi : AI X tg it fi) (hg : PG X tg (tG X.K p)) (hb : ASs X sts g)
    (hs : ∀ x, foldedSetIterable it X.env x = pure x := by intro _; rfl) : AS X (.For tg it sts [] pos) (sFor p fi g) := ps_w (ps_for hp hc hi hg hb hs) fun D σ H h => by
  obtain ⟨m, ρ, S, R, r, q⟩ := h
  unfold sFor at q
  split at q
  · next vs ok S1 e1 =>
    refine ⟨m, ρ, S, vs, ok, S1, R, r, e1, fun m0 H0 J E0 R0 it0 => ?_⟩
    refine ⟨fun i k σ H => k + i = vs.length ∧ ∃ m ρ S, Ext m0 H0 m H ∧ Rel X.K m S H ∧ RhoR X.K H m ρ σ ∧ Post X.K m H D (forR p g ok (vs.drop i) ρ S), ⟨vs.length, by omega, m0, ρ, S1, .refl _ _, R0, r.kp (E0.kp R), q.ext E0⟩, ?_⟩
    rintro i k σ H ⟨hk, m, ρ, S, E, R, r, q⟩
    by_cases hlt : i < vs.length
    · rw [List.drop_eq_getElem_cons hlt] at q
      unfold forR at q
      split at q
      · next hok =>
        split at q
        · exact q.elim
        · next ρ1 e2 =>
          obtain ⟨go, yl⟩ := it0.step i m S H E R hok vs[i] (List.getElem?_eq_getElem hlt)
          refine .inr ⟨go, fun σ H => ∃ m ρ S, Ext m0 H0 m H ∧ Rel X.K m S H ∧ RhoR X.K H m ρ σ ∧ Post X.K m H D (forR p g ok (vs.drop (i + 1)) ρ S), fun σ' H' h => ⟨k - 1, by omega, by omega, h⟩, fun x H' hy => ?_⟩
          obtain ⟨R', E', rx⟩ := yl x H' hy
          refine ⟨m, S, ρ, _, ρ1, R', r.kp (E'.kp R), rx, e2, fun σ1 r1 _ => ⟨m, ρ1, S, R', r1, ?_⟩⟩
          have EE := E.trans E'
          split at q
          · next ρ2 S2 e3 =>
            rw [e3]
            exact fun m2 σ2 H2 E2 R2 r2 => ⟨m2, ρ2, S2, EE.trans E2, R2, r2, q.ext (E'.trans E2)⟩
          · next ρ2 S2 e3 =>
            rw [e3]
            exact fun m2 σ2 H2 E2 R2 r2 => ⟨m2, ρ2, S2, EE.trans E2, R2, r2, q.ext (E'.trans E2)⟩
          · next ρ2 S2 e3 =>
            rw [e3]
            exact fun m2 σ2 H2 E2 R2 r2 => q m2 σ2 H2 (E'.trans E2) R2 r2
          · next v2 S2 e3 =>
            rw [e3]
            exact fun m2 σ2 H2 E2 R2 r2 => q m2 σ2 H2 (E'.trans E2) R2 r2
          · exact q.elim
      · exact q.elim
    · have e : i = vs.length := by omega
      subst e
      rw [List.drop_length] at q
      unfold forR at q
      split at q
      · next hok => exact .inl ⟨it0.stop m S H E R hok, q m σ H (.refl _ _) R r⟩
      · exact q.elim
  · exact q.elim
def wipeR (ρ : Rho) : List Nat → Rho
  | [] => ρ
  | v :: vs => (wipeR ρ vs).set v none
theorem RhoR.wipe {H : Hp} {m : List Addr} {ρ : Rho} {σ : L2.St} (r : RhoR K H m ρ σ) : ∀ vs : List Nat, RhoR K H m (wipeR ρ vs) (L2.wipe σ vs)
  | [] => r
  | v :: vs => (r.wipe vs).unset v none
def bYes : BF := fun _ S => some (true, S)
theorem ats0 : PTs X [] (tFb X.K bYes) := ⟨fun pins s σ H Q I h => pts_nil.run pins s σ H Q I (by
  obtain ⟨m, ρ, S, v, S', R, r, e, q⟩ := h
  cases e
  exact q m H (.refl _ _) R)⟩
open Classical in
noncomputable def lcR (p : Pat) (t : BF) (f : EF) (ok : Sto → Prop) (ρ : Rho) : List Val → List Val → Sto → Option (List Val × Sto)
  | [], acc, S => if ok S then some (acc, S) else none
  | v :: vs, acc, S => if ok S then (p.bind v ρ).bind fun ρ1 => (t ρ1 S).bind fun b => if b.1 then (f ρ1 b.2).bind fun y => if acc.length < 1000000 then lcR p t f ok ρ vs (acc ++ [y.1]) y.2 else none else lcR p t f ok ρ vs acc b.2 else none
noncomputable def eLc (p : Pat) (fi : IF) (t : BF) (f : EF) (own : List Nat) : EF := fun ρ S => (fi ρ S).bind fun z => (lcR p t f z.2.1 (wipeR ρ own) z.1 [] z.2.2).bind fun y => some (.ref y.2.length, y.2 ++ [.lst y.1])
theorem eLc_ok {p : Pat} {fi : IF} {t : BF} {own : List Nat} (hp : ∀ i ∈ p.slots, i ∈ own) {σ : L2.St} {H : Hp} {Q : VK} (h : tF K (eLc p fi t f own) σ H Q) : tLc (tI K fi) (tG K p) (tFb K t) (tF K f) own σ H Q := by
  obtain ⟨m, ρ, S, v, S', R, r, e, q⟩ := h
  obtain ⟨⟨vs, ok, S1⟩, e1, e⟩ := Option.bind_eq_some_iff.mp e
  obtain ⟨⟨ys, S2⟩, e2, e⟩ := Option.bind_eq_some_iff.mp e
  cases e
  refine ⟨m, ρ, S, vs, ok, S1, R, r, e1, fun m0 H0 J E0 R0 it0 D hD => ?_⟩
  dsimp only at e2 q
  refine ⟨fun i k H => k + i = vs.length ∧ ∃ m S acc xs, Ext m0 H0 m H ∧ Rel K m S H ∧ D ∉ m ∧ H D = some (.lst xs) ∧ VRs K H m xs acc ∧ lcR p t f ok (wipeR ρ own) (vs.drop i) acc S = some (ys, S2), ?_, ?_⟩
  · obtain ⟨R1, E1⟩ := R0.tmp (o := .lst []) hD
    exact ⟨vs.length, by omega, m0, S1, [], [], E1, R1, R0.noNone hD, upd_same, .nil, e2⟩
  · rintro i k H ⟨hk, m, S, acc, xs, E, R, nD, hDx, rx, el⟩
    by_cases hlt : i < vs.length
    · rw [List.drop_eq_getElem_cons hlt] at el
      unfold lcR at el
      split at el
      · next hok =>
        obtain ⟨ρ1, b1, el⟩ := Option.bind_eq_some_iff.mp el
        obtain ⟨⟨bb, S3⟩, b2, el⟩ := Option.bind_eq_some_iff.mp el
        dsimp only at el
        obtain ⟨go, yl⟩ := it0.step i m S H E R hok vs[i] (List.getElem?_eq_getElem hlt)
        refine .inr ⟨go, fun H => ∃ m S acc xs, Ext m0 H0 m H ∧ Rel K m S H ∧ D ∉ m ∧ H D = some (.lst xs) ∧ VRs K H m xs acc ∧ lcR p t f ok (wipeR ρ own) (vs.drop (i + 1)) acc S = some (ys, S2), fun H' h => ⟨k - 1, by omega, by omega, h⟩, fun x H' hy => ?_⟩
        obtain ⟨R', E', rx'⟩ := yl x H' hy
        have rr : RhoR K H' m (wipeR ρ own) (L2.wipe σ own) := (r.wipe own).kp ((((E0.kp (by assumption)).trans (E.kp R0))).trans (E'.kp R))
        refine ⟨m, S, wipeR ρ own, vs[i], ρ1, R', rr, rx', b1, fun σ1 r1 w1 => ⟨?_, m, ρ1, S, bb, S3, R', r1, b2, fun m3 H3 E3 R3 => ?_⟩⟩
        · have := w1 own hp
          rw [this]
          have idem : ∀ (σ : L2.St) (vs ws : List Nat), (∀ i ∈ vs, i ∈ ws) → L2.wipe (L2.wipe σ vs) ws = L2.wipe σ ws := by
            intro σ vs ws
            induction vs with
            | nil => intro _; rfl
            | cons v vs ih =>
              intro h
              have e : L2.wipe σ (v :: vs) = (L2.wipe σ vs).set v none := rfl
              rw [e, wipe_set _ _ (h v (by simp)), ih fun i hi => h i (by simp [hi])]
          exact idem σ own own fun i hi => hi
        · have nD3 : D ∉ m3 := E3.no (E'.fr D _ hDx nD) nD
          have hD3 : H3 D = some (.lst xs) := E3.fr D _ (E'.fr D _ hDx nD) nD
          have k3 := (E'.kp R).trans (E3.kp R')
          cases bb with
          | true =>
            rw [if_pos rfl] at el
            refine iteT ?_
            obtain ⟨⟨y, S4⟩, b3, el⟩ := Option.bind_eq_some_iff.mp el
            dsimp only at el
            split at el
            · next hlen =>
              refine ⟨m3, ρ1, S3, y, S4, R3, r1.kp (E3.kp R'), b3, fun m4 u H4 E4 R4 r4 => ?_⟩
              have nD4 : D ∉ m4 := E4.no hD3 nD3
              have hD4 : H4 D = some (.lst xs) := E4.fr D _ hD3 nD3
              have rx4 := rx.kp (k3.trans (E4.kp R3))
              refine ⟨xs, hD4, by rw [rx.len]; exact Nat.lt_of_lt_of_le hlen (by decide), ?_⟩
              have kD : Kp m4 H4 m4 (upd H4 D (.lst (xs ++ [u]))) := .at_ fun u' e => by rw [hD4] at e; cases e; exact .inl ⟨_, rfl⟩
              have EE := ((E.trans E').trans E3).trans E4
              refine ⟨m4, S4, acc ++ [y], xs ++ [u], ⟨EE.pre, fun a o h n t => ?_, EE.nw'⟩, R4.off kD (fun a ha => upd_ne fun z => nD4 (z ▸ ha)) (fun P ps h => tbl_at hD4 (fun _ z => by cases z) h), nD4, upd_same, (rx4.kp kD).app (r4.kp kD).one, el⟩
              rw [upd_ne (ne_of_none h hD)]
              exact EE.fr' a o h n t
            · cases el
          | false =>
            rw [if_neg Bool.false_ne_true] at el
            refine iteF ?_
            exact ⟨m3, S3, acc, xs, (E.trans E').trans E3, R3, nD3, hD3, rx.kp k3, el⟩
      · cases el
    · have e : i = vs.length := by omega
      subst e
      rw [List.drop_length] at el
      unfold lcR at el
      split at el
      · next hok =>
        cases el
        refine .inl ⟨it0.stop m _ H E R hok, ?_⟩
        have E1 : Ext m0 H0 (m ++ [D]) H := by
          obtain ⟨r', hr'⟩ := E.pre
          refine ⟨⟨r' ++ [D], by rw [hr', List.append_assoc]⟩, E.fr', fun a o ha n ho => ?_⟩
          rcases List.mem_append.mp ha with z | z
          · exact E.nw' a o z n ho
          · simp only [List.mem_singleton] at z
            rw [z, hD] at ho
            cases ho
        have kk : Kp m H (m ++ [D]) H := .grow [D] (.refl _ _)
        have R1 : Rel K (m ++ [D]) (S2 ++ [.lst ys]) H := by
          refine ⟨by simp [R.len], ?_, fun n o' a h1 h2 => ?_, R.tb⟩
          · rw [List.nodup_append]
            refine ⟨R.nd, by simp, fun a ha b hb z => ?_⟩
            simp only [List.mem_singleton] at hb
            exact nD (hb ▸ z ▸ ha)
          · by_cases hn : n < S2.length
            · rw [List.getElem?_append_left hn] at h1
              rw [List.getElem?_append_left (by rw [R.len]; exact hn)] at h2
              exact (R.ob n o' a h1 h2).kp kk rfl
            · have e : n = S2.length := by
                have := (List.getElem?_eq_some_iff.mp h1).1
                simp only [List.length_append, List.length_singleton] at this
                omega
              subst e
              rw [List.getElem?_concat_length] at h1
              rw [← R.len, List.getElem?_concat_length] at h2
              cases h1
              cases h2
              exact ⟨xs, hDx, rx.kp kk⟩
        refine q (m ++ [D]) (.ref D) H (E0.trans E1) R1 (.ref ?_)
        rw [← R.len, List.getElem?_concat_length]
      · cases el
theorem alc {elt tg it : Expr} {ifs : List Expr} {scope : Scope} {own : List (Str × Nat)} {p : Pat} {fi : IF} {t : BF} (hc : X.calm = true) (hN : X.N.Nodup) (hi : AI X tg it fi) (ok : BlkOk X.N X.env.scope scope own) (hp : ∀ i ∈ p.slots, i ∈ own.map (·.2))
    (hg : ∀ (s : Shared) (H : Hp) (C : Addr) (cl : List (Str × Addr)) (fp : List Addr), PG (X.blk s H scope (compEnvC scope cl C X.env) fp) tg (tG X.K p)) (ht : ∀ (s : Shared) (H : Hp) (C : Addr) (cl : List (Str × Addr)) (fp : List Addr), PTs (X.blk s H scope (compEnvC scope cl C X.env) fp) ifs (tFb X.K t))
    (he : ∀ (s : Shared) (H : Hp) (C : Addr) (cl : List (Str × Addr)) (fp : List Addr), AE (X.blk s H scope (compEnvC scope cl C X.env) fp) elt f) (hs : ∀ x, foldedSetIterable it X.env x = pure x := by intro _; rfl) :
    AE X (.ListComp elt [⟨tg, it, ifs, 0⟩] scope pos) (eLc p fi t f (own.map (·.2))) := pe_w (pe_lc hc hN hi ok hg ht he hs) fun _ _ _ h => eLc_ok hp h

theorem aslc {i : Nat} {y : Str} {py spos : Pos} {elt tg it : Expr} {ifs : List Expr} {scope : Scope} {own : List (Str × Nat)} {p : Pat} {fi : IF} {t : BF} (hc : X.calm = true) (hN : X.N.Nodup) (hy : X.N[i]? = some y) (hyl : X.env.scope.names.lookup y = some .local)
    (hsw : swapsWith (.ListComp elt [⟨tg, it, ifs, 0⟩] scope pos) (some (.Name y py)) spos.line X.env = pure true) (hi : AI X tg it fi) (ok : BlkOk X.N X.env.scope scope own) (hp : ∀ i ∈ p.slots, i ∈ own.map (·.2))
    (hg : ∀ (s : Shared) (H : Hp) (C : Addr) (cl : List (Str × Addr)) (fp : List Addr), PG (X.blk s H scope (compEnvC scope cl C X.env) fp) tg (tG X.K p)) (ht : ∀ (s : Shared) (H : Hp) (C : Addr) (cl : List (Str × Addr)) (fp : List Addr), PTs (X.blk s H scope (compEnvC scope cl C X.env) fp) ifs (tFb X.K t))
    (he : ∀ (s : Shared) (H : Hp) (C : Addr) (cl : List (Str × Addr)) (fp : List Addr), AE (X.blk s H scope (compEnvC scope cl C X.env) fp) elt f) (hs : ∀ x, foldedSetIterable it X.env x = pure x := by intro _; rfl) :
    AS X (.Assign [.Name y py] (.ListComp elt [⟨tg, it, ifs, 0⟩] scope pos) spos) (sAsg (.nm i) (eLc p fi t f (own.map (·.2)))) := ps_w (ps_setLc (i := i) hc hN hy hyl hsw hi ok hg ht he hs) fun D σ H h => by
  obtain ⟨m, ρ, S, R, r, q⟩ := h
  unfold sAsg at q
  split at q
  · next v S1 e1 =>
    simp only [Pat.bind] at q
    exact eLc_ok hp ⟨m, ρ, S, v, S1, R, r, e1, fun m1 u H1 E1 R1 r1 => q m1 _ H1 E1 R1 ((r.kp (E1.kp R)).set r1 i)⟩
  · exact q.elim
end
def runF (n : Nat) (g : SF) : FA := fun vs S => match g (vs.map some ++ List.replicate (n - vs.length) none) S with
  | .rt v S => some (v, S)
  | .nx _ S => some (.non, S)
  | _ => none
end AL
namespace AL
open PySem PySem.Spec PyProof.Rows L2 G
variable [TT]
theorem rho_start {K : PySem.W.Frag} {H : Hp} {m : List Addr} (N : List Str) {us : List V} {vs : List Val} (r : VRs K H m us vs) : RhoR K H m (vs.map some ++ List.replicate (N.length - vs.length) none) (L2.start N us) := by
  have l := r.len
  refine ⟨by simp [L2.start, l], fun i v h => ?_⟩
  by_cases hi : i < vs.length
  · rw [List.getElem?_append_left (by simpa using hi), List.getElem?_map] at h
    obtain ⟨w, h1, h2⟩ := Option.map_eq_some_iff.mp h
    cases h2
    obtain ⟨u, h3, h4⟩ := r.get h1
    refine ⟨u, ?_, h4⟩
    unfold L2.start
    rw [List.getElem?_append_left (by simpa [l] using hi), List.getElem?_map, h3]
    rfl
  · rw [List.getElem?_append_right (by simpa using Nat.le_of_not_lt hi), List.getElem?_replicate] at h
    split at h <;> cases h

theorem fn_a {P : Program} {w : World} {K : PySem.W.Frag} {mg : Str → Option Value} {base : Heap} {x qual : Str} {st : Stmt} {f : Addr} {fd : FuncData} {N ps : List Str} {k : Nat} {g : SF}
    (F : Fun K x qual st f fd) (S : FnScope N ps (defScope st)) (hb : Binds K fd ps []) (hm : mg x = some (.ref f))
    (body : ∀ (cdv : Value) (A : Around) (outer : List Env) (s : Shared) (H : Hp) (E : XK), A.guards = some [] →
      Room k (A.deeper (envOfC qual (defScope st) s.heap.objs.size f cdv)) → ASs (cxOf CX0 P w K mg base N qual (defScope st) f cdv A outer s H E).nox (defBody st) g) {n : Nat} (hn : N.length = n := by rfl) :
    Def P w K mg base (k + 1) x ps (runF n g) := by
  subst hn
  refine ⟨f, fd, fn_g F S (fun vs H Q E h => h.1) (fun cdv A outer s H us Q E hg hr h => ⟨_, body cdv A outer s H E hg hr, ?_⟩), hb, hm, F.kp⟩
  obtain ⟨hl, m, S0, vs, v, S', R, r, e, q⟩ := h
  refine ⟨m, _, S0, R, rho_start N r, ?_⟩
  unfold runF at e
  split at e
  · next v' S1 e1 =>
    cases e
    rw [e1]
    exact q
  · next v' S1 e1 =>
    cases e
    rw [e1]
    exact fun m' σ' H' E' R' r' => q m' .non H' E' R' .non
  · cases e
section
variable {X : Cx} {K : PySem.W.Frag}
def gI (g : Int → Int → Val) : Val → Val → Sto → Option (Val × Sto) := fun x y S => match x, y with
  | .int a, .int b => some (g a b, S)
  | _, _ => none
theorem oI {gv : Int → Int → V} {g : Int → Int → Val} (h : ∀ H m a b, VR K H m (gv a b) (g a b)) : OpA K (rI0 gv) (gI g) := by
  intro m S H x y v S' u w Q R ru rw_ e q
  cases x <;> cases y <;> simp only [gI] at e <;> try cases e
  cases ru
  cases rw_
  exact ⟨_, _, rfl, rfl, q m _ H (.refl _ _) R (h H m _ _)⟩
open Classical in
noncomputable def gIc (C : Int → Int → Prop) (g : Int → Int → Val) : Val → Val → Sto → Option (Val × Sto) := fun x y S => match x, y with
  | .int a, .int b => if C a b then some (g a b, S) else none
  | _, _ => none
theorem oIc {C : Int → Int → Prop} {gv : Int → Int → V} {g : Int → Int → Val} (h : ∀ H m a b, VR K H m (gv a b) (g a b)) : OpA K (rI C gv) (gIc C g) := by
  intro m S H x y v S' u w Q R ru rw_ e q
  cases x <;> cases y <;> simp only [gIc] at e <;> try cases e
  cases ru
  cases rw_
  split at e
  · next hc =>
    cases e
    exact ⟨_, _, rfl, rfl, hc, q m _ H (.refl _ _) R (h H m _ _)⟩
  · cases e
abbrev gSub := gI fun a b => .int (a - b)
noncomputable abbrev gMul := gIc CMulW fun a b => .int (a * b)
noncomputable abbrev gDiv := gIc CDivW fun a b => .int (a / b)
noncomputable abbrev gMod := gIc (fun _ b => b ≠ 0) fun a b => .int (a.fmod b)
noncomputable abbrev gPow := gIc CPow fun a b => .int (a ^ b.toNat)
abbrev gLt := gI fun a b => .bl (decide (a < b))
abbrev gLe := gI fun a b => .bl (decide (a ≤ b))
abbrev gGt := gI fun a b => .bl (decide (b < a))
abbrev gGe := gI fun a b => .bl (decide (b ≤ a))
theorem oSub : OpA K (rI0 fun i j => .int (i - j)) gSub := oI fun _ _ _ _ => .int _
theorem oMul : OpA K (rI CMulW fun i j => .int (i * j)) gMul := oIc fun _ _ _ _ => .int _
theorem oDiv : OpA K (rI CDivW fun i j => .int (i / j)) gDiv := oIc fun _ _ _ _ => .int _
theorem oMod : OpA K (rI (fun _ j => j ≠ 0) fun i j => .int (i.fmod j)) gMod := oIc fun _ _ _ _ => .int _
theorem oPow : OpA K (rI CPow fun i j => .int (i ^ j.toNat)) gPow := oIc fun _ _ _ _ => .int _
theorem oLt : OpA K (rI0 fun i j => .bl (decide (i < j))) gLt := oI fun _ _ _ _ => .bl _
theorem oLe : OpA K (rI0 fun i j => .bl (decide (i ≤ j))) gLe := oI fun _ _ _ _ => .bl _
theorem oGt : OpA K (rI0 fun i j => .bl (decide (j < i))) gGt := oI fun _ _ _ _ => .bl _
theorem oGe : OpA K (rI0 fun i j => .bl (decide (j ≤ i))) gGe := oI fun _ _ _ _ => .bl _
def gNeg : Val → Sto → Option (Val × Sto) := fun x S => match x with
  | .int a => some (.int (-a), S)
  | _ => none
theorem oNeg : UnA K (rU fun i => .int (-i)) gNeg := by
  intro m S H x v S' u Q R ru e q
  cases x <;> simp only [gNeg] at e <;> try cases e
  cases ru
  exact ⟨_, rfl, q m _ H (.refl _ _) R (.int _)⟩
def gAdd : Val → Val → Sto → Option (Val × Sto) := fun x y S => match x, y with
  | .int a, .int b => some (.int (a + b), S)
  | .str a, .str b => if a.length + b.length ≤ sizeLine then some (.str (a ++ b), S) else none
  | .tup (a :: as), .tup b => if as.length + 1 + b.length ≤ sizeLine then some (.tup (a :: as ++ b), S) else none
  | .ref i, .ref j => match S[i]?, S[j]? with
    | some (.lst a), some (.lst b) => if a.length + b.length ≤ sizeLine then some (.ref S.length, S ++ [.lst (a ++ b)]) else none
    | _, _ => none
  | _, _ => none
def rAddA (K : PySem.W.Frag) : R2 := fun x y H Q => (rI0 (fun i j => .int (i + j))) x y H Q ∨ ((∃ i j, x = .str i ∧ y = .str j ∧ i.length + j.length ≤ sizeLine ∧ Q (.str (i ++ j)) H) ∨ (rCatT K x y H Q ∨ rCat x y H Q))
theorem op_addA : OpR X (binaryOp .Add) (rAddA X.K) := op_add.or (op_add_str.or (op_catT.or op_cat))
theorem oAdd : OpA K (rAddA K) gAdd := by
  intro m S H x y v S' u w Q R ru rw_ e q
  unfold gAdd at e
  split at e
  · cases e
    cases ru
    cases rw_
    exact .inl ⟨_, _, rfl, rfl, q m _ H (.refl _ _) R (.int _)⟩
  · split at e
    · next h =>
      cases e
      cases ru
      cases rw_
      exact .inr (.inl ⟨_, _, rfl, rfl, h, q m _ H (.refl _ _) R (.str _)⟩)
    · cases e
  · next a as b =>
    split at e
    · next h =>
      cases e
      cases ru with
      | tup ha ra =>
        rename_i ad xs
        cases rw_ with
        | tup hb rb =>
          rename_i bd ys
          have l1 := ra.len
          have l2 := rb.len
          rw [List.length_cons] at l1
          refine .inr (.inr (.inl ⟨ad, bd, xs, ys, rfl, rfl, ha.sq, hb.sq, ?_, by omega, fun z => ?_, fun z p hp => ?_⟩))
          · intro z
            rw [z] at l1
            simp at l1
          · subst z
            have : b = [] := by
              cases b with
              | nil => rfl
              | cons _ _ => simp at l2
            subst this
            rw [List.append_nil] at q
            exact q m _ H (.refl _ _) R (.tup ha ra)
          · obtain ⟨R2, E2⟩ := R.tmp (o := .tup (xs ++ ys)) hp
            exact q m _ _ E2 R2 (.tup (.inl upd_same) ((ra.app rb).kp (E2.kp R)))
    · cases e
  · next i j =>
    split at e
    · next a b ea eb =>
      split at e
      · next h =>
        cases e
        cases ru with
        | ref ha =>
          cases rw_ with
          | ref hb =>
            obtain ⟨xs, hx, rx⟩ := R.ob _ _ _ ea ha
            obtain ⟨ys, hy, ry⟩ := R.ob _ _ _ eb hb
            refine .inr (.inr (.inr ⟨_, _, xs, ys, rfl, rfl, hx, hy, by rw [rx.len, ry.len]; exact h, fun p hp => ?_⟩))
            have k1 : Kp m H (m ++ [p]) (upd H p (.lst (xs ++ ys))) := .grow [p] (.new hp)
            obtain ⟨R2, E2⟩ := R.alloc (o := .lst (xs ++ ys)) (b := .lst (a ++ b)) hp ⟨_, upd_same, (rx.app ry).kp k1⟩
            refine q _ _ _ E2 R2 (.ref ?_)
            rw [← R.len, List.getElem?_concat_length]
      · cases e
    · cases e
  · cases e
theorem newList {m : List Addr} {S : Sto} {H : Hp} {xs : List V} {vs : List Val} (R : Rel K m S H) (r : VRs K H m xs vs) {Q : VK} (q : ∀ m' z H', Ext m H m' H' → Rel K m' (S ++ [.lst vs]) H' → VR K H' m' z (.ref S.length) → Q z H') : ∀ p, H p = none → Q (.ref p) (upd H p (.lst xs)) := fun p hp => by
  have k1 : Kp m H (m ++ [p]) (upd H p (.lst xs)) := .grow [p] (.new hp)
  obtain ⟨R2, E2⟩ := R.alloc (o := .lst xs) (b := .lst vs) hp ⟨_, upd_same, r.kp k1⟩
  refine q _ _ _ E2 R2 (.ref ?_)
  rw [← R.len, List.getElem?_concat_length]
theorem newTup {m : List Addr} {S : Sto} {H : Hp} {xs : List V} {vs : List Val} (R : Rel K m S H) (r : VRs K H m xs vs) {Q : VK} (q : ∀ m' z H', Ext m H m' H' → Rel K m' S H' → VR K H' m' z (.tup vs) → Q z H') : ∀ p, H p = none → Q (.ref p) (upd H p (.tup xs)) := fun p hp => by
  obtain ⟨R2, E2⟩ := R.tmp (o := .tup xs) hp
  exact q m _ _ E2 R2 (.tup (.inl upd_same) (r.kp (E2.kp R)))
theorem VRs.atI {H : Hp} {m : List Addr} {us : List V} {vs : List Val} (r : VRs K H m us vs) {i : Int} {v : Val} (h : L2.atI vs i = some v) : ∃ u, L2.atI us i = some u ∧ VR K H m u v := by
  unfold L2.atI at h ⊢
  rw [r.len]
  cases e : ixN vs.length i with
  | none => rw [e] at h; cases h
  | some j =>
    rw [e] at h
    exact r.get h
def gIx : Val → Val → Sto → Option (Val × Sto) := fun x y S => match x, y with
  | .tup vs, .int i => (atI vs i).map fun v => (v, S)
  | .ref n, .int i => match S[n]? with
    | some (.lst vs) => (atI vs i).map fun v => (v, S)
    | _ => none
  | .str z, .int i => if z.length ≤ sizeLine then (atI z.cps.toList i).map fun c => (.str ⟨#[c]⟩, S) else none
  | _, _ => none
theorem oIx : OpA K (rIx K) gIx := by
  intro m S H x y v S' u w Q R ru rw_ e q
  unfold gIx at e
  split at e
  · obtain ⟨v', e1, e2⟩ := Option.map_eq_some_iff.mp e
    cases e2
    cases rw_
    cases ru with
    | tup ha ra =>
      obtain ⟨z, h1, h2⟩ := ra.atI e1
      exact .inr (.inl ⟨_, _, _, z, rfl, rfl, ha.sq, h1, q m z H (.refl _ _) R h2⟩)
  · split at e
    · next vs en =>
      obtain ⟨v', e1, e2⟩ := Option.map_eq_some_iff.mp e
      cases e2
      cases rw_
      cases ru with
      | ref ha =>
        obtain ⟨xs, hx, rx⟩ := R.ob _ _ _ en ha
        obtain ⟨z, h1, h2⟩ := rx.atI e1
        exact .inl ⟨_, _, _, z, rfl, rfl, SqL.of hx, h1, q m z H (.refl _ _) R h2⟩
    · cases e
  · split at e
    · next hl =>
      obtain ⟨v', e1, e2⟩ := Option.map_eq_some_iff.mp e
      cases e2
      cases rw_
      cases ru
      exact .inr (.inr ⟨_, _, _, rfl, rfl, hl, e1, q m _ H (.refl _ _) R (.str _)⟩)
    · cases e
  · cases e
def cutL {α : Type} (xs : List α) (lo hi : Option Int) : List α := (xs.drop (HT.sIx xs.length 0 lo)).take (HT.sIx xs.length xs.length hi - HT.sIx xs.length 0 lo)
theorem VRs.cut {H : Hp} {m : List Addr} {us : List V} {vs : List Val} (r : VRs K H m us vs) (lo hi : Option Int) : VRs K H m (cutV us lo hi) (cutL vs lo hi) := by
  unfold cutV cutL
  rw [r.len]
  exact (r.drop _).take _
open Classical in
noncomputable def gSl : Val → Option Int → Option Int → Sto → Option (Val × Sto) := fun x lo hi S => match x with
  | .tup vs => if ¬ (HT.sIx vs.length 0 lo = 0 ∧ HT.sIx vs.length vs.length hi = vs.length) then some (.tup (cutL vs lo hi), S) else none
  | .ref n => match S[n]? with
    | some (.lst vs) => some (.ref S.length, S ++ [.lst (cutL vs lo hi)])
    | _ => none
  | .scr ns => some (.ref S.length, S ++ [.lst (cutL (ns.map Val.int) lo hi)])
  | _ => none
theorem vrs_ints {H : Hp} {m : List Addr} : ∀ ns : List Int, VRs K H m (ns.map V.int) (ns.map Val.int)
  | [] => .nil
  | n :: ns => .cons (.int n) (vrs_ints ns)
theorem vrs_strs {H : Hp} {m : List Addr} : ∀ ns : List Str, VRs K H m (ns.map V.str) (ns.map Val.str)
  | [] => .nil
  | n :: ns => .cons (.str n) (vrs_strs ns)
def rSlA (K : PySem.W.Frag) : V → Option Int → Option Int → Hp → VK → Prop := fun x lo hi H Q => rSlT K x lo hi H Q ∨ rSlL K x lo hi H Q
theorem sl_A : SlR X (rSlA X.K) := sl_tup.or sl_list
theorem oSl : SlA K (rSlA K) gSl := by
  intro m S H x lo hi v S' u Q R ru e q
  unfold gSl at e
  split at e
  · split at e
    · next hn =>
      cases e
      cases ru with
      | tup ha ra =>
        refine .inl ⟨_, _, rfl, ha.sq, by rw [ra.len]; exact hn, newTup R (ra.cut lo hi) q⟩
    · cases e
  · split at e
    · next vs en =>
      cases e
      cases ru with
      | ref ha =>
        obtain ⟨xs, hx, rx⟩ := R.ob _ _ _ en ha
        exact .inr ⟨_, _, rfl, SqL.of hx, newList R (rx.cut lo hi) q⟩
    · cases e
  · cases e
    cases ru with
    | scr ha => exact .inr ⟨_, _, rfl, ha.sq, newList R ((vrs_ints _).cut lo hi) q⟩
  · cases e
def gLen : List Val → Sto → Option (Val × Sto) := fun xs S => match xs with
  | [.tup vs] => some (.int vs.length, S)
  | [.ref n] => match S[n]? with
    | some (.lst vs) => some (.int vs.length, S)
    | some (.dic kvs) => some (.int kvs.length, S)
    | _ => none
  | [.str z] => if z.length ≤ sizeLine then some (.int z.length, S) else none
  | _ => none
def rLenA (K : PySem.W.Frag) : List V → Hp → VK → Prop := fun xs H Q => (∃ p ys, xs = [.ref p] ∧ (SqL K H p ys ∨ SqT K H p ys) ∧ Q (.int ys.length) H) ∨ ((∃ z, xs = [.str z] ∧ z.length ≤ sizeLine ∧ Q (.int z.length) H) ∨ (∃ d kvs, xs = [.ref d] ∧ H d = some (.dK kvs) ∧ Q (.int (kvs.length : Nat)) H))
theorem VRs.one_of {H : Hp} {m : List Addr} {us : List V} {v : Val} (r : VRs K H m us [v]) : ∃ u, us = [u] ∧ VR K H m u v := by
  cases r with
  | cons a b =>
    cases b
    exact ⟨_, rfl, a⟩
theorem cLen : CaA K (rLenA K) gLen := by
  intro m S H xs v S' us Q R ru e q
  unfold gLen at e
  split at e
  · cases e
    obtain ⟨u, rfl, r1⟩ := ru.one_of
    cases r1 with
    | tup ha ra => exact .inl ⟨_, _, rfl, .inr ha.sq, by rw [ra.len]; exact q m _ H (.refl _ _) R (.int _)⟩
  · split at e
    · next vs en =>
      cases e
      obtain ⟨u, rfl, r1⟩ := ru.one_of
      cases r1 with
      | ref ha =>
        obtain ⟨xs, hx, rx⟩ := R.ob _ _ _ en ha
        exact .inl ⟨_, _, rfl, .inl (SqL.of hx), by rw [rx.len]; exact q m _ H (.refl _ _) R (.int _)⟩
    · next kvs en =>
      cases e
      obtain ⟨u, rfl, r1⟩ := ru.one_of
      cases r1 with
      | ref ha =>
        obtain ⟨xs, hx, he, rx⟩ := R.ob _ _ _ en ha
        have l : xs.length = kvs.length := by simpa using congrArg List.length he
        exact .inr (.inr ⟨_, _, rfl, hx, by rw [l]; exact q m _ H (.refl _ _) R (.int _)⟩)
    · cases e
  · split at e
    · next hl =>
      cases e
      obtain ⟨u, rfl, r1⟩ := ru.one_of
      cases r1
      exact .inr (.inl ⟨_, rfl, hl, q m _ H (.refl _ _) R (.int _)⟩)
    · cases e
  · cases e
theorem call_lenA : CallR X (.builtin "len") (rLenA X.K) := CallR.or call_len_seq (CallR.or call_len_str call_lenD)
def gAbs : List Val → Sto → Option (Val × Sto) := fun xs S => match xs with
  | [.int i] => some (.int (if i < 0 then -i else i), S)
  | _ => none
def gTuple : List Val → Sto → Option (Val × Sto) := fun xs S => match xs with
  | [.tup vs] => some (.tup vs, S)
  | [.ref n] => match S[n]? with
    | some (.lst vs) => some (.tup vs, S)
    | _ => none
  | _ => none
theorem cTuple : CaA K (fun xs H Q => ∃ p ys, xs = [.ref p] ∧ ((SqL K H p ys ∧ ∀ l, H l = none → Q (.ref l) (upd H l (.tup ys))) ∨ (SqT K H p ys ∧ Q (.ref p) H))) gTuple := by
  intro m S H xs v S' us Q R ru e q
  unfold gTuple at e
  split at e
  · cases e
    obtain ⟨u, rfl, r1⟩ := ru.one_of
    cases r1 with
    | tup ha ra => exact ⟨_, _, rfl, .inr ⟨ha.sq, q m _ H (.refl _ _) R (.tup ha ra)⟩⟩
  · split at e
    · next vs en =>
      cases e
      obtain ⟨u, rfl, r1⟩ := ru.one_of
      cases r1 with
      | ref ha =>
        obtain ⟨xs, hx, rx⟩ := R.ob _ _ _ en ha
        exact ⟨_, _, rfl, .inl ⟨SqL.of hx, newTup R rx q⟩⟩
    · cases e
  · cases e
def gList : List Val → Sto → Option (Val × Sto) := fun xs S => match xs with
  | [.tup vs] => some (.ref S.length, S ++ [.lst vs])
  | [.ref n] => match S[n]? with
    | some (.lst vs) => some (.ref S.length, S ++ [.lst vs])
    | _ => none
  | _ => none
theorem cList : CaA K (fun xs H Q => ∃ p ys, xs = [.ref p] ∧ (SqL K H p ys ∨ SqT K H p ys) ∧ ∀ l, H l = none → Q (.ref l) (upd H l (.lst ys))) gList := by
  intro m S H xs v S' us Q R ru e q
  unfold gList at e
  split at e
  · cases e
    obtain ⟨u, rfl, r1⟩ := ru.one_of
    cases r1 with
    | tup ha ra => exact ⟨_, _, rfl, .inr ha.sq, newList R ra q⟩
  · split at e
    · next vs en =>
      cases e
      obtain ⟨u, rfl, r1⟩ := ru.one_of
      cases r1 with
      | ref ha =>
        obtain ⟨xs, hx, rx⟩ := R.ob _ _ _ en ha
        exact ⟨_, _, rfl, .inl (SqL.of hx), newList R rx q⟩
    · cases e
  · cases e
def isL : Val → Sto → Bool := fun v S => match v with
  | .ref n => match S[n]? with
    | some (.lst _) => true
    | _ => false
  | _ => false
theorem tyL : TyA K "list" isL := by
  intro m S H u v R r h
  unfold isL at h
  split at h
  · split at h
    · next n _ vs en =>
      cases r with
      | ref ha =>
        obtain ⟨xs, hx, rx⟩ := R.ob _ _ _ en ha
        exact .inl ⟨rfl, xs, SqL.of hx⟩
    · cases h
  · cases h
def gApp : Val → List Val → Sto → Option (Val × Sto) := fun x xs S => match x, xs with
  | .ref n, [v] => match S[n]? with
    | some (.lst vs) => if vs.length < sizeLine then some (.non, S.set n (.lst (vs ++ [v]))) else none
    | _ => none
  | _, _ => none
theorem mApp : MtA K rAppend gApp := by
  intro m S H x xs v S' u us Q R ru rus e q
  unfold gApp at e
  split at e
  · split at e
    · next n v0 _ vs en =>
      split at e
      · next hl =>
        cases e
        cases ru with
        | ref ha =>
          obtain ⟨y, rfl, r1⟩ := rus.one_of
          obtain ⟨xs, hx, rx⟩ := R.ob _ _ _ en ha
          refine ⟨_, xs, y, rfl, rfl, hx, by rw [rx.len]; exact hl, ?_⟩
          have hm := List.mem_of_getElem? ha
          have k : Kp m H m (upd H _ (.lst (xs ++ [y]))) := R.kput hm
          obtain ⟨R2, E2⟩ := R.put (o := .lst (xs ++ [y])) (b := .lst (vs ++ [v0])) ha ⟨_, upd_same, (rx.kp k).app (r1.kp k).one⟩
          exact q m _ _ E2 R2 .non
      · cases e
    · cases e
  · cases e
def gPop : Val → List Val → Sto → Option (Val × Sto) := fun x xs S => match x, xs with
  | .ref n, [.int i] => match S[n]? with
    | some (.lst vs) => if -(2 ^ 63) ≤ i ∧ i < 2 ^ 63 then match seqIndex? i vs.length with
      | some k => match vs[k]? with
        | some y => some (y, S.set n (.lst (vs.eraseIdx k)))
        | none => none
      | none => none
      else none
    | _ => none
  | _, _ => none
theorem VRs.erase {H : Hp} {m : List Addr} : ∀ {us : List V} {vs : List Val} (n : Nat), VRs K H m us vs → VRs K H m (us.eraseIdx n) (vs.eraseIdx n)
  | _, _, _, .nil => .nil
  | _, _, 0, .cons a q => q
  | _, _, n + 1, .cons a q => .cons a (q.erase n)
theorem mPop : MtA K rPopAt gPop := by
  intro m S H x xs v S' u us Q R ru rus e q
  unfold gPop at e
  split at e
  · split at e
    · next n i _ vs en =>
      split at e
      · next hb =>
        split at e
        · next k ek =>
          split at e
          · next y ey =>
            cases e
            cases ru with
            | ref ha =>
              obtain ⟨z, rfl, r1⟩ := rus.one_of
              cases r1
              obtain ⟨xs, hx, rx⟩ := R.ob _ _ _ en ha
              obtain ⟨w, hw, rw_⟩ := rx.get ey
              refine ⟨_, xs, i, k, w, rfl, rfl, hx, hb.1, hb.2, by rw [rx.len]; exact ek, hw, ?_⟩
              have hm := List.mem_of_getElem? ha
              have kk : Kp m H m (upd H _ (.lst (xs.eraseIdx k))) := R.kput hm
              obtain ⟨R2, E2⟩ := R.put (o := .lst (xs.eraseIdx k)) (b := .lst (vs.eraseIdx k)) ha ⟨_, upd_same, (rx.kp kk).erase k⟩
              exact q m _ _ E2 R2 (rw_.kp kk)
          · cases e
        · cases e
      · cases e
    · cases e
  · cases e
def gSet : Val → Val → Val → Sto → Option Sto := fun o i v S => match o, i with
  | .ref n, .int k => match S[n]? with
    | some (.lst vs) => match ixN vs.length k with
      | some j => some (S.set n (.lst (vs.set j v)))
      | none => none
    | _ => none
  | _, _ => none
theorem stL : SetA K rSetL gSet := by
  intro m S H o i v S' uo ui u Q R ro ri rv e q
  unfold gSet at e
  split at e
  · split at e
    · next n k _ vs en =>
      split at e
      · next j ej =>
        cases e
        cases ri
        cases ro with
        | ref ha =>
          obtain ⟨xs, hx, rx⟩ := R.ob _ _ _ en ha
          have hm := List.mem_of_getElem? ha
          have kk : Kp m H m (upd H _ (.lst (xs.set j u))) := R.kput hm
          obtain ⟨R2, E2⟩ := R.put (o := .lst (xs.set j u)) (b := .lst (vs.set j v)) ha ⟨_, upd_same, (rx.kp kk).set (rv.kp kk) j⟩
          exact ⟨_, xs, k, j, rfl, rfl, hx, by rw [rx.len]; exact ej, q _ E2 R2⟩
      · cases e
    · cases e
  · cases e
def isNon : Val → Bool
  | .non => true
  | _ => false
def gIs : Val → Val → Sto → Option (Val × Sto) := fun x y S => match y with
  | .non => some (.bl (isNon x), S)
  | _ => none
def gIsN : Val → Val → Sto → Option (Val × Sto) := fun x y S => match y with
  | .non => some (.bl (!isNon x), S)
  | _ => none
theorem VR.isNon {H : Hp} {m : List Addr} {u : V} {v : Val} (r : VR K H m u v) : decide (u = .non) = AL.isNon v := by
  cases r <;> rfl
theorem oIs : OpA K (fun x y H Q => y = .non ∧ Q (.bl (decide (x = .non))) H) gIs := by
  intro m S H x y v S' u w Q R ru rw_ e q
  cases y <;> simp only [gIs] at e <;> try cases e
  cases rw_
  exact ⟨rfl, by rw [ru.isNon]; exact q m _ H (.refl _ _) R (.bl _)⟩
theorem oIsN : OpA K (fun x y H Q => y = .non ∧ Q (.bl (!decide (x = .non))) H) gIsN := by
  intro m S H x y v S' u w Q R ru rw_ e q
  cases y <;> simp only [gIsN] at e <;> try cases e
  cases rw_
  exact ⟨rfl, by rw [ru.isNon]; exact q m _ H (.refl _ _) R (.bl _)⟩
end
end AL
namespace Th
open PySem PySem.Spec PyProof.Rows L2 G
def But (f : Addr) (H H' : Hp) : Prop := ∀ b o, b ≠ f → H b = some o → H' b = some o
theorem But.of {f : Addr} {H H' : Hp} (a : Same H H') : But f H H' := fun x o _ e => a x o e
mutual
inductive Tr (f : Addr) (H : Hp) : V → PyData → Prop
  | non : Tr f H .non .none
  | bl (b : Bool) : Tr f H (.bl b) (.bool b)
  | int (i : Int) : Tr f H (.int i) (.int i)
  | str (x : Str) : Tr f H (.str x) (.str x)
  | lst {a : Addr} {xs : List V} {ds : List PyData} : a ≠ f → H a = some (.lst xs) → TrAll f H xs ds → Tr f H (.ref a) (.list ds)
  | tup {a : Addr} {xs : List V} {ds : List PyData} : a ≠ f → H a = some (.tup xs) → TrAll f H xs ds → Tr f H (.ref a) (.tuple ds)
inductive TrAll (f : Addr) (H : Hp) : List V → List PyData → Prop
  | nil : TrAll f H [] []
  | cons {v : V} {vs : List V} {d : PyData} {ds : List PyData} : Tr f H v d → TrAll f H vs ds → TrAll f H (v :: vs) (d :: ds)
end
section
variable {f : Addr} {H H' : Hp}
mutual
theorem Tr.keep (k : But f H H') : ∀ (d : PyData) (v : V), Tr f H v d → Tr f H' v d
  | .none, _, h => by cases h; exact .non
  | .bool b, _, h => by cases h; exact .bl _
  | .int i, _, h => by cases h; exact .int _
  | .str x, _, h => by cases h; exact .str _
  | .list ds, _, h => by
    cases h with
    | lst n e r => exact .lst n (k _ _ n e) (TrAll.keep k ds _ r)
  | .tuple ds, _, h => by
    cases h with
    | tup n e r => exact .tup n (k _ _ n e) (TrAll.keep k ds _ r)
  | .dict _, _, h => by cases h
theorem TrAll.keep (k : But f H H') : ∀ (ds : List PyData) (vs : List V), TrAll f H vs ds → TrAll f H' vs ds
  | [], _, h => by cases h; exact .nil
  | d :: ds, _, h => by
    cases h with
    | cons a r => exact .cons (Tr.keep k d _ a) (TrAll.keep k ds _ r)
end
theorem Tr.k {v : V} {d : PyData} (h : Tr f H v d) (k : But f H H') : Tr f H' v d := Tr.keep k d v h
theorem TrAll.k {vs : List V} {ds : List PyData} (h : TrAll f H vs ds) (k : But f H H') : TrAll f H' vs ds := TrAll.keep k ds vs h
mutual
theorem Tr.dpA (K : PySem.W.Frag) : ∀ (d : PyData) (v : V), Tr f H v d → Dp K H v d
  | .none, _, h => by cases h; exact .non
  | .bool b, _, h => by cases h; exact .bl _
  | .int i, _, h => by cases h; exact .int _
  | .str x, _, h => by cases h; exact .str _
  | .list ds, _, h => by
    cases h with
    | lst n e r => exact .lst (SqL.of e) (TrAll.dpA K ds _ r)
  | .tuple ds, _, h => by
    cases h with
    | tup n e r => exact .tup (SqT.of e) (TrAll.dpA K ds _ r)
  | .dict _, _, h => by cases h
theorem TrAll.dpA (K : PySem.W.Frag) : ∀ (ds : List PyData) (vs : List V), TrAll f H vs ds → DpAll K H vs ds
  | [], _, h => by cases h; exact .nil
  | d :: ds, _, h => by
    cases h with
    | cons a r => exact .cons (Tr.dpA K d _ a) (TrAll.dpA K ds _ r)
end
theorem Tr.dp {K : PySem.W.Frag} {v : V} {d : PyData} (h : Tr f H v d) : Dp K H v d := Tr.dpA K d v h
theorem TrAll.dp {K : PySem.W.Frag} {vs : List V} {ds : List PyData} (h : TrAll f H vs ds) : DpAll K H vs ds := TrAll.dpA K ds vs h
theorem TrAll.len : ∀ {vs : List V} {ds : List PyData}, TrAll f H vs ds → vs.length = ds.length
  | _, _, .nil => rfl
  | _, _, .cons _ r => by rw [List.length_cons, List.length_cons, r.len]
theorem TrAll.app : ∀ {vs us : List V} {ds es : List PyData}, TrAll f H vs ds → TrAll f H us es → TrAll f H (vs ++ us) (ds ++ es)
  | _, _, _, _, .nil, r => r
  | _, _, _, _, .cons a q, r => .cons a (q.app r)
theorem TrAll.get : ∀ {vs : List V} {ds : List PyData} {i : Nat} {v : V}, TrAll f H vs ds → vs[i]? = some v → ∃ d, ds[i]? = some d ∧ Tr f H v d
  | _, _, _, _, .nil, e => by simp at e
  | _, _, 0, _, .cons a q, e => by
    cases e
    exact ⟨_, rfl, a⟩
  | _, _, i + 1, _, .cons a q, e => q.get (i := i) e
theorem TrAll.take : ∀ {vs : List V} {ds : List PyData} (n : Nat), TrAll f H vs ds → TrAll f H (vs.take n) (ds.take n)
  | _, _, 0, _ => .nil
  | _, _, _ + 1, .nil => .nil
  | _, _, n + 1, .cons a r => .cons a (TrAll.take n r)
theorem TrAll.set : ∀ {vs : List V} {ds : List PyData} {v : V} {d : PyData} (n : Nat), TrAll f H vs ds → Tr f H v d → TrAll f H (vs.set n v) (ds.set n d)
  | _, _, _, _, _, .nil, _ => .nil
  | _, _, _, _, 0, .cons _ r, h => .cons h r
  | _, _, _, _, n + 1, .cons a r, h => .cons a (TrAll.set n r h)
theorem Tr.one {v : V} {d : PyData} (h : Tr f H v d) : TrAll f H [v] [d] := .cons h .nil

def ty : PyData → String
  | .none => "NoneType"
  | .bool _ => "bool"
  | .int _ => "int"
  | .str _ => "str"
  | .list _ => "list"
  | .tuple _ => "tuple"
  | .dict _ => "dict"
end
mutual
def okD : PyData → Bool
  | .none => true
  | .bool _ => true
  | .int i => decide (i.natAbs < 2 ^ 900)
  | .str x => PyData.strOk x
  | .list xs => okAll xs
  | .tuple xs => okAll xs
  | .dict _ => false
def okAll : List PyData → Bool
  | [] => true
  | x :: xs => okD x && okAll xs
end
theorem okAll_iff : ∀ {ds : List PyData}, okAll ds = true ↔ ∀ d ∈ ds, okD d = true
  | [] => by simp [okAll]
  | d :: ds => by
    rw [show okAll (d :: ds) = (okD d && okAll ds) from rfl, Bool.and_eq_true, okAll_iff, List.forall_mem_cons]
mutual
theorem ok_show : ∀ d : PyData, okD d = true → d.showable = true ∧ d.hasDict = false ∧ d.canLay0 = true ∧ d.leavesShort 320 = true
  | .none, _ => ⟨rfl, rfl, rfl, rfl⟩
  | .bool _, _ => ⟨rfl, rfl, rfl, rfl⟩
  | .int i, h => by
    have h : i.natAbs < 2 ^ 900 := of_decide_eq_true h
    have l : i.natAbs.log2 < 900 := PySem.Flt.log2_lt_of (by decide) h
    refine ⟨decide_eq_true (by omega), rfl, rfl, ?_⟩
    have t := int_text_length_le10 (a := i) (k := 300) (by decide) (Nat.lt_trans h (by decide))
    show decide ((PyData.shown (.int i)).length ≤ 320) = true
    have e : (PyData.shown (.int i)).length = (toString i).length := by
      show (Str.ofString (toString i)).length = _
      exact PySem.ofString_length _
    rw [e]
    exact decide_eq_true (by omega)
  | .str x, h => by
    refine ⟨rfl, rfl, h, ?_⟩
    show (x.cps.toList.all fun c => decide (c < 16 ^ 8)) = true
    have h2 : x.cps.all (· < 0x110000) = true := h
    rw [List.all_eq_true]
    intro c hc
    have h3 := (Array.all_eq_true_iff_forall_mem.mp h2) c (by simpa using hc)
    have h4 : c < 0x110000 := of_decide_eq_true h3
    exact decide_eq_true (by omega)
  | .list xs, h => ok_showAll xs h
  | .tuple xs, h => ok_showAll xs h
  | .dict _, h => by cases (h : false = true)
theorem ok_showAll : ∀ ds : List PyData, okAll ds = true → PyData.showableAll ds = true ∧ PyData.hasDictAll ds = false ∧ PyData.canLayAll0 ds = true ∧ PyData.leavesShortAll 320 ds = true
  | [], _ => ⟨rfl, rfl, rfl, rfl⟩
  | d :: ds, h => by
    have h : (okD d && okAll ds) = true := h
    rw [Bool.and_eq_true] at h
    obtain ⟨a1, a2, a3, a4⟩ := ok_show d h.1
    obtain ⟨b1, b2, b3, b4⟩ := ok_showAll ds h.2
    refine ⟨?_, ?_, ?_, ?_⟩
    · show (PyData.showable d && PyData.showableAll ds) = true
      rw [a1, b1]; rfl
    · show (PyData.hasDict d || PyData.hasDictAll ds) = false
      rw [a2, b2]; rfl
    · show (PyData.canLay0 d && PyData.canLayAll0 ds) = true
      rw [a3, b3]; rfl
    · show (PyData.leavesShort 320 d && PyData.leavesShortAll 320 ds) = true
      rw [a4, b4]; rfl
end

structure Fine (w n : Nat) (d : PyData) : Prop where
  ok : okD d = true
  wt : d.weight ≤ w
  dp : d.depth ≤ n
theorem Fine.shown {w n : Nat} {d : PyData} (h : Fine w n d) (hw : w ≤ 40000) : d.shown.length ≤ sizeLine := by
  have z := PyData.shown_le 320 (by decide) d (ok_show d h.ok).2.2.2
  have e : sizeLine = 16777216 := rfl
  have := h.wt
  omega
theorem Fine.shaped {w n : Nat} {d : PyData} (h : Fine w n d) (hn : n ≤ 64) : SeqAt.shaped d = true := by
  show (d.canLay0 && decide (d.depth ≤ 64)) = true
  rw [Bool.and_eq_true]
  exact ⟨(ok_show d h.ok).2.2.1, decide_eq_true (Nat.le_trans h.dp hn)⟩
end Th
namespace ZT
open PySem PySem.Spec PyProof.Rows L2
abbrev J1 (h : Heap) (t : Addr) : Heap := h.push { cls := .type "tuple_iterator", data := .fields #[.ref t, .int 0 0] }
abbrev J2 (h : Heap) (t l : Addr) : Heap := (J1 h t).push { cls := .type "list_iterator", data := .fields #[.ref l, .int 0 0] }
abbrev J3 (h : Heap) (t l : Addr) : Heap := (J2 h t l).push { cls := .type "tuple", data := .seq #[.ref h.objs.size, .ref (J1 h t).objs.size] }
abbrev J4 (h : Heap) (t l : Addr) : Heap := (J3 h t l).push { cls := .type "tuple", data := .seq #[.none, .none] }
abbrev J5 (h : Heap) (t l : Addr) : Heap := (J4 h t l).push { cls := .type "zip", data := .fields #[.none, .bool false, .bool false, .ref (J2 h t l).objs.size, .ref (J3 h t l).objs.size] }
theorem new_zipTL (t l : Addr) (xs ys : Array Value) :
    Meets (Builtin.«zip.__new__» ⟨[.type "zip", .ref t, .ref l], []⟩) (fun _ R s => s.heap.IsTuple t xs ∧ s.heap.IsList l ys ∧
      R (.ok (.ret (.ref (J4 s.heap t l).objs.size))) { s with heap := J5 s.heap t l }) :=
  .of_wp fun prog w A R s h => by
    obtain ⟨hp, g, d, tk, os⟩ := s
    obtain ⟨h1, h2, h⟩ := h
    have hsub := sub_zip
    have a1 : Heap.IsTuple (Shared.heap ⟨hp, g, d, tk, os⟩) t xs := h1
    have a2 : Heap.IsList (Shared.heap ⟨J1 hp t, g, d, tk, os⟩) l ys := Heap.IsList.push h2 _
    wp_walk using wpAny_pyIter_tuple a1, wpAny_pyIter_list a2
    exact ⟨_, rfl, h⟩
section
variable {prog : Program} {w : World} {A : Around} {E : Value → Shared → Prop} {s : Shared}
theorem call_zipTL {t l : Addr} {xs ys : Array Value} {Q : Value → Shared → Prop} (h1 : s.heap.IsTuple t xs) (h2 : s.heap.IsList l ys)
    (h : ∀ h', IsZip h' (s.heap.objs.size + 4) (s.heap.objs.size + 2) (s.heap.objs.size + 3) .none → IsTupOf2 h' (s.heap.objs.size + 2) (.ref s.heap.objs.size) (.ref (s.heap.objs.size + 1)) →
      IsTupOf2 h' (s.heap.objs.size + 3) .none .none → h'.IsTupleIter s.heap.objs.size t 0 → h'.IsListIter (s.heap.objs.size + 1) l 0 →
      (∀ c o, s.heap.get? c = some o → h'.get? c = some o) → Q (.ref (s.heap.objs.size + 4)) { s with heap := h' }) :
    wpAny (model prog w) A (call (.type "zip") [.ref t, .ref l]) Q E s := by
  refine callType_new F.called_zip (by decide) (F.typeCall_zip_2 _ _) (F.newCall_zip_2 _ _) (fun obj => F.args_object_init_3 obj _ _) F.entry_zip_new (new_zipTL t l xs ys) ⟨h1, h2, ?_⟩
  have z1 : (J1 s.heap t).objs.size = s.heap.objs.size + 1 := Heap.size_push ..
  have z2 : (J2 s.heap t l).objs.size = s.heap.objs.size + 2 := by rw [Heap.size_push, z1]
  have z3 : (J3 s.heap t l).objs.size = s.heap.objs.size + 3 := by rw [Heap.size_push, z2]
  have z4 : (J4 s.heap t l).objs.size = s.heap.objs.size + 4 := by rw [Heap.size_push, z3]
  have up : ∀ {k : Heap} {c : Addr} {o p : Obj}, k.get? c = some o → (k.push p).get? c = some o := fun e => Heap.get?_push_of_some _ e
  have g5 : (J5 s.heap t l).get? (J4 s.heap t l).objs.size = some _ := Heap.get?_push_size _ rfl
  have g4 : (J5 s.heap t l).get? (J3 s.heap t l).objs.size = some _ := up (Heap.get?_push_size _ rfl)
  have g3 : (J5 s.heap t l).get? (J2 s.heap t l).objs.size = some _ := up (up (Heap.get?_push_size _ rfl))
  have g2 : (J5 s.heap t l).get? (J1 s.heap t).objs.size = some _ := up (up (up (Heap.get?_push_size _ rfl)))
  have g1 : (J5 s.heap t l).get? s.heap.objs.size = some _ := up (up (up (up (Heap.get?_push_size _ rfl))))
  show _ ∧ _
  rw [z2, z3, z4] at g5
  rw [z1, z2] at g3
  rw [z3] at g4
  rw [z1] at g2
  rw [z4]
  exact ⟨⟨_, g5, rfl⟩, h _ g5 g3 g4 ⟨_, g1, rfl, rfl⟩ ⟨_, g2, rfl, rfl⟩ fun c o x => up (up (up (up (up x))))⟩
end

def ItzTL (K : PySem.W.Frag) (a b : Addr) : It where
  go := fun i H => ∃ (xs ys : List V) (x y : V), SqT K H a xs ∧ SqL K H b ys ∧ xs[i]? = some x ∧ ys[i]? = some y
  yld := fun i H v H' => ∃ T x y, v = .ref T ∧ H T = none ∧ H' = upd H T (.tup [x, y]) ∧ (∀ xs, SqT K H a xs → xs[i]? = some x) ∧ ∀ ys, SqL K H b ys → ys[i]? = some y
  stop := fun i H => ∃ xs ys : List V, SqT K H a xs ∧ SqL K H b ys ∧ xs.length = i ∧ ys.length = i
structure Ap (z TI TO i1 i2 a b : Addr) : Prop where
  sep : ZipSep2 z TI TO i1 i2 [i1, a] [i2, b]
  a1 : a ≠ i1
  b2 : b ≠ i2
theorem turn_zipTL {P : Program} {w : World} {K : PySem.W.Frag} {elts : List Expr} {kk : Nat} {tpos : Pos} {a b z TI TO i1 i2 : Addr} (D : Ap z TI TO i1 i2 a b) :
    Turn P w K (.Tuple elts kk tpos) (ItzTL K a b) [z, TI, TO, i1, i2] z (fun i h => IsZip h z TI TO .none ∧ IsTupOf2 h TI (.ref i1) (.ref i2) ∧ (∃ x y, IsTupOf2 h TO x y) ∧ h.IsTupleIter i1 a i ∧ h.IsListIter i2 b i) where
  mem := by simp
  obj := by
    rintro i h ⟨hz, hTI, ⟨x, y, hTO⟩, ⟨o1, e1, _, d1⟩, ⟨o2, e2, _, d2⟩⟩ c hc
    simp only [List.mem_cons, List.not_mem_nil, or_false] at hc
    rcases hc with rfl | rfl | rfl | rfl | rfl
    · exact ⟨_, hz, fun v q => nomatch q⟩
    · exact ⟨_, hTI, fun v q => nomatch q⟩
    · exact ⟨_, hTO, fun v q => nomatch q⟩
    · exact ⟨o1, e1, fun v q => by rw [d1] at q; cases q⟩
    · exact ⟨o2, e2, fun v q => by rw [d2] at q; cases q⟩
  keep := by
    rintro i h h' ⟨hz, hTI, ⟨x, y, hTO⟩, h1, h2⟩ k
    exact ⟨k z (by simp) _ hz, k TI (by simp) _ hTI, ⟨x, y, k TO (by simp) _ hTO⟩, h1.at fun o q => k i1 (by simp) o q, h2.at fun o q => k i2 (by simp) o q⟩
  item := by
    intro X hP hw hK hc i pins s σ H E I hf st hg
    subst hP hw hK
    obtain ⟨hz, hTI, ⟨x0, y0, hTO⟩, h1, h2⟩ := st
    obtain ⟨xs, ys, x, y, hqx, hqy, hx, hy⟩ := hg
    obtain ⟨its, rv, p, _⟩ := I.tuple hqx
    obtain ⟨its2, rv2, p2, _⟩ := I.list hqy
    obtain ⟨u, hu, ru⟩ := rv.get hx
    obtain ⟨u2, hu2, ru2⟩ := rv2.get hy
    have lz : z < s.heap.objs.size := Heap.lt_size hz
    have n1 : i < its.toArray.size := by simpa using (List.getElem?_eq_some_iff.mp hu).1
    have n2 : i < its2.toArray.size := by simpa using (List.getElem?_eq_some_iff.mp hu2).1
    refine wpAny_pyNext_zipD2_item D.sep (Draws.tuple (A := X.A.in1) (I.ok.hd hc) i1 a D.a1 its.toArray) (Draws.list (A := X.A.in1) (I.ok.hd hc) i2 b D.b2 its2.toArray) hz hTI hTO ⟨h1, p⟩ ⟨h2, p2.isList⟩ n1 n2 fun v1 v2 h' tk q1 q2 z' TO' s1 s2 hT hsz hk => ?_
    have e1 : v1 = u := by
      have a1 : its.toArray[i]? = some v1 := q1
      have a2 : its.toArray[i]? = some u := by simpa using hu
      rw [a2] at a1
      exact (Option.some.inj a1).symm
    have e2 : v2 = u2 := by
      have a1 : its2.toArray[i]? = some v2 := q2
      have a2 : its2.toArray[i]? = some u2 := by simpa using hu2
      rw [a2] at a1
      exact (Option.some.inj a1).symm
    subst e1 e2
    refine ⟨_, rfl, wpAny_letOwnedTupleGo_zip (s := { s with heap := h', toks := tk }) z' fun h'' z'' sb => ?_⟩
    have nw : h''.get? s.heap.objs.size = some { cls := .type "tuple", data := .seq #[v1, v2] } := (sb.2 _ (Nat.ne_of_gt lz)).trans hT
    have I1 : Inv X pins σ (upd H s.heap.objs.size (.tup [x, y])) { s with heap := h'', toks := tk } := by
      refine I.turnedNew (t' := tk) (ch := [z, TI, TO, i1, i2]) (fun c o hb q => ?_) hf (Nat.le_refl _) ⟨by show 2 ≤ sizeLine; decide, [v1, v2], .cons ru (.cons ru2 .nil), ⟨_, nw, rfl, _, rfl⟩⟩
      have c1 : c ≠ z := fun z => hb (by simp [z])
      have c2 : c ≠ TO := fun z => hb (by simp [z])
      have c3 : c ≠ i1 := fun z => hb (by simp [z])
      have c4 : c ≠ i2 := fun z => hb (by simp [z])
      exact (sb.2 c c1).trans (hk c o c1 c2 c3 c4 q)
    refine ⟨.ref s.heap.objs.size, _, I1, rfl, ⟨_, x, y, rfl, I.hok.fresh (Nat.le_refl _), rfl, fun l hl => by rw [I.tuple_inj hl hqx]; exact hx, fun l hl => by rw [I.list_inj hl hqy]; exact hy⟩, ⟨z'', ?_, ⟨v1, v2, ?_⟩, ?_, ?_⟩, fun c hcm => ?_⟩
    · exact (sb.2 _ D.sep.TIz).trans (hk _ _ D.sep.TIz D.sep.TITO D.sep.TIi1 D.sep.TIi2 hTI)
    · exact (sb.2 _ D.sep.TOz).trans TO'
    · exact s1.1.at fun o q => (sb.2 _ D.sep.zi1.symm).trans q
    · exact s2.1.at fun o q => (sb.2 _ D.sep.zi2.symm).trans q
    · have lc : c < s.heap.objs.size := by
        simp only [List.mem_cons, List.not_mem_nil, or_false] at hcm
        rcases hcm with rfl | rfl | rfl | rfl | rfl
        · exact lz
        · exact Heap.lt_size hTI
        · exact Heap.lt_size hTO
        · obtain ⟨_, e1, _⟩ := h1
          exact Heap.lt_size e1
        · obtain ⟨_, e2, _⟩ := h2
          exact Heap.lt_size e2
      rw [upd_ne (Nat.ne_of_lt lc)]
      exact (hf c hcm).1
  done := by
    intro X hP hw hK hc i pins s σ H E I hf st hg
    subst hP hw hK
    obtain ⟨hz, hTI, ⟨x0, y0, hTO⟩, h1, h2⟩ := st
    obtain ⟨xs, ys, hqx, hqy, l1, l2⟩ := hg
    obtain ⟨its, rv, p, _⟩ := I.tuple hqx
    obtain ⟨its2, rv2, p2, _⟩ := I.list hqy
    have n1 : i = its.toArray.size := by rw [← l1, rv.length]; simp
    have n2 : i = its2.toArray.size := by rw [← l2, rv2.length]; simp
    refine wpAny_pyNext_zipD2_end D.sep (Draws.tuple (A := X.A.in1) (I.ok.hd hc) i1 a D.a1 its.toArray) (Draws.list (A := X.A.in1) (I.ok.hd hc) i2 b D.b2 its2.toArray) hz hTI hTO ⟨h1, p⟩ ⟨h2, p2.isList⟩ (Nat.le_of_eq n1) (Nat.le_of_eq n2) (.inl n1) fun h' tk hk => ⟨rfl, ?_⟩
    refine I.turnedL (t' := tk) (ch := [z, TI, TO, i1, i2]) (fun c o hb q => ?_) hf
    exact hk c o (fun q' => hb (by simp [q'])) (fun q' => hb (by simp [q'])) (fun q' => hb (by simp [q'])) (fun q' => hb (by simp [q'])) q
  self := fun A i s Q E st h => wpAny_pyIter_zip st.1 h
theorem notin {x a b : Addr} (h1 : x ≠ a) (h2 : x ≠ b) : x ∉ [a, b] := fun z => by
  simp only [List.mem_cons, List.not_mem_nil, or_false] at z
  exact z.elim h1 h2
def iZipTL (K : PySem.W.Frag) (ta : TA) : TI := fun σ H R => ta σ H fun vs H1 => ∃ a b xs ys, vs = [.ref a, .ref b] ∧ SqT K H1 a xs ∧ SqL K H1 b ys ∧ R (ItzTL K a b) H1
theorem pi_zipTL {X : Cx} {e e2 : Expr} {ta : TA} {p pos tpos : Pos} {elts : List Expr} {kk : Nat} (hg : Gl X "zip") (hm : X.mg "zip" = none) (ha : PA X [e, e2] ta)
    (hs : starEach [e, e2] X.env = (false, eval e X.env) :: starEach [e2] X.env := by rfl) (hpl : (backTo pos (starEach [e2] X.env)).any (·.1) = false := by rfl) :
    PI X (.Tuple elts kk tpos) (.Call (.Name "zip" p) [e, e2] [] pos) (iZipTL X.K ta) := by
  constructor
  intro pins s σ H R I h
  refine Call_ (ld_blt I hg hm PyProof.Rows.boot_zip (PyProof.Rows.callWith_type1 (thn (ha.run pos pins s σ H _ I h) ?_) hs hpl))
  rintro us s1 ⟨vs, H1, I1, r1, a, b, xs, ys, rfl, hqx, hqy, q⟩
  obtain ⟨u, v, rfl, ru, rv'⟩ := vals2 r1
  cases ru
  cases rv'
  obtain ⟨its, rv, p1, _⟩ := I1.tuple hqx
  obtain ⟨its2, rv2, p2, _⟩ := I1.list hqy
  have la : a < s1.heap.objs.size := by
    obtain ⟨o, ho, _⟩ := p1
    exact Heap.lt_size ho
  have lb : b < s1.heap.objs.size := by
    obtain ⟨o, n, ho, _⟩ := p2
    exact Heap.lt_size ho
  generalize hN : s1.heap.objs.size = N at la lb
  refine call_zipTL p1 p2.isList fun h' hz hTI hTO h1 h2 hk => wpAny_pyIter_zip hz ?_
  rw [hN] at hz hTI hTO h1 h2 ⊢
  have D : Ap (N + 4) (N + 2) (N + 3) N (N + 1) a b := by
    have big : ∀ {c : Addr} (k : Nat), c < N → N + k ≠ c := fun k h => Nat.ne_of_gt (Nat.lt_of_lt_of_le h (Nat.le_add_right _ _))
    have dif : ∀ {k m : Nat}, k ≠ m → N + k ≠ N + m := fun h z => h (Nat.add_left_cancel z)
    have dif0 : ∀ {k : Nat}, 0 < k → N + k ≠ N := fun h => Nat.ne_of_gt (Nat.lt_add_of_pos_right h)
    exact ⟨⟨dif (by decide), dif (by decide), dif (by decide), dif0 (by decide), by simp, notin (dif0 (by decide)) (big 4 la), notin (dif0 (by decide)) (big 3 la), dif (by decide), by simp, notin (dif (by decide)) (big 4 lb), notin (dif (by decide)) (big 3 lb),
      notin (dif0 (by decide)).symm (big 0 lb), notin (dif0 (by decide)) (big 1 la)⟩, Nat.ne_of_lt la, Nat.ne_of_lt (Nat.lt_succ_of_lt lb)⟩
  refine ⟨N + 4, [N + 4, N + 2, N + 3, N, N + 1], _, _, H1, rfl, I1.kept (t' := s1.toks) hk, turn_zipTL D, ⟨hz, hTI, ⟨_, _, hTO⟩, h1, h2⟩, fun c hc => ?_, q⟩
  have le : s1.heap.objs.size ≤ c := by
    rw [hN]
    simp only [List.mem_cons, List.not_mem_nil, or_false] at hc
    rcases hc with rfl | rfl | rfl | rfl | rfl
    · exact Nat.le_add_right _ _
    · exact Nat.le_add_right _ _
    · exact Nat.le_add_right _ _
    · exact Nat.le_refl _
    · exact Nat.le_add_right _ _
  exact I1.fpOk le (I1.hok.fresh le)
end ZT
namespace AL
open PySem PySem.Spec PyProof.Rows L2 G Th
variable [TT]
def mapO {α β : Type} (f : α → Option β) : List α → Option (List β)
  | [] => some []
  | a :: as => (f a).bind fun b => (mapO f as).bind fun bs => some (b :: bs)
def toD (S : Sto) : Nat → Val → Option PyData
  | 0, _ => none
  | n + 1, v => match v with
    | .non => some .none
    | .bl b => some (.bool b)
    | .int i => some (.int i)
    | .str x => some (.str x)
    | .tup vs => (mapO (toD S n) vs).map .tuple
    | .ref k => match S[k]? with
      | some (.lst vs) => (mapO (toD S n) vs).map .list
      | _ => none
    | .scr _ => none
    | .lam _ _ _ _ _ => none
    | .exc _ _ _ _ => none
    | .ptu _ => none
section
variable {X : Cx} {K : PySem.W.Frag}
theorem toD_dp {m : List Addr} {S : Sto} {H : Hp} (R : Rel K m S H) : ∀ (n : Nat) (v : Val) (u : V) (d : PyData), VR K H m u v → toD S n v = some d → Dp K H u d
  | 0, _, _, _, _, h => by cases h
  | n + 1, v, u, d, r, h => by
    have go : ∀ (vs : List Val) (us : List V) (ds : List PyData), VRs K H m us vs → mapO (toD S n) vs = some ds → DpAll K H us ds := by
      intro vs
      induction vs with
      | nil =>
        intro us ds r h
        cases r
        cases h
        exact .nil
      | cons v vs ih =>
        intro us ds r h
        cases r with
        | cons a b =>
          obtain ⟨d1, h1, h⟩ := Option.bind_eq_some_iff.mp h
          obtain ⟨ds1, h2, h⟩ := Option.bind_eq_some_iff.mp h
          cases h
          exact .cons (toD_dp R n v _ d1 a h1) (ih _ _ b h2)
    unfold toD at h
    split at h
    · cases h; cases r; exact .non
    · cases h; cases r; exact .bl _
    · cases h; cases r; exact .int _
    · cases h; cases r; exact .str _
    · obtain ⟨ds, h1, h2⟩ := Option.map_eq_some_iff.mp h
      cases h2
      cases r with
      | tup ha ra => exact .tup ha.sq (go _ _ _ ra h1)
    · split at h
      · next k _ vs en =>
        obtain ⟨ds, h1, h2⟩ := Option.map_eq_some_iff.mp h
        cases h2
        cases r with
        | ref ha =>
          obtain ⟨xs, hx, rx⟩ := R.ob _ _ _ en ha
          exact .lst (SqL.of hx) (go _ _ _ rx h1)
      · cases h
    · cases h
    · cases h
    · cases h
    · cases h
open Classical in
noncomputable def gRepr : List Val → Sto → Option (Val × Sto) := fun xs S => match xs with
  | [v] => match toD S 40 v with
    | some d => if okD d = true ∧ d.weight ≤ 40000 ∧ d.depth ≤ 40 then some (.str d.shown, S) else none
    | none => none
  | _ => none
def rReprA (K : PySem.W.Frag) : List V → Hp → VK → Prop := fun xs H Q => ∃ (v : V) (d : PyData) (w n : Nat), xs = [v] ∧ Dp K H v d ∧ Fine w n d ∧ w ≤ 40000 ∧ n ≤ 40 ∧ Q (.str d.shown) H
theorem call_reprA (hg : X.A.guards = some []) (hu : X.A.units + 64 < cLine) : CallR X (.builtin "repr") (rReprA X.K) := by
  intro pins s σ H xs us Q I r h
  obtain ⟨v, d, w, n, rfl, hT, hF, hw, hn, q⟩ := h
  obtain ⟨u, rfl, ru⟩ := r.one
  obtain ⟨o1, o2, o3, o4⟩ := ok_show d hF.ok
  have sz := hF.shown hw
  obtain ⟨as, rd⟩ := Dp.reads I d _ _ hT ru
  have e1 : ∀ a, u = .ref a → wpAny (model X.prog X.w) X.A (call (.builtin "repr") [u]) (EP X pins σ Q) X.xe s := by
    rintro a rfl
    refine repr_of_reads' rd o1 (fun z => ?_) hg (by have := hF.dp; omega) (fun b o e => e) (fun h' t tk hk => ?_) sz
    · rw [o2] at z
      cases z
    · exact ⟨.str d.shown, H, I.kept hk, ⟨t, rfl⟩, q⟩
  cases hT with
  | non => cases ru; exact PySem.P.repr_of_none ⟨.str _, H, I.tok _, ⟨_, rfl⟩, q⟩
  | bl b => cases ru; exact PySem.P.repr_of_bool ⟨.str _, H, I.tok _, ⟨_, rfl⟩, q⟩
  | int i =>
    obtain ⟨t, rfl⟩ := ru
    exact PySem.P.repr_of_int (of_decide_eq_true o1) ⟨.str _, H, I.tok _, ⟨_, rfl⟩, q⟩
  | str x =>
    obtain ⟨t, rfl⟩ := ru
    exact PySem.P.repr_of_str ⟨.str _, H, I.tok _, ⟨_, rfl⟩, q⟩ sz
  | lst _ _ => cases ru; exact e1 _ rfl
  | tup _ _ => cases ru; exact e1 _ rfl
theorem cRepr : CaA K (rReprA K) gRepr := by
  intro m S H xs v S' us Q R ru e q
  unfold gRepr at e
  split at e
  · split at e
    · next v0 d ed =>
      split at e
      · next hok =>
        cases e
        obtain ⟨u, rfl, r1⟩ := ru.one_of
        exact ⟨u, d, d.weight, d.depth, rfl, toD_dp R 40 _ u d r1 ed, ⟨hok.1, Nat.le_refl _, Nat.le_refl _⟩, hok.2.1, hok.2.2, q m _ H (.refl _ _) R (.str _)⟩
      · cases e
    · cases e
  · cases e
def eqS : Val → Val → Option Bool
  | .int a, .int b => some (decide (a = b))
  | .str a, .str b => some (decide (a = b))
  | .bl a, .bl b => some (decide (a = b))
  | .non, .non => some true
  | .non, .int _ => some false
  | .int _, .non => some false
  | .non, .str _ => some false
  | .str _, .non => some false
  | .non, .bl _ => some false
  | .bl _, .non => some false
  | .int _, .str _ => some false
  | .str _, .int _ => some false
  | .str _, .bl _ => some false
  | .bl _, .str _ => some false
  | _, _ => none
def eqA (S : Sto) (x y : Val) : Option Bool := match eqS x y with
  | some b => some b
  | none => match toD S 40 x, toD S 40 y with
    | some d, some e => if SeqAt.shaped d = true ∧ SeqAt.shaped e = true then some (PyData.eqv d e) else none
    | _, _ => none
def gEq : Val → Val → Sto → Option (Val × Sto) := fun x y S => (eqA S x y).map fun b => (.bl b, S)
def gNe : Val → Val → Sto → Option (Val × Sto) := fun x y S => (eqA S x y).map fun b => (.bl (!b), S)
theorem eqS_ok {H : Hp} {m : List Addr} {x y : Val} {u w : V} {b : Bool} (ru : VR K H m u x) (rw_ : VR K H m w y) (h : eqS x y = some b) : scal u w = true ∧ decide (u = w) = b := by
  unfold eqS at h
  split at h <;> first | cases h | skip
  all_goals first
    | (cases ru; cases rw_; refine ⟨rfl, ?_⟩; simp)
    | skip
def rEqA (K : PySem.W.Frag) : R2 := fun x y H Q => rEq x y H Q ∨ rEqD K x y H Q
def rNeA (K : PySem.W.Frag) : R2 := fun x y H Q => rNe x y H Q ∨ rNeD K x y H Q
theorem op_eqA (hu : X.A.units + 64 < cLine) : OpR X (compareOp .Eq) (rEqA X.K) := op_eq.or (op_eqD hu)
theorem op_neA (hu : X.A.units + 64 < cLine) : OpR X (compareOp .NotEq) (rNeA X.K) := op_ne.or (op_neD hu)
theorem oEq : OpA K (rEqA K) gEq := by
  intro m S H x y v S' u w Q R ru rw_ e q
  obtain ⟨b, e1, e2⟩ := Option.map_eq_some_iff.mp e
  cases e2
  unfold eqA at e1
  split at e1
  · next b' es =>
    cases e1
    obtain ⟨h1, h2⟩ := eqS_ok ru rw_ es
    exact .inl ⟨h1, by rw [h2]; exact q m _ H (.refl _ _) R (.bl _)⟩
  · split at e1
    · next d1 d2 g1 g2 =>
      split at e1
      · next hs =>
        cases e1
        exact .inr ⟨d1, d2, toD_dp R 40 _ _ _ ru g1, toD_dp R 40 _ _ _ rw_ g2, hs.1, hs.2, q m _ H (.refl _ _) R (.bl _)⟩
      · cases e1
    · cases e1
theorem oNe : OpA K (rNeA K) gNe := by
  intro m S H x y v S' u w Q R ru rw_ e q
  obtain ⟨b, e1, e2⟩ := Option.map_eq_some_iff.mp e
  cases e2
  unfold eqA at e1
  split at e1
  · next b' es =>
    cases e1
    obtain ⟨h1, h2⟩ := eqS_ok ru rw_ es
    exact .inl ⟨h1, by rw [h2]; exact q m _ H (.refl _ _) R (.bl _)⟩
  · split at e1
    · next d1 d2 g1 g2 =>
      split at e1
      · next hs =>
        cases e1
        exact .inr ⟨d1, d2, toD_dp R 40 _ _ _ ru g1, toD_dp R 40 _ _ _ rw_ g2, hs.1, hs.2, q m _ H (.refl _ _) R (.bl _)⟩
      · cases e1
    · cases e1
def iSeq (f : EF) : IF := fun ρ S => (f ρ S).bind fun p => match p.1 with
  | .tup vs => some (vs, fun _ => True, p.2)
  | .ref n => match p.2[n]? with
    | some (.lst vs) => some (vs, fun S => S[n]? = some (.lst vs), p.2)
    | _ => none
  | _ => none
theorem it_tup {a : Addr} {m0 : List Addr} {H0 : Hp} {xs : List V} {vs : List Val} {S0 : Sto} (R0 : Rel K m0 S0 H0) (ha : TupAt K H0 a xs) (r : VRs K H0 m0 xs vs) : ItA K (Itt K a) m0 H0 vs (fun _ => True) := by
  refine ⟨fun i m S H E R _ v hv => ?_, fun m S H E R _ => ?_⟩
  · have k := E.kp R0
    obtain ⟨u, hu, ru⟩ := (r.kp k).get hv
    refine ⟨⟨xs, u, (ha.kp k).sq, hu⟩, fun x H' hy => ?_⟩
    obtain ⟨rfl, hx⟩ := hy
    have e := hx xs (ha.kp k).sq
    rw [hu] at e
    cases e
    exact ⟨R, .refl _ _, ru⟩
  · exact ⟨xs, (ha.kp (E.kp R0)).sq, by rw [r.len]; exact Nat.le_refl _⟩
theorem it_lst {n : Nat} {a : Addr} {m0 : List Addr} {H0 : Hp} {vs : List Val} (hn : m0[n]? = some a) : ItA K (Itl K a) m0 H0 vs (fun S => S[n]? = some (.lst vs)) := by
  have get : ∀ {m : List Addr} {S : Sto} {H : Hp}, Ext m0 H0 m H → Rel K m S H → S[n]? = some (.lst vs) → ∃ xs, H a = some (.lst xs) ∧ VRs K H m xs vs := fun {m S H} E R h => by
    have hm : m[n]? = some a := by
      obtain ⟨r, rfl⟩ := E.pre
      rw [List.getElem?_append_left (List.getElem?_eq_some_iff.mp hn).1]
      exact hn
    exact R.ob _ _ _ h hm
  refine ⟨fun i m S H E R ok v hv => ?_, fun m S H E R ok => ?_⟩
  · obtain ⟨xs, hx, rx⟩ := get E R ok
    obtain ⟨u, hu, ru⟩ := rx.get hv
    refine ⟨⟨xs, u, SqL.of hx, hu⟩, fun x H' hy => ?_⟩
    obtain ⟨rfl, hq⟩ := hy
    have e := hq xs (SqL.of hx)
    rw [hu] at e
    cases e
    exact ⟨R, .refl _ _, ru⟩
  · obtain ⟨xs, hx, rx⟩ := get E R ok
    exact ⟨xs, SqL.of hx, by rw [rx.len]; exact Nat.le_refl _⟩
theorem ais {tg e : Expr} {f : EF} (he : AE X e f) : AI X tg e (iSeq f) := pi_w (PI.or (pi_tup he) (pi_list he)) fun σ H W h => by
  obtain ⟨m, ρ, S, vs, ok, S', R, r, e, q⟩ := h
  obtain ⟨⟨x, S1⟩, e1, e⟩ := Option.bind_eq_some_iff.mp e
  dsimp only at e
  split at e
  · cases e
    refine .inl ⟨m, ρ, S, _, _, R, r, e1, fun m1 u H1 E1 R1 r1 => ?_⟩
    cases r1 with
    | tup ha ra => exact ⟨_, rfl, ⟨_, ha.sq⟩, q m1 H1 _ E1 R1 (it_tup R1 ha ra)⟩
  · split at e
    · next n _ vs' en =>
      cases e
      refine .inr ⟨m, ρ, S, _, _, R, r, e1, fun m1 u H1 E1 R1 r1 => ?_⟩
      cases r1 with
      | ref ha =>
        obtain ⟨xs, hx, rx⟩ := R1.ob _ _ _ en ha
        exact ⟨_, rfl, ⟨_, SqL.of hx⟩, q m1 H1 _ E1 R1 (it_lst ha)⟩
    · cases e
  · cases e

def rangeV (lo : Int) (n : Nat) : List Val := (List.range n).map fun (k : Nat) => .int (lo + (k : Int))
def iRg1 (ga : AF) : IF := fun ρ S => (ga ρ S).bind fun p => match p.1 with
  | [.int j] => if -(2 ^ 62) ≤ j ∧ j < 2 ^ 62 then some (rangeV 0 j.toNat, fun _ => True, p.2) else none
  | _ => none
def iRg2 (ga : AF) : IF := fun ρ S => (ga ρ S).bind fun p => match p.1 with
  | [.int i, .int j] => if -(2 ^ 62) ≤ i ∧ i < 2 ^ 62 ∧ -(2 ^ 62) ≤ j ∧ j < 2 ^ 62 then some (rangeV i (j - i).toNat, fun _ => True, p.2) else none
  | _ => none
theorem it_rg {lo : Int} {n : Nat} {m0 : List Addr} {H0 : Hp} : ItA K (Itr lo n) m0 H0 (rangeV lo n) (fun _ => True) := by
  refine ⟨fun i m S H E R _ v hv => ?_, fun m S H E R _ => ?_⟩
  · unfold rangeV at hv
    rw [List.getElem?_map] at hv
    obtain ⟨k, hk, rfl⟩ := Option.map_eq_some_iff.mp hv
    obtain ⟨l, rfl⟩ := List.getElem?_eq_some_iff.mp hk
    rw [List.length_range] at l
    refine ⟨l, fun x H' hy => ?_⟩
    obtain ⟨rfl, rfl⟩ := hy
    rw [List.getElem_range]
    exact ⟨R, .refl _ _, .int _⟩
  · show n ≤ (rangeV lo n).length
    simp [rangeV]
theorem air1 {tg a : Expr} {ga : AF} {p pos : Pos} (hg : Gl X "range") (hm : X.mg "range" = none) (ha : AA X [a] ga) (hs : starEach [a] X.env = [(false, eval a X.env)] := by rfl) : AI X tg (.Call (.Name "range" p) [a] [] pos) (iRg1 ga) := pi_w (pi_range1 hg hm ha hs) fun σ H W h => by
  obtain ⟨m, ρ, S, vs, ok, S', R, r, e, q⟩ := h
  obtain ⟨⟨x, S1⟩, e1, e⟩ := Option.bind_eq_some_iff.mp e
  dsimp only at e
  split at e
  · split at e
    · next hb =>
      cases e
      refine ⟨m, ρ, S, _, _, R, r, e1, fun m1 us H1 E1 R1 r1 => ?_⟩
      obtain ⟨u, rfl, r2⟩ := r1.one_of
      cases r2
      exact ⟨_, rfl, hb.1, hb.2, q m1 H1 _ E1 R1 it_rg⟩
    · cases e
  · cases e

def enumV (vs : List Val) : List Val := vs.zipIdx.map fun p => .tup [.int (p.2 : Nat), p.1]
def iEn (ga : AF) : IF := fun ρ S => (ga ρ S).bind fun p => match p.1 with
  | [.tup vs] => some (enumV vs, fun _ => True, p.2)
  | [.ref n] => match p.2[n]? with
    | some (.lst vs) => some (enumV vs, fun S => S[n]? = some (.lst vs), p.2)
    | _ => none
  | _ => none
theorem yl_new {m : List Addr} {S : Sto} {H : Hp} (R : Rel K m S H) {T : Addr} {xs : List V} {vs : List Val} (h : H T = none) (r : VRs K H m xs vs) : Rel K m S (upd H T (.tup xs)) ∧ Ext m H m (upd H T (.tup xs)) ∧ VR K (upd H T (.tup xs)) m (.ref T) (.tup vs) := by
  obtain ⟨R2, E2⟩ := R.tmp (o := .tup xs) h
  exact ⟨R2, E2, .tup (.inl upd_same) (r.kp (E2.kp R))⟩

def zipV (vs ws : List Val) : List Val := (vs.zip ws).map fun p => .tup [p.1, p.2]
theorem zipV_get {vs ws : List Val} {i : Nat} {v : Val} (h : (zipV vs ws)[i]? = some v) : ∃ x y, vs[i]? = some x ∧ ws[i]? = some y ∧ v = .tup [x, y] := by
  unfold zipV at h
  rw [List.getElem?_map] at h
  obtain ⟨p, hp, rfl⟩ := Option.map_eq_some_iff.mp h
  obtain ⟨h1, h2⟩ := List.getElem?_zip_eq_some.mp hp
  exact ⟨_, _, h1, h2, rfl⟩
def iZp (ga : AF) : IF := fun ρ S => (ga ρ S).bind fun p => match p.1 with
  | [.tup vs, .tup ws] => some (zipV vs ws, fun _ => True, p.2)
  | [.tup vs, .ref n] => match p.2[n]? with
    | some (.lst ws) => if vs.length = ws.length then some (zipV vs ws, fun S => S[n]? = some (.lst ws), p.2) else none
    | _ => none
  | [.ref k, .ref n] => match p.2[k]?, p.2[n]? with
    | some (.lst vs), some (.lst ws) => some (zipV vs ws, fun S => S[k]? = some (.lst vs) ∧ S[n]? = some (.lst ws), p.2)
    | _, _ => none
  | _ => none
theorem lst_get {m1 m : List Addr} {S : Sto} {H H1 : Hp} {n : Nat} {ad : Addr} {vs0 : List Val} (ha : m1[n]? = some ad) (E : Ext m1 H1 m H) (R : Rel K m S H) (h : S[n]? = some (.lst vs0)) : ∃ xs, H ad = some (.lst xs) ∧ VRs K H m xs vs0 := by
  have hm : m[n]? = some ad := by
    obtain ⟨r, rfl⟩ := E.pre
    rw [List.getElem?_append_left (List.getElem?_eq_some_iff.mp ha).1]
    exact ha
  exact R.ob _ _ _ h hm
theorem aiz {e e2 : Expr} {ga : AF} {p pos tpos : Pos} {elts : List Expr} {kk : Nat} (hg : Gl X "zip") (hm : X.mg "zip" = none) (ha : AA X [e, e2] ga)
    (hs : starEach [e, e2] X.env = (false, eval e X.env) :: starEach [e2] X.env := by rfl) (hpl : (backTo pos (starEach [e2] X.env)).any (·.1) = false := by rfl) :
    AI X (.Tuple elts kk tpos) (.Call (.Name "zip" p) [e, e2] [] pos) (iZp ga) := pi_w (PI.or (RZ.pi_zipA hg hm ha hs hpl) (ZT.pi_zipTL hg hm ha hs hpl)) fun σ H W h => by
  obtain ⟨m, ρ, S, vs, ok, S', R, r, e, q⟩ := h
  obtain ⟨⟨x, S1⟩, e1, e⟩ := Option.bind_eq_some_iff.mp e
  dsimp only at e
  split at e
  · next vs0 ws0 =>
    cases e
    refine .inl ⟨m, ρ, S, _, _, R, r, e1, fun m1 us H1 E1 R1 r1 => ?_⟩
    match us, r1 with
    | [.ref a, .ref b], .cons (.tup (xs := xs) ha ra) (.cons (.tup (xs := ys) hb rb) .nil) =>
      refine ⟨a, b, xs, ys, rfl, .inr ⟨ha.sq, hb.sq, q m1 H1 _ E1 R1 ⟨fun i m S H E R _ v hv => ?_, fun m S H E R _ => ?_⟩⟩⟩
      · obtain ⟨x, y, hx, hy, rfl⟩ := zipV_get hv
        have k := E.kp R1
        obtain ⟨u, hu, ru⟩ := (ra.kp k).get hx
        obtain ⟨u2, hu2, ru2⟩ := (rb.kp k).get hy
        refine ⟨⟨xs, ys, u, u2, (ha.kp k).sq, (hb.kp k).sq, hu, hu2⟩, fun x H' hyl => ?_⟩
        obtain ⟨T, z, z2, rfl, hT, rfl, hz, hz2⟩ := hyl
        have e := hz xs (ha.kp k).sq
        rw [hu] at e
        cases e
        have e := hz2 ys (hb.kp k).sq
        rw [hu2] at e
        cases e
        exact yl_new R hT (.cons ru (.cons ru2 .nil))
      · refine ⟨xs, ys, (ha.kp (E.kp R1)).sq, (hb.kp (E.kp R1)).sq, ?_⟩
        simp only [zipV, List.length_map, List.length_zip, ra.len, rb.len]
        omega
  · split at e
    · next vs0 n _ ws0 en =>
      split at e
      · next hl =>
        cases e
        refine .inr ⟨m, ρ, S, _, _, R, r, e1, fun m1 us H1 E1 R1 r1 => ?_⟩
        match us, r1 with
        | [.ref a, .ref b], .cons (.tup (xs := xs) ha ra) (.cons (.ref hb) .nil) =>
          obtain ⟨ys, hy0, ry0⟩ := lst_get hb (.refl _ _) R1 en
          refine ⟨a, b, xs, ys, rfl, ha.sq, SqL.of hy0, q m1 H1 _ E1 R1 ⟨fun i m S H E R ok v hv => ?_, fun m S H E R ok => ?_⟩⟩
          · obtain ⟨x, y, hx, hy, rfl⟩ := zipV_get hv
            have k := E.kp R1
            obtain ⟨ys, hys, rys⟩ := lst_get hb E R ok
            obtain ⟨u, hu, ru⟩ := (ra.kp k).get hx
            obtain ⟨u2, hu2, ru2⟩ := rys.get hy
            refine ⟨⟨xs, ys, u, u2, (ha.kp k).sq, SqL.of hys, hu, hu2⟩, fun x H' hyl => ?_⟩
            obtain ⟨T, z, z2, rfl, hT, rfl, hz, hz2⟩ := hyl
            have e := hz xs (ha.kp k).sq
            rw [hu] at e
            cases e
            have e := hz2 ys (SqL.of hys)
            rw [hu2] at e
            cases e
            exact yl_new R hT (.cons ru (.cons ru2 .nil))
          · obtain ⟨ys, hys, rys⟩ := lst_get hb E R ok
            refine ⟨xs, ys, (ha.kp (E.kp R1)).sq, SqL.of hys, ?_, ?_⟩ <;> simp only [zipV, List.length_map, List.length_zip, ra.len, rys.len] <;> omega
      · cases e
    · cases e
  · split at e
    · next k0 n0 _ _ vs0 ws0 ek en =>
      cases e
      refine .inl ⟨m, ρ, S, _, _, R, r, e1, fun m1 us H1 E1 R1 r1 => ?_⟩
      match us, r1 with
      | [.ref a, .ref b], .cons (.ref ha) (.cons (.ref hb) .nil) =>
        obtain ⟨xs, hx0, rx0⟩ := lst_get ha (.refl _ _) R1 ek
        obtain ⟨ys, hy0, ry0⟩ := lst_get hb (.refl _ _) R1 en
        refine ⟨a, b, xs, ys, rfl, .inl ⟨SqL.of hx0, SqL.of hy0, q m1 H1 _ E1 R1 ⟨fun i m S H E R ok v hv => ?_, fun m S H E R ok => ?_⟩⟩⟩
        · obtain ⟨x, y, hx, hy, rfl⟩ := zipV_get hv
          obtain ⟨xs, hxs, rxs⟩ := lst_get ha E R ok.1
          obtain ⟨ys, hys, rys⟩ := lst_get hb E R ok.2
          obtain ⟨u, hu, ru⟩ := rxs.get hx
          obtain ⟨u2, hu2, ru2⟩ := rys.get hy
          refine ⟨⟨xs, ys, u, u2, SqL.of hxs, SqL.of hys, hu, hu2⟩, fun x H' hyl => ?_⟩
          obtain ⟨T, z, z2, rfl, hT, rfl, hz, hz2⟩ := hyl
          have e := hz xs (SqL.of hxs)
          rw [hu] at e
          cases e
          have e := hz2 ys (SqL.of hys)
          rw [hu2] at e
          cases e
          exact yl_new R hT (.cons ru (.cons ru2 .nil))
        · obtain ⟨xs, hxs, rxs⟩ := lst_get ha E R ok.1
          obtain ⟨ys, hys, rys⟩ := lst_get hb E R ok.2
          refine ⟨xs, ys, SqL.of hxs, SqL.of hys, ?_⟩
          simp only [zipV, List.length_map, List.length_zip, rxs.len, rys.len]
          omega
    · cases e
  · cases e
end
end AL
namespace AL
open PySem PySem.Spec PyProof.Rows L2 G Th
variable [TT]
def keyOf : Val → Option Key
  | .int i => some (.inl i)
  | .str x => some (.inr x)
  | _ => none
def valA (kvs : List (Key × Val)) (k : Key) : Option Val := (kvs.find? fun kv => decide (kv.1 = k)).map (·.2)
def putA (kvs : List (Key × Val)) (k : Key) (v : Val) : List (Key × Val) := if (kvs.any fun kv => decide (kv.1 = k)) = true then kvs.map (fun kv => if kv.1 = k then (kv.1, v) else kv) else kvs ++ [(k, v)]
def kA : Key → Val
  | .inl i => .int i
  | .inr x => .str x
section
variable {X : Cx} {K : PySem.W.Frag} {e a b o i : Expr} {pos : Pos} {fa fb fo fi f : EF}
theorem pe_or2 {t t' : TE} (h : PE X e t) (h' : PE X e t') : PE X e (fun σ H Q => t σ H Q ∨ t' σ H Q) := ⟨fun pins s σ H Q I hq => hq.elim (h.run pins s σ H Q I) (h'.run pins s σ H Q I)⟩
theorem pt_or2 {t t' : L2.TT} (h : PT X e t) (h' : PT X e t') : PT X e (fun σ H Q => t σ H Q ∨ t' σ H Q) := ⟨fun pins s σ H Q I hq => hq.elim (h.run pins s σ H Q I) (h'.run pins s σ H Q I)⟩
theorem ps_or2 {st : Stmt} {t t' : TS} (h : PS X st t) (h' : PS X st t') : PS X st (fun D σ H => t D σ H ∨ t' D σ H) := ⟨fun pins s σ H D I hq => hq.elim (h.run pins s σ H D I) (h'.run pins s σ H D I)⟩
theorem VR.key {H : Hp} {m : List Addr} {u : V} {v : Val} {k : Key} (r : VR K H m u v) (h : AL.keyOf v = some k) : u = kV k := by
  cases r <;> cases h <;> rfl

def KR (K : PySem.W.Frag) (H : Hp) (m : List Addr) (xs : List (Key × V)) (kvs : List (Key × Val)) : Prop := xs.map (·.1) = kvs.map (·.1) ∧ VRs K H m (xs.map (·.2)) (kvs.map (·.2))
theorem KR.nil {H : Hp} {m : List Addr} : KR K H m [] [] := ⟨rfl, .nil⟩
theorem KR.cons {H : Hp} {m : List Addr} {x : Key × V} {y : Key × Val} {xs : List (Key × V)} {kvs : List (Key × Val)} (h1 : x.1 = y.1) (h2 : VR K H m x.2 y.2) (r : KR K H m xs kvs) : KR K H m (x :: xs) (y :: kvs) := ⟨by simp [h1, r.1], .cons h2 r.2⟩
theorem KR.uncons {H : Hp} {m : List Addr} {y : Key × Val} {xs : List (Key × V)} {kvs : List (Key × Val)} (r : KR K H m xs (y :: kvs)) : ∃ x xs', xs = x :: xs' ∧ x.1 = y.1 ∧ VR K H m x.2 y.2 ∧ KR K H m xs' kvs := by
  obtain ⟨h1, h2⟩ := r
  cases xs with
  | nil => simp at h1
  | cons x xs =>
    simp only [List.map_cons, List.cons.injEq] at h1
    cases h2 with
    | cons a b => exact ⟨x, xs, rfl, h1.1, a, h1.2, b⟩
theorem KR.nil_of {H : Hp} {m : List Addr} {xs : List (Key × V)} (r : KR K H m xs []) : xs = [] := by
  have := r.1
  simpa using this
theorem KR.len {H : Hp} {m : List Addr} {xs : List (Key × V)} {kvs : List (Key × Val)} (r : KR K H m xs kvs) : xs.length = kvs.length := by simpa using congrArg List.length r.1
theorem KR.any {H : Hp} {m : List Addr} {xs : List (Key × V)} {kvs : List (Key × Val)} (r : KR K H m xs kvs) (k : Key) : (xs.any fun kv => decide (kv.1 = k)) = (kvs.any fun kv => decide (kv.1 = k)) := by
  induction kvs generalizing xs with
  | nil => rw [r.nil_of]; rfl
  | cons y kvs ih =>
    obtain ⟨x, xs', rfl, e, _, r'⟩ := r.uncons
    rw [List.any_cons, List.any_cons, ih r', e]
theorem KR.val {H : Hp} {m : List Addr} {xs : List (Key × V)} {kvs : List (Key × Val)} (r : KR K H m xs kvs) (k : Key) : (valV xs k = none ∧ valA kvs k = none) ∨ ∃ u v, valV xs k = some u ∧ valA kvs k = some v ∧ VR K H m u v := by
  induction kvs generalizing xs with
  | nil => rw [r.nil_of]; exact .inl ⟨rfl, rfl⟩
  | cons y kvs ih =>
    obtain ⟨x, xs', rfl, e, rv, r'⟩ := r.uncons
    by_cases h : y.1 = k
    · refine .inr ⟨x.2, y.2, ?_, ?_, rv⟩
      · simp [valV, List.find?_cons, e, h]
      · simp [valA, List.find?_cons, h]
    · have := ih r'
      simp only [valV, valA, List.find?_cons, e, h, decide_false] at this ⊢
      exact this
theorem KR.put {H : Hp} {m : List Addr} {xs : List (Key × V)} {kvs : List (Key × Val)} (r : KR K H m xs kvs) (k : Key) {u : V} {v : Val} (rv : VR K H m u v) : KR K H m (putK xs k u) (putA kvs k v) := by
  unfold putK putA
  rw [r.any k]
  split
  · rename_i hany
    clear hany
    induction kvs generalizing xs with
    | nil => rw [r.nil_of]; exact .nil
    | cons y kvs ih =>
      obtain ⟨x, xs', rfl, e, rv', r'⟩ := r.uncons
      rw [List.map_cons, List.map_cons]
      refine .cons ?_ ?_ (ih r')
      · rw [e]
        split <;> simp [e]
      · rw [e]
        split
        · exact rv
        · exact rv'
  · refine ⟨by simp [r.1], ?_⟩
    simp only [List.map_append, List.map_cons, List.map_nil]
    exact r.2.app rv.one
theorem KR.kp {H H' : Hp} {m m' : List Addr} {xs : List (Key × V)} {kvs : List (Key × Val)} (r : KR K H m xs kvs) (k : Kp m H m' H') : KR K H' m' xs kvs := ⟨r.1, r.2.kp k⟩
def gIxA : Val → Val → Sto → Option (Val × Sto) := fun x y S => match x with
  | .ref n => match S[n]? with
    | some (.dic kvs) => match AL.keyOf y with
      | some k => (valA kvs k).map fun v => (v, S)
      | none => none
    | _ => gIx x y S
  | _ => gIx x y S
theorem aixA (hu : X.A.units + 1 < cLine) (ha : AE X a fa) (hb : AE X b fb) (hs : PlainIx b) (hn : NoSl b) : AE X (.Subscript a b pos) (eB gIxA fa fb) := by
  refine pe_w (pe_or2 (pe_ix ix_seq ha hb hs) (pe_dget hu ha hb hn)) fun σ H Q h => ?_
  obtain ⟨m, ρ, S, v, S', R, r, e, q⟩ := h
  obtain ⟨⟨x, S1⟩, e1, e⟩ := Option.bind_eq_some_iff.mp e
  obtain ⟨⟨y, S2⟩, e2, e⟩ := Option.bind_eq_some_iff.mp e
  dsimp only at e e2
  have plain : gIx x y S2 = some (v, S') → tOp (rIx X.K) (tF X.K fa) (tF X.K fb) σ H Q := fun e => eB_ok oIx ⟨m, ρ, S, v, S', R, r, by simp only [eB, e1, e2, Option.bind_some, e], q⟩
  cases x with
  | ref n =>
    simp only [gIxA] at e
    split at e
    · next kvs en =>
      split at e
      · next k ek =>
        obtain ⟨v', ev, e3⟩ := Option.map_eq_some_iff.mp e
        cases e3
        refine .inr ⟨m, ρ, S, .ref n, S1, R, r, e1, fun m1 u H1 E1 R1 r1 => ⟨m1, ρ, S1, y, _, R1, r.kp (E1.kp R), e2, fun m2 w H2 E2 R2 r2 => ?_⟩⟩
        cases r1.kp (E2.kp R1) with
        | ref hm =>
          obtain ⟨xs, hx, hk⟩ := R2.ob _ _ _ en hm
          rcases KR.val hk k with ⟨_, z⟩ | ⟨u', v2, h1, h2, h3⟩
          · rw [ev] at z; cases z
          · rw [ev] at h2
            cases h2
            refine ⟨_, u', rfl, ?_, q m2 u' H2 (E1.trans E2) R2 h3⟩
            rw [r2.key ek, ← h1]
            exact DGet.k hx
      · cases e
    · exact .inl (plain e)
  | _ => exact .inl (plain e)

def eDic : EF := fun _ S => some (.ref S.length, S ++ [.dic []])
theorem newDic {m : List Addr} {S : Sto} {H : Hp} {xs : List (Key × V)} {kvs : List (Key × Val)} (R : Rel K m S H) (r : KR K H m xs kvs) {Q : VK} (q : ∀ m' z H', Ext m H m' H' → Rel K m' (S ++ [.dic kvs]) H' → VR K H' m' z (.ref S.length) → Q z H') : ∀ p, H p = none → Q (.ref p) (upd H p (.dK xs)) := fun p hp => by
  have k1 : Kp m H (m ++ [p]) (upd H p (.dK xs)) := .grow [p] (.new hp)
  obtain ⟨R2, E2⟩ := R.alloc (o := .dK xs) (b := .dic kvs) hp ⟨_, upd_same, r.kp k1⟩
  refine q _ _ _ E2 R2 (.ref ?_)
  rw [← R.len, List.getElem?_concat_length]
theorem adic : AE X (.Dict [] [] pos) eDic := pe_w pe_dnewK fun σ H Q h => by
  obtain ⟨m, ρ, S, v, S', R, r, e, q⟩ := h
  cases e
  exact newDic R .nil q

def gSetA : Val → Val → Val → Sto → Option Sto := fun o i v S => match o with
  | .ref n => match S[n]? with
    | some (.dic kvs) => match AL.keyOf i with
      | some k => if kvs.length < sizeLine then some (S.set n (.dic (putA kvs k v))) else none
      | none => none
    | _ => gSet o i v S
  | _ => none
theorem asuA {p2 : Pos} (hu : X.A.units + 1 < cLine) (he : AE X e f) (ho : AE X o fo) (hi : AE X i fi)
    (ha : ∀ v, assign (.Subscript o i pos) X.env v = (do
      let ov ← holding [v] (eval o X.env)
      let iv ← holding [v, ov] (eval i X.env)
      standAt pos
      holding [v, ov, iv] (setItem ov iv v)
      release [v, ov, iv] []) := by intro _; rfl)
    (hsw : swapsWithSole [.Subscript o i pos] e p2.line X.env = pure false := by rfl) (hw : swappedStores [.Subscript o i pos] e X.env = pure none := by rfl)
    (h1 : (assignEach [.Subscript o i pos] X.env).map (·.2) = [assign (.Subscript o i pos) X.env] := by rfl) (hs : swapsWith e (some (.Subscript o i pos)) p2.line X.env = pure false := by rfl) : AS X (.Assign [.Subscript o i pos] e p2) (sSub gSetA fo fi f) := by
  refine ps_w (ps_or2 (ps_asg he (pg_sub ho hi set_list ha) hsw hw h1) (ps_dput hu ho hi he hs)) fun D σ H h => ?_
  obtain ⟨m, ρ, S, R, r, q⟩ := h
  unfold sSub at q
  split at q
  · next v S1 e1 =>
    split at q
    · next ov S2 e2 =>
      split at q
      · next iv S3 e3 =>
        split at q
        · next S4 e4 =>
          unfold gSetA at e4
          split at e4
          · next n =>
            split at e4
            · next kvs en =>
              split at e4
              · next k ek =>
                split at e4
                · next hl =>
                  cases e4
                  refine .inr ⟨m, ρ, S, v, S1, R, r, e1, fun m1 u H1 E1 R1 r1 => ⟨m1, ρ, S1, _, S2, R1, r.kp (E1.kp R), e2, fun m2 uo H2 E2 R2 r2 => ⟨m2, ρ, S2, iv, S3, R2, r.kp ((E1.trans E2).kp R), e3, fun m3 ui H3 E3 R3 r3 => ?_⟩⟩⟩
                  have rv := r1.kp ((E2.trans E3).kp R1)
                  cases r2.kp (E3.kp R2) with
                  | ref hm =>
                    rename_i ad
                    obtain ⟨xs, hx, hk⟩ := R3.ob _ _ _ en hm
                    have hk : KR X.K H3 m3 xs kvs := hk
                    have hmm := List.mem_of_getElem? hm
                    have kk : Kp m3 H3 m3 (upd H3 ad (.dK (putK xs k u))) := R3.kput hmm
                    obtain ⟨R4, E4⟩ := R3.put (o := .dK (putK xs k u)) (b := .dic (putA kvs k v)) hm ⟨_, upd_same, (hk.put k rv).kp kk⟩
                    refine ⟨_, _, rfl, ?_, q m3 σ _ (((E1.trans E2).trans E3).trans E4) R4 (r.kp ((((E1.trans E2).trans E3).trans E4).kp R))⟩
                    rw [r3.key ek]
                    exact DPut.k hx (by rw [hk.len]; exact hl)
                · cases e4
              · cases e4
            · refine .inl ⟨m, ρ, S, v, S1, R, r, e1, fun m1 u H1 E1 R1 r1 => ⟨m1, ρ, S1, _, S2, R1, r.kp (E1.kp R), e2, fun m2 uo H2 E2 R2 r2 => ⟨m2, ρ, S2, iv, S3, R2, r.kp ((E1.trans E2).kp R), e3, fun m3 ui H3 E3 R3 r3 => ?_⟩⟩⟩
              refine stL m3 S3 H3 _ iv v S4 uo ui u _ R3 (r2.kp (E3.kp R2)) r3 (r1.kp ((E2.trans E3).kp R1)) e4 fun H4 E4 R4 => ?_
              exact q m3 σ H4 (((E1.trans E2).trans E3).trans E4) R4 (r.kp ((((E1.trans E2).trans E3).trans E4).kp R))
          · cases e4
        · exact q.elim
      · exact q.elim
    · exact q.elim
  · exact q.elim

def eGet1 (fo fi : EF) : EF := fun ρ S => (fo ρ S).bind fun p => match p.1 with
  | .ref n => match p.2[n]? with
    | some (.dic _) => (fi ρ p.2).bind fun q => match q.2[n]?, AL.keyOf q.1 with
      | some (.dic kvs), some k => some ((valA kvs k).getD .non, q.2)
      | _, _ => none
    | _ => none
  | _ => none
theorem aget1 {apos cpos : Pos} (hu : X.A.units + 1 < cLine) (ho : AE X o fo) (he : AE X e fi) (hm : M1 X o "get" apos e cpos) : AE X (.Call (.Attribute o "get" apos) [e] [] cpos) (eGet1 fo fi) := pe_w (pe_dget1 hu ho he hm) fun σ H Q h => by
  obtain ⟨m, ρ, S, v, S', R, r, e, q⟩ := h
  obtain ⟨⟨x, S1⟩, e1, e⟩ := Option.bind_eq_some_iff.mp e
  dsimp only at e
  split at e
  · next n =>
    split at e
    · next kvs0 en0 =>
      obtain ⟨⟨y, S2⟩, e2, e⟩ := Option.bind_eq_some_iff.mp e
      dsimp only at e
      split at e
      · next kvs k en ek =>
        cases e
        refine ⟨m, ρ, S, _, S1, R, r, e1, fun m1 u H1 E1 R1 r1 => ?_⟩
        cases r1 with
        | ref hm =>
          rename_i ad
          obtain ⟨xs0, hx0, _⟩ := R1.ob _ _ _ en0 hm
          refine ⟨ad, rfl, .inl ⟨xs0, .inl hx0⟩, m1, ρ, S1, y, _, R1, r.kp (E1.kp R), e2, fun m2 w H2 E2 R2 r2 => ?_⟩
          obtain ⟨xs, hx, hk⟩ := R2.ob _ _ _ en ((E2.kp R1).get hm)
          refine ⟨valV xs k, by rw [r2.key ek]; exact DGet.k hx, ?_⟩
          rcases KR.val hk k with ⟨z1, z2⟩ | ⟨u', v2, h1, h2, h3⟩
          · rw [z2] at q
            rw [z1]
            exact q m2 _ H2 (E1.trans E2) R2 .non
          · rw [h2] at q
            rw [h1]
            exact q m2 _ H2 (E1.trans E2) R2 h3
      · cases e
    · cases e
  · cases e
def eGet2 (fo fi fx : EF) : EF := fun ρ S => (fo ρ S).bind fun p => match p.1 with
  | .ref n => match p.2[n]? with
    | some (.dic _) => (fi ρ p.2).bind fun q => (fx ρ q.2).bind fun z => match z.2[n]?, AL.keyOf q.1 with
      | some (.dic kvs), some k => some ((valA kvs k).getD z.1, z.2)
      | _, _ => none
    | _ => none
  | _ => none
theorem aget2 {apos cpos : Pos} {x : Expr} {fx : EF} (hu : X.A.units + 1 < cLine) (ho : AE X o fo) (he : AE X e fi) (hx : AE X x fx) (hm : M2 X o "get" apos e x cpos) : AE X (.Call (.Attribute o "get" apos) [e, x] [] cpos) (eGet2 fo fi fx) := pe_w (pe_dget2 hu ho he hx hm) fun σ H Q h => by
  obtain ⟨m, ρ, S, v, S', R, r, e, q⟩ := h
  obtain ⟨⟨x, S1⟩, e1, e⟩ := Option.bind_eq_some_iff.mp e
  dsimp only at e
  split at e
  · next n =>
    split at e
    · next kvs0 en0 =>
      obtain ⟨⟨y, S2⟩, e2, e⟩ := Option.bind_eq_some_iff.mp e
      obtain ⟨⟨z, S3⟩, e3, e⟩ := Option.bind_eq_some_iff.mp e
      dsimp only at e
      split at e
      · next kvs k en ek =>
        cases e
        refine ⟨m, ρ, S, _, S1, R, r, e1, fun m1 u H1 E1 R1 r1 => ?_⟩
        cases r1 with
        | ref hm =>
          rename_i ad
          obtain ⟨xs0, hx0, _⟩ := R1.ob _ _ _ en0 hm
          refine ⟨ad, rfl, .inl ⟨xs0, .inl hx0⟩, m1, ρ, S1, y, _, R1, r.kp (E1.kp R), e2, fun m2 w H2 E2 R2 r2 => ⟨m2, ρ, S2, z, _, R2, r.kp ((E1.trans E2).kp R), e3, fun m3 w3 H3 E3 R3 r3 => ?_⟩⟩
          obtain ⟨xs, hx, hk⟩ := R3.ob _ _ _ en (((E2.trans E3).kp R1).get hm)
          refine ⟨valV xs k, by rw [r2.key ek]; exact DGet.k hx, ?_⟩
          rcases KR.val hk k with ⟨z1, z2⟩ | ⟨u', v2, h1, h2, h3⟩
          · rw [z2] at q
            rw [z1]
            exact q m3 _ H3 ((E1.trans E2).trans E3) R3 r3
          · rw [h2] at q
            rw [h1]
            exact q m3 _ H3 ((E1.trans E2).trans E3) R3 h3
      · cases e
    · cases e
  · cases e
def flatA : Val → Bool
  | .non => true
  | .bl _ => true
  | .int _ => true
  | .str _ => true
  | _ => false
def eqF : Val → Val → Bool
  | .non, .non => true
  | .bl a, .bl b => a == b
  | .bl a, .int b => (if a then 1 else 0) == b
  | .int a, .bl b => a == (if b then 1 else 0)
  | .int a, .int b => a == b
  | .str a, .str b => a == b
  | _, _ => false
def inA (x : Val) (vs : List Val) : Bool := vs.any fun y => eqF y x
theorem VR.flat {H : Hp} {m : List Addr} {u : V} {v : Val} (r : VR K H m u v) (h : flatA v = true) : flatV u = true := by
  cases r <;> first | rfl | cases h
theorem VR.eqF {H : Hp} {m : List Addr} {u w : V} {v x : Val} (r : VR K H m u v) (r2 : VR K H m w x) (h : flatA v = true) (h2 : flatA x = true) : eqV u w = AL.eqF v x := by
  cases r <;> cases r2 <;> first | rfl | cases h | cases h2
theorem VRs.flat {H : Hp} {m : List Addr} : ∀ {us : List V} {vs : List Val}, VRs K H m us vs → vs.all flatA = true → us.all flatV = true
  | _, _, .nil, _ => rfl
  | _, _, .cons a r, h => by
    rw [List.all_cons, Bool.and_eq_true] at h
    rw [List.all_cons, a.flat h.1, r.flat h.2]
    rfl
theorem VRs.inA {H : Hp} {m : List Addr} {u : V} {x : Val} (ru : VR K H m u x) (hx : flatA x = true) : ∀ {us : List V} {vs : List Val}, VRs K H m us vs → vs.all flatA = true → inV u us = AL.inA x vs
  | _, _, .nil, _ => rfl
  | _, _, .cons a r, h => by
    rw [List.all_cons, Bool.and_eq_true] at h
    have := VRs.inA ru hx r h.2
    unfold inV AL.inA at this ⊢
    rw [List.any_cons, List.any_cons, this, a.eqF ru h.1 hx]
def gInS (neg : Bool) : Val → Val → Sto → Option (Val × Sto) := fun x y S => match y with
  | .tup vs => if flatA x && vs.all flatA then some (.bl (if neg then !inA x vs else inA x vs), S) else none
  | .ref n => match S[n]? with
    | some (.lst vs) => if flatA x && vs.all flatA then some (.bl (if neg then !inA x vs else inA x vs), S) else none
    | _ => none
  | _ => none
theorem oInS {neg : Bool} : OpA K (rIn K neg) (gInS neg) := by
  intro m S H x y v S' u w Q R ru rw_ e q
  unfold gInS at e
  split at e
  · next vs =>
    split at e
    · next h =>
      rw [Bool.and_eq_true] at h
      cases e
      cases rw_ with
      | tup ha ra =>
        refine ⟨_, _, rfl, .inr ha.sq, ru.flat h.1, ra.flat h.2, ?_⟩
        rw [VRs.inA ru h.1 ra h.2]
        exact q m _ H (.refl _ _) R (.bl _)
    · cases e
  · split at e
    · next n _ vs en =>
      split at e
      · next h =>
        rw [Bool.and_eq_true] at h
        cases e
        cases rw_ with
        | ref hm =>
          obtain ⟨xs, hx, rx⟩ := R.ob _ _ _ en hm
          refine ⟨_, _, rfl, .inl (SqL.of hx), ru.flat h.1, rx.flat h.2, ?_⟩
          rw [VRs.inA ru h.1 rx h.2]
          exact q m _ H (.refl _ _) R (.bl _)
      · cases e
    · cases e
  · cases e
def gIn (neg : Bool) : Val → Val → Sto → Option (Val × Sto) := fun x y S => match y with
  | .ref n => match S[n]? with
    | some (.dic kvs) => match AL.keyOf x with
      | some k => some (.bl (if neg then !(valA kvs k).isSome else (valA kvs k).isSome), S)
      | none => none
    | _ => gInS neg x y S
  | _ => gInS neg x y S
theorem gIn_ok {neg : Bool} {σ : L2.St} {H : Hp} {Q : VK} (h : tF K (eB (gIn neg) fa fb) σ H Q) :
    tOp (rIn K neg) (tF K fa) (tF K fb) σ H Q ∨ (tF K fa σ H fun y H1 => tF K fb σ H1 fun x H2 => ∃ a o, x = .ref a ∧ DGet H2 a y o ∧ Q (.bl (if neg then !o.isSome else o.isSome)) H2) := by
  obtain ⟨m, ρ, S, v, S', R, r, e, q⟩ := h
  obtain ⟨⟨x, S1⟩, e1, e⟩ := Option.bind_eq_some_iff.mp e
  obtain ⟨⟨y, S2⟩, e2, e⟩ := Option.bind_eq_some_iff.mp e
  dsimp only at e e2
  have plain : gInS neg x y S2 = some (v, S') → tOp (rIn K neg) (tF K fa) (tF K fb) σ H Q := fun e => eB_ok oInS ⟨m, ρ, S, v, S', R, r, by simp only [eB, e1, e2, Option.bind_some, e], q⟩
  unfold gIn at e
  split at e
  · next n =>
    split at e
    · next kvs en =>
      split at e
      · next k ek =>
        cases e
        refine .inr ⟨m, ρ, S, x, S1, R, r, e1, fun m1 u H1 E1 R1 r1 => ⟨m1, ρ, S1, _, _, R1, r.kp (E1.kp R), e2, fun m2 w H2 E2 R2 r2 => ?_⟩⟩
        cases r2 with
        | ref hm =>
          obtain ⟨xs, hx, hk⟩ := R2.ob _ _ _ en hm
          refine ⟨_, valV xs k, rfl, by rw [(r1.kp (E2.kp R1)).key ek]; exact DGet.k hx, ?_⟩
          have eq : (valV xs k).isSome = (valA kvs k).isSome := by
            rcases KR.val hk k with ⟨z1, z2⟩ | ⟨u', v2, h1, h2, h3⟩
            · rw [z1, z2]; rfl
            · rw [h1, h2]; rfl
          rw [eq]
          exact q m2 _ H2 (E1.trans E2) R2 (.bl _)
      · cases e
    · exact .inl (plain e)
  · exact .inl (plain e)
theorem atin (hu : X.A.units + 1 < cLine) (ha : AE X a fa) (hb : AE X b fb) (hm : behindInMarks .In b = false := by rfl) : AT X (.Compare a [.In] [b] pos) (eT (eB (gIn false) fa fb)) :=
  pt_w (pt_or2 (pt_cmpR op_in_seq ha hb hm) (pt_cmp (pc_din hu ha hb) hm)) fun σ H Q h => gIn_ok (eT_ok h)
theorem atnin (hu : X.A.units + 1 < cLine) (ha : AE X a fa) (hb : AE X b fb) (hm : behindInMarks .NotIn b = false := by rfl) : AT X (.Compare a [.NotIn] [b] pos) (eT (eB (gIn true) fa fb)) :=
  pt_w (pt_or2 (pt_cmpR op_notIn_seq ha hb hm) (pt_cmp (pc_dnotin hu ha hb) hm)) fun σ H Q h => gIn_ok (eT_ok h)
def strsOf : List Val → Option (List Str)
  | [] => some []
  | .str x :: r => (strsOf r).map (x :: ·)
  | _ => none
theorem strs_eq : ∀ {vs : List Val} {ss : List Str}, strsOf vs = some ss → vs = ss.map Val.str
  | [], ss, h => by cases h; rfl
  | .str x :: r, ss, h => by
    obtain ⟨t, h1, h2⟩ := Option.map_eq_some_iff.mp h
    cases h2
    rw [strs_eq h1]
    rfl
  | .non :: r, _, h => by cases h
  | .bl _ :: r, _, h => by cases h
  | .int _ :: r, _, h => by cases h
  | .tup _ :: r, _, h => by cases h
  | .ref _ :: r, _, h => by cases h
  | .scr _ :: r, _, h => by cases h
  | .lam _ _ _ _ _ :: r, _, h => by cases h
  | .exc _ _ _ _ :: r, _, h => by cases h
  | .ptu _ :: r, _, h => by cases h
theorem vrs_strs_inv {H : Hp} {m : List Addr} : ∀ {ss : List Str} {us : List V}, VRs K H m us (ss.map Val.str) → us = ss.map V.str
  | [], _, h => by cases h; rfl
  | s :: ss, _, h => by
    cases h with
    | cons a r =>
      cases a
      rw [vrs_strs_inv r]
      rfl
def leS (a b : Str) : Bool := !ltCps b.cps.toList a.cps.toList
def sortS (l : List Str) : List Str := l.mergeSort leS
theorem ltCps_iff : ∀ (a b : List Nat), ltCps a b = true ↔ a < b := by
  intro a b
  rw [PyProof.Rows.ltCps_eq, decide_eq_true_iff]
theorem leS_iff {a b : Str} : leS a b = true ↔ ¬ b.cps.toList < a.cps.toList := by
  unfold leS
  rw [Bool.not_eq_true', ← Bool.not_eq_true, ltCps_iff]
theorem leS_trans (a b c : Str) (h1 : leS a b = true) (h2 : leS b c = true) : leS a c = true := by
  rw [leS_iff] at *
  rw [List.not_lt] at *
  exact List.le_trans h1 h2
theorem leS_total (a b : Str) : (leS a b || leS b a) = true := by
  rw [Bool.or_eq_true, leS_iff, leS_iff, List.not_lt, List.not_lt]
  exact List.le_total _ _
theorem leS_anti {a b : Str} (h1 : leS a b = true) (h2 : leS b a = true) : a = b := by
  rw [leS_iff, List.not_lt] at *
  have := List.le_antisymm h1 h2
  cases a
  cases b
  simp only [Str.mk.injEq]
  simpa using this
theorem rising_pw : ∀ (p : Str) (l : List Str), risingS p l = true → (p :: l).Pairwise (fun a b => leS a b = true)
  | p, [], _ => by simp
  | p, x :: r, h => by
    have h : (!ltCps x.cps.toList p.cps.toList && risingS x r) = true := h
    rw [Bool.and_eq_true] at h
    have ih := rising_pw x r h.2
    rw [List.pairwise_cons]
    refine ⟨fun b hb => ?_, ih⟩
    rcases List.mem_cons.mp hb with rfl | hb
    · exact h.1
    · exact leS_trans p x b h.1 ((List.pairwise_cons.mp ih).1 b hb)
theorem sortS_uniq {xs ys : List Str} (hp : ys.Perm xs) (hs : sortedS ys = true) : ys = sortS xs := by
  have p1 : ys.Pairwise (fun a b => leS a b = true) := by
    cases ys with
    | nil => exact .nil
    | cons y ys => exact rising_pw y ys hs
  have p2 : (sortS xs).Pairwise (fun a b => leS a b = true) := List.pairwise_mergeSort leS_trans leS_total xs
  exact List.Perm.eq_of_pairwise (fun a b _ _ h1 h2 => leS_anti h1 h2) p1 p2 (hp.trans (List.mergeSort_perm xs leS).symm)
def keysS : List (Key × Val) → Option (List Str)
  | [] => some []
  | (.inr x, _) :: r => (keysS r).map (x :: ·)
  | _ => none
theorem keysS_eq : ∀ {kvs : List (Key × Val)} {ss : List Str}, keysS kvs = some ss → kvs.map (·.1) = ss.map Sum.inr
  | [], ss, h => by cases h; rfl
  | (.inr x, _) :: r, ss, h => by
    obtain ⟨t, h1, h2⟩ := Option.map_eq_some_iff.mp h
    cases h2
    rw [List.map_cons, keysS_eq h1]
    rfl
  | (.inl x, _) :: r, _, h => by cases h
def gSorted : List Val → Sto → Option (Val × Sto) := fun xs S => match xs with
  | [.ref n] => match S[n]? with
    | some (.lst vs) => match strsOf vs with
      | some ss => if ss.length < 64 then some (.ref S.length, S ++ [.lst ((sortS ss).map Val.str)]) else none
      | none => none
    | some (.dic kvs) => match keysS kvs with
      | some ss => if ss.length < 64 then some (.ref S.length, S ++ [.lst ((sortS ss).map Val.str)]) else none
      | none => none
    | _ => none
  | _ => none
def rSortedA (K : PySem.W.Frag) : List V → Hp → VK → Prop := fun xs H Q => rSortedS K xs H Q ∨ (∃ (a : Addr) (kvs : List (Key × V)) (ks : List Str), xs = [.ref a] ∧ Rd H a (.dK kvs) ∧ kvs.map (·.1) = ks.map Sum.inr ∧ ks.length < 64 ∧
    ∀ ys p, ys.Perm ks → sortedS ys = true → H p = none → Q (.ref p) (upd H p (.lst (ys.map V.str))))
theorem call_sortedA (hc : X.calm = true) : CallR X (.builtin "sorted") (rSortedA X.K) := CallR.or cr_sortedS (call_sortedD hc)
theorem cSorted : CaA K (rSortedA K) gSorted := by
  intro m S H xs v S' us Q R ru e q
  unfold gSorted at e
  split at e
  · next n =>
    obtain ⟨u, rfl, r1⟩ := ru.one_of
    cases r1 with
    | ref hm =>
      split at e
      · next vs en =>
        split at e
        · next ss es =>
          split at e
          · next hl =>
            cases e
            obtain ⟨xs, hx, rx⟩ := R.ob _ _ _ en hm
            rw [strs_eq es] at rx
            rw [vrs_strs_inv rx] at hx
            refine .inl ⟨_, ss, rfl, SqL.of hx, hl, fun ys p h1 h2 hp => ?_⟩
            rw [sortS_uniq h1 h2]
            exact newList R (vrs_strs _) q p hp
          · cases e
        · cases e
      · next kvs en =>
        split at e
        · next ss es =>
          split at e
          · next hl =>
            cases e
            obtain ⟨xs, hx, hk, _⟩ := R.ob _ _ _ en hm
            refine .inr ⟨_, xs, ss, rfl, .inl hx, hk.trans (keysS_eq es), hl, fun ys p h1 h2 hp => ?_⟩
            rw [sortS_uniq h1 h2]
            exact newList R (vrs_strs _) q p hp
          · cases e
        · cases e
      · cases e
  · cases e
def pairK : Val → Option (Key × Val)
  | .tup [k, v] => (AL.keyOf k).map fun k => (k, v)
  | _ => none
def pairsK (vs : List Val) : Option (List (Key × Val)) := mapO pairK vs
theorem pairK_some {v : Val} {p : Key × Val} (h : pairK v = some p) : ∃ k, v = .tup [k, p.2] ∧ AL.keyOf k = some p.1 := by
  unfold pairK at h
  split at h
  · next k w =>
    obtain ⟨k', h1, h2⟩ := Option.map_eq_some_iff.mp h
    cases h2
    exact ⟨k, rfl, h1⟩
  · cases h
def mergeA (kvs more : List (Key × Val)) : List (Key × Val) := more.foldl (fun acc kv => putA acc kv.1 kv.2) kvs
theorem KR.merge {H : Hp} {m : List Addr} : ∀ {ms : List (Key × V)} {ns : List (Key × Val)} {xs : List (Key × V)} {kvs : List (Key × Val)}, KR K H m ms ns → KR K H m xs kvs → KR K H m (mergeK xs ms) (mergeA kvs ns) := by
  intro ms ns
  induction ns generalizing ms with
  | nil => intro xs kvs r q; rw [r.nil_of]; exact q
  | cons y ns ih =>
    intro xs kvs r q
    obtain ⟨x, ms', rfl, e, rv, r'⟩ := r.uncons
    have h := q.put y.1 rv
    rw [← e] at h
    have g := ih r' h
    unfold mergeK mergeA at g ⊢
    rw [List.foldl_cons, List.foldl_cons, ← e]
    exact g
def gDict : List Val → Sto → Option (Val × Sto) := fun xs S => match xs with
  | [.ref n] => match S[n]? with
    | some (.lst vs) => match pairsK vs with
      | some kvs => some (.ref S.length, S ++ [.dic (mergeA [] kvs)])
      | none => none
    | _ => none
  | _ => none
theorem VRs.two_of {H : Hp} {m : List Addr} {us : List V} {v w : Val} (r : VRs K H m us [v, w]) : ∃ u z, us = [u, z] ∧ VR K H m u v ∧ VR K H m z w := by
  cases r with
  | cons a b =>
    obtain ⟨z, rfl, c⟩ := b.one_of
    exact ⟨_, z, rfl, a, c⟩
theorem pairsK_ok {H : Hp} {m : List Addr} : ∀ (vs : List Val) (us : List V) (kvs : List (Key × Val)), VRs K H m us vs → mapO pairK vs = some kvs → ∃ (ps : List Addr) (xs : List (Key × V)), us = ps.map V.ref ∧ Paired (fun p kv => SqT K H p [kV kv.1, kv.2]) ps xs ∧ KR K H m xs kvs := by
  intro vs
  induction vs with
  | nil =>
    intro us kvs r h
    cases r
    cases h
    exact ⟨[], [], rfl, .nil, .nil⟩
  | cons v vs ih =>
    intro us kvs r h
    cases r with
    | cons a r =>
      obtain ⟨p, h1, h⟩ := Option.bind_eq_some_iff.mp h
      obtain ⟨kv, h2, h⟩ := Option.bind_eq_some_iff.mp h
      cases h
      obtain ⟨k, rfl, ek⟩ := pairK_some h1
      obtain ⟨ps, xs, rfl, hp, hk⟩ := ih _ _ r h2
      cases a with
      | tup ha ra =>
        rename_i ad ws
        obtain ⟨u1, u2, rfl, r1, r2⟩ := ra.two_of
        refine ⟨ad :: ps, (p.1, u2) :: xs, rfl, .cons ?_ hp, .cons rfl r2 hk⟩
        have e := r1.key ek
        rw [← e]
        exact ha.sq
theorem cDict : CaA K (fun xs H Q => ∃ (a : Addr) (ps : List Addr) (kvs : List (Key × V)), xs = [.ref a] ∧ SqL K H a (ps.map V.ref) ∧ Paired (fun p kv => SqT K H p [kV kv.1, kv.2]) ps kvs ∧
    ∀ p, H p = none → Q (.ref p) (upd H p (.dK (mergeK [] kvs)))) gDict := by
  intro m S H xs v S' us Q R ru e q
  unfold gDict at e
  split at e
  · next n =>
    obtain ⟨u, rfl, r1⟩ := ru.one_of
    cases r1 with
    | ref hm =>
      split at e
      · next vs en =>
        split at e
        · next kvs ek =>
          cases e
          obtain ⟨xs, hx, rx⟩ := R.ob _ _ _ en hm
          obtain ⟨ps, ys, rfl, hp, hk⟩ := pairsK_ok _ _ _ rx ek
          exact ⟨_, ps, ys, rfl, SqL.of hx, hp, newDic R (hk.merge .nil) q⟩
        · cases e
      · cases e
  · cases e
theorem asp3 {i j l : Nat} {st : Stmt} {ga : AF} (hst : PS X st (tPar3 i j l (tFa X.K ga))) : AS X st (sPar [i, j, l] ga) := ps_w hst fun D σ H h => by
  obtain ⟨m, ρ, S, R, r, q⟩ := h
  unfold sPar at q
  split at q
  · next vs S1 e1 =>
    split at q
    · next ρ1 e2 =>
      refine ⟨m, ρ, S, vs, S1, R, r, e1, fun m1 us H1 E1 R1 r1 => ?_⟩
      match vs, e2, r1 with
      | [v, w, z], e2, .cons rv (.cons rw_ (.cons rz .nil)) =>
        simp only [List.map_cons, List.map_nil, Pat.binds, Pat.bind, Option.bind_some] at e2
        cases e2
        exact ⟨_, _, _, rfl, q m1 _ H1 E1 R1 ((((r.kp (E1.kp R)).set rv i).set rw_ j).set rz l)⟩
      | [], e2, _ => simp [Pat.binds] at e2
      | [_], e2, _ => simp [Pat.binds, Pat.bind] at e2
      | [_, _], e2, _ => simp [Pat.binds, Pat.bind] at e2
      | _ :: _ :: _ :: _ :: _, e2, _ => simp [Pat.binds, Pat.bind] at e2
    · exact q.elim
  · exact q.elim
theorem asp2' {i j : Nat} {st : Stmt} {ga : AF} (hst : PS X st (tPar i j (tFa X.K ga))) : AS X st (sPar [i, j] ga) := ps_w hst fun D σ H h => by
  obtain ⟨m, ρ, S, R, r, q⟩ := h
  unfold sPar at q
  split at q
  · next vs S1 e1 =>
    split at q
    · next ρ1 e2 =>
      refine ⟨m, ρ, S, vs, S1, R, r, e1, fun m1 us H1 E1 R1 r1 => ?_⟩
      match vs, e2, r1 with
      | [v, w], e2, .cons rv (.cons rw_ .nil) =>
        simp only [List.map_cons, List.map_nil, Pat.binds, Pat.bind, Option.bind_some] at e2
        cases e2
        exact ⟨_, _, rfl, q m1 _ H1 E1 R1 (((r.kp (E1.kp R)).set rv i).set rw_ j)⟩
      | [], e2, _ => simp [Pat.binds] at e2
      | [_], e2, _ => simp [Pat.binds, Pat.bind] at e2
      | _ :: _ :: _ :: _, e2, _ => simp [Pat.binds, Pat.bind] at e2
    · exact q.elim
  · exact q.elim
end
end AL
namespace AL
open PySem PySem.Spec PyProof.Rows L2 G Th
variable [TT]
theorem fn_aG {P : Program} {w : World} {K : PySem.W.Frag} {mg : Str → Option Value} {base : Heap} {x qual : Str} {st : Stmt} {f : Addr} {fd : FuncData} {N ps : List Str} {k : Nat} {g : SF}
    (F : Fun K x qual st f fd) (S : FnScope N ps (defScope st))
    (body : ∀ (cdv : Value) (A : Around) (outer : List Env) (s : Shared) (H : Hp) (E : XK), A.guards = some [] →
      Room k (A.deeper (envOfC qual (defScope st) s.heap.objs.size f cdv)) → ASs (cxOf CX0 P w K mg base N qual (defScope st) f cdv A outer s H E).nox (defBody st) g) {n q : Nat} (hn : N.length = n := by rfl) (hq : ps.length = q := by rfl) :
    FnG P w K mg base (k + 1) f fd ps (spA K q (runF n g)) := by
  subst hn hq
  refine fn_g F S (fun vs H Q E h => h.1) (fun cdv A outer s H us Q E hg hr h => ⟨_, body cdv A outer s H E hg hr, ?_⟩)
  obtain ⟨hl, m, S0, vs, v, S', R, r, e, q⟩ := h
  refine ⟨m, _, S0, R, rho_start N r, ?_⟩
  unfold runF at e
  split at e
  · next v' S1 e1 =>
    cases e
    rw [e1]
    exact q
  · next v' S1 e1 =>
    cases e
    rw [e1]
    exact fun m' σ' H' E' R' r' => q m' .non H' E' R' .non
  · cases e
theorem sqF_of {K : PySem.W.Frag} {H : Hp} {a : Addr} {ns : List Int} (hO : Only H) (h : SqL K H a (ns.map V.int)) : SqF K H a ns := by
  rcases h with (h | ⟨o, h⟩) | h
  · rcases hO a with z | ⟨ob, xs, z⟩ <;> (rw [h] at z; cases z)
  · exact .inl ⟨o, h⟩
  · exact .inr h
theorem rel_nil {K : PySem.W.Frag} {H : Hp} (hT : LamT.Tabs TT.T H) : Rel K [] [] H := ⟨rfl, .nil, fun n o a h => by simp at h, hT⟩
theorem hsp_t {K : PySem.W.Frag} {F : FA} (hF : ∀ ns : List Int, ns.length ≤ 63 → ∃ S', F [.scr ns] [] = some (.bl true, S')) {H : Hp} {a : Addr} {ns : List Int} {E : XK} (hl : ns.length ≤ 63) (hT : LamT.Tabs TT.T H) (hS : SqF K H a ns) : spA K 1 F [.ref a] H (fun v _ => v = .bl true) E := by
  obtain ⟨S', e⟩ := hF ns hl
  refine ⟨rfl, [], [], [.scr ns], .bl true, S', rel_nil hT, .cons (.scr hS) .nil, e, fun m' z H' _ _ r => ?_⟩
  cases r
  rfl
end AL
namespace AL
open PySem PySem.Spec PyProof.Rows L2 G Th
variable [TT]

def Kx (x : Nat) (S S' : Sto) : Prop := ∀ (k : Nat) (o : Ob), k ≠ x → S[k]? = some o → S'[k]? = some o
def Kn (S S' : Sto) : Prop := ∀ (k : Nat) (o : Ob), S[k]? = some o → S'[k]? = some o
theorem Kn.refl (S : Sto) : Kn S S := fun _ _ h => h
theorem Kn.trans {S S1 S2 : Sto} (a : Kn S S1) (b : Kn S1 S2) : Kn S S2 := fun k o h => b k o (a k o h)
theorem Kn.app (S T : Sto) : Kn S (S ++ T) := fun k o h => by
  rw [List.getElem?_append_left (List.getElem?_eq_some_iff.mp h).1]
  exact h
theorem Kn.kx {S S' : Sto} (a : Kn S S') (x : Nat) : Kx x S S' := fun k o _ h => a k o h
theorem Kx.trans {x : Nat} {S S1 S2 : Sto} (a : Kx x S S1) (b : Kx x S1 S2) : Kx x S S2 := fun k o n h => b k o n (a k o n h)
theorem Kx.refl (x : Nat) (S : Sto) : Kx x S S := fun _ _ _ h => h
theorem Kx.put {x : Nat} {S : Sto} {o : Ob} : Kx x S (S.set x o) := fun k o' n h => by
  rw [List.getElem?_set_ne (Ne.symm n)]
  exact h
theorem Kn.len {S S' : Sto} (a : Kn S S') : S.length ≤ S'.length := by
  by_cases h : S.length = 0
  · omega
  · have l : S.length - 1 < S.length := by omega
    have := a (S.length - 1) _ (List.getElem?_eq_getElem l)
    have := (List.getElem?_eq_some_iff.mp this).1
    omega
theorem Kx.len {x : Nat} {S S' : Sto} (a : Kx x S S') (h : x + 1 < S.length) : S.length ≤ S'.length := by
  have l : S.length - 1 < S.length := by omega
  have := a (S.length - 1) _ (by omega) (List.getElem?_eq_getElem l)
  have := (List.getElem?_eq_some_iff.mp this).1
  omega

theorem lcR_pure {p : Pat} {t : BF} {f : EF} {ok : Sto → Prop} {ρ : Rho} {S : Sto} (hok : ok S) (b : Val → Bool) (g : Val → Val) : ∀ (vs acc : List Val), acc.length + vs.length < 1000000 →
    (∀ v ∈ vs, ∃ ρ1, p.bind v ρ = some ρ1 ∧ t ρ1 S = some (b v, S) ∧ (b v = true → f ρ1 S = some (g v, S))) → lcR p t f ok ρ vs acc S = some (acc ++ (vs.filter b).map g, S)
  | [], acc, _, _ => by
    unfold lcR
    rw [if_pos hok]
    simp
  | v :: vs, acc, hl, h => by
    obtain ⟨ρ1, h1, h2, h3⟩ := h v (by simp)
    unfold lcR
    rw [if_pos hok, h1, Option.bind_some, h2, Option.bind_some]
    simp only [List.length_cons] at hl
    cases hb : b v with
    | true =>
      rw [h3 hb]
      simp only [if_true, Option.bind_some, show acc.length < 1000000 by omega, if_true]
      rw [lcR_pure hok b g vs (acc ++ [g v]) (by simp; omega) fun w hw => h w (by simp [hw])]
      simp [List.filter_cons, hb]
    | false =>
      simp only [Bool.false_eq_true, if_false]
      rw [lcR_pure hok b g vs acc (by omega) fun w hw => h w (by simp [hw])]
      simp [List.filter_cons, hb]
theorem forR_nil {p : Pat} {g : SF} {ok : Sto → Prop} {ρ : Rho} {S : Sto} (h : ok S) : forR p g ok [] ρ S = .nx ρ S := by
  unfold forR
  rw [if_pos h]
theorem forR_cons {p : Pat} {g : SF} {ok : Sto → Prop} {v : Val} {vs : List Val} {ρ ρ1 : Rho} {S : Sto} (h : ok S) (hb : p.bind v ρ = some ρ1) : forR p g ok (v :: vs) ρ S = (match g ρ1 S with
      | .nx ρ S => forR p g ok vs ρ S
      | .ct ρ S => forR p g ok vs ρ S
      | .bk ρ S => .nx ρ S
      | .rt v S => .rt v S
      | .stuck => .stuck) := by
  rw [forR]
  dsimp only
  rw [if_pos h, hb]
  all_goals rfl

theorem lcR_inv {p : Pat} {t : BF} {f : EF} {ok : Sto → Prop} {ρ : Rho} (I : Nat → List Val → Sto → Prop) (vs : List Val) (hl : vs.length < 900000) (hok : ∀ i a S, I i a S → ok S) (hlen : ∀ i a S, I i a S → a.length ≤ i)
    (step : ∀ i v a S, vs[i]? = some v → I i a S → ∃ ρ1, p.bind v ρ = some ρ1 ∧ ((∃ S1 y S2, t ρ1 S = some (true, S1) ∧ f ρ1 S1 = some (y, S2) ∧ I (i + 1) (a ++ [y]) S2) ∨ (∃ S1, t ρ1 S = some (false, S1) ∧ I (i + 1) a S1))) :
    ∀ (k : Nat) (a : List Val) (S : Sto), k ≤ vs.length → I k a S → ∃ a' S', lcR p t f ok ρ (vs.drop k) a S = some (a', S') ∧ I vs.length a' S' := by
  intro k
  induction hn : vs.length - k generalizing k with
  | zero =>
    intro a S hk h
    have e : k = vs.length := by omega
    subst e
    rw [List.drop_length]
    refine ⟨a, S, ?_, h⟩
    unfold lcR
    rw [if_pos (hok _ _ _ h)]
  | succ n ih =>
    intro a S hk h
    have l : k < vs.length := by omega
    rw [List.drop_eq_getElem_cons l]
    obtain ⟨ρ1, h1, h2⟩ := step k vs[k] a S (List.getElem?_eq_getElem l) h
    have la := hlen _ _ _ h
    rcases h2 with ⟨S1, y, S2, h2, h3, h4⟩ | ⟨S1, h2, h4⟩
    · obtain ⟨a', S', e, h5⟩ := ih (k + 1) (by omega) (a ++ [y]) S2 (by omega) h4
      refine ⟨a', S', ?_, h5⟩
      unfold lcR
      rw [if_pos (hok _ _ _ h), h1, Option.bind_some, h2, Option.bind_some]
      simp only [if_true, h3, Option.bind_some, show a.length < 1000000 by omega, if_true]
      exact e
    · obtain ⟨a', S', e, h5⟩ := ih (k + 1) (by omega) a S1 (by omega) h4
      refine ⟨a', S', ?_, h5⟩
      unfold lcR
      rw [if_pos (hok _ _ _ h), h1, Option.bind_some, h2, Option.bind_some]
      simp only [Bool.false_eq_true, if_false]
      exact e
theorem lcR_run {p : Pat} {t : BF} {f : EF} {ok : Sto → Prop} {ρ : Rho} {S : Sto} (I : Nat → List Val → Sto → Prop) {vs : List Val} (hl : vs.length < 900000) (hok : ∀ i a S, I i a S → ok S) (hlen : ∀ i a S, I i a S → a.length ≤ i) (h0 : I 0 [] S)
    (step : ∀ i v a S, vs[i]? = some v → I i a S → ∃ ρ1, p.bind v ρ = some ρ1 ∧ ((∃ S1 y S2, t ρ1 S = some (true, S1) ∧ f ρ1 S1 = some (y, S2) ∧ I (i + 1) (a ++ [y]) S2) ∨ (∃ S1, t ρ1 S = some (false, S1) ∧ I (i + 1) a S1))) :
    ∃ a' S', lcR p t f ok ρ vs [] S = some (a', S') ∧ I vs.length a' S' := by
  have := lcR_inv I vs hl hok hlen step 0 [] S (Nat.zero_le _) h0
  rwa [List.drop_zero] at this
end AL
namespace K37
open PySem PySem.Spec PyProof.Rows L2 G Th AL
end K37
namespace AL
open PySem PySem.Spec PyProof.Rows L2 G Th
variable [TT]

def CV (K : PySem.W.Frag) (u : Value) (v : Val) : Prop := ∃ uv : V, RelV uv u ∧ ∀ (H : Hp) (m : List Addr), VR K H m uv v
section
variable {K : PySem.W.Frag}
theorem cv_int {i : Int} {t : Nat} : CV K (.int i t) (.int i) := ⟨.int i, ⟨t, rfl⟩, fun _ _ => .int i⟩
theorem cv_non : CV K .none .non := ⟨.non, rfl, fun _ _ => .non⟩
end
section
variable {X : Cx} {e : Expr} {es : List Expr} {kws : List Keyword} {pos p : Pos} {f : EF} {ga gk : AF} {nm : Option Str} {kpos : Pos} {st : Stmt}

theorem pk_w {t t' : TA} (h : PK X kws t) (hi : ∀ σ H Q, t' σ H Q → t σ H Q) : PK X kws t' := ⟨fun p pins s σ H Q I hq => h.run p pins s σ H Q I (hi σ H Q hq)⟩
theorem akn : PK X [] (tFa X.K aNil) := by
  refine pk_w pk_nil fun σ H Q h => ?_
  obtain ⟨m, ρ, S, v, S', R, r, e, q⟩ := h
  cases e
  exact q m [] H (.refl _ _) R .nil
theorem akc (ha : AE X e f) (hr : PK X kws (tFa X.K ga)) : PK X (⟨nm, e, kpos⟩ :: kws) (tFa X.K (aCons f ga)) := by
  refine pk_w (pk_cons ha hr) fun σ H Q h => ?_
  obtain ⟨m, ρ, S, v, S', R, r, e, q⟩ := h
  obtain ⟨⟨x, S1⟩, e1, e⟩ := Option.bind_eq_some_iff.mp e
  obtain ⟨⟨y, S2⟩, e2, e⟩ := Option.bind_eq_some_iff.mp e
  cases e
  exact ⟨m, ρ, S, x, S1, R, r, e1, fun m1 u H1 E1 R1 r1 => ⟨m1, ρ, S1, y, S2, R1, r.kp (E1.kp R), e2, fun m2 w H2 E2 R2 r2 => q m2 _ H2 (E1.trans E2) R2 (.cons (r1.kp (E2.kp R1)) r2)⟩⟩

theorem run_gN {k n : Nat} {f : Addr} {fd : FuncData} {ps ks : List Str} {sp : Sp} {E : XK} {g : List Value → List Value → List Value} {gV : List V → List V → List V} {pins : List (Addr × Obj)} {σ : L2.St} {H : Hp} {s : Shared} {Q : VK} {us ws : List Value} {vs zs : List V}
    (F : FnG X.prog X.w X.K X.mg X.base k f fd ps sp) (hg : X.A.guards = some []) (hr : Room k X.A) (hb : KBn X.K fd ps n ks g gV)
    (I : Inv X pins σ H s) (r : Vals vs us) (rz : Vals zs ws) (l1 : vs.length = n) (l2 : zs.length = ks.length) (h : sp (gV vs zs) H Q E) : wpAny (model X.prog X.w) X.A (call (.ref f) us (ks.zip ws)) (EP X pins σ Q) X.xe s := by
  have r2 := hb.rel r rz
  refine wpAny_call (codeAny_mono (F.run X.A X.stack s H ⟨us, ks.zip ws⟩ (g us ws) (gV vs zs) Q E hg hr I.env0 (hb.to s us ws I.kIn (r.length.symm.trans l1) (rz.length.symm.trans l2)) r2 h) ?_)
  intro res s' c
  match res, c with
  | .error _, c => exact False.elim c
  | .ok (.ret _), c => exact I.after c
  | .ok .next, c => exact False.elim c
  | .ok .brk, c => exact False.elim c
  | .ok .cont, c => exact False.elim c
theorem pe_callNG {k n : Nat} {f : Addr} {fd : FuncData} {ps ks : List Str} {sp : Sp} {x : Str} {t tk : TA} {g : List Value → List Value → List Value} {gV : List V → List V → List V}
    (F : FnG X.prog X.w X.K X.mg X.base k f fd ps sp) (hgd : X.A.guards = some []) (hr : Room k X.A) (hg : Gl X x) (hm : X.mg x = some (.ref f)) (hk : PySem.W.keepIn X.K (.ref f) = true) (hb : KBn X.K fd ps n ks g gV)
    (ha : PA X (e :: es) t) (hkw : PK X kws tk) (hall : (backToKw pos (keywordEach kws X.env)).all (·.1.isSome) = true) (hks : (backToKw pos (keywordEach kws X.env)).filterMap (·.1) = ks)
    (hdb : (x == ("__debug__" : Str)) = false) (he : starEach (e :: es) X.env = (false, eval e X.env) :: starEach es X.env)
    (hpl : ((backTo pos (starEach (e :: es) X.env)).any (·.1) || (backToKw pos (keywordEach kws X.env)).any (·.1.isNone)) = false) :
    PE X (.Call (.Name x p) (e :: es) kws pos) (tCallN n ks.length sp gV E0 t tk) := by
  refine ⟨fun pins s σ H Q I h => ?_⟩
  refine wpAny_Call_Name_kw (ld_glob I hg hm ?_ hdb)
  refine PySem.W.callWith_KW (h₀ := X.base) I.ok.mod.kin hk hall (thn (ha.run pos pins s σ H _ I h) fun us s1 ⟨vs, H1, I1, r, q⟩ => ?_) hpl he
  refine thn (hkw.run pos pins s1 σ H1 _ I1 q) fun ws s2 ⟨zs, H2, I2, rz, l1, l2, q2⟩ => ⟨I2.kIn, ?_⟩
  rw [hks]
  exact run_gN (E := E0) F hgd hr hb I2 r rz l1 l2 q2
end

structure DefK (P : Program) (w : World) (K : PySem.W.Frag) (mg : Str → Option Value) (base : Heap) (k : Nat) (x : Str) (n : Nat) (ks : List Str) (gA : List Val → List Val → List Val) (F : FA) : Prop where
  ex : ∃ (f : Addr) (fd : FuncData) (ps : List Str) (g : List Value → List Value → List Value) (gV : List V → List V → List V), FnG P w K mg base k f fd ps (spA K ps.length F) ∧ KBn K fd ps n ks g gV ∧ mg x = some (.ref f) ∧ PySem.W.keepIn K (.ref f) = true ∧
    ∀ (H : Hp) (m : List Addr) (vs zs : List V) (as bs : List Val), VRs K H m vs as → VRs K H m zs bs → as.length = n → bs.length = ks.length → VRs K H m (gV vs zs) (gA as bs) ∧ (gA as bs).length = ps.length
def eDefK (F : FA) (n m : Nat) (gA : List Val → List Val → List Val) (ga gk : AF) : EF := fun ρ S => (ga ρ S).bind fun p => (gk ρ p.2).bind fun q => if p.1.length = n ∧ q.1.length = m then F (gA p.1 q.1) q.2 else none
theorem acdk {X : Cx} {e : Expr} {es : List Expr} {kws : List Keyword} {pos p : Pos} {ga gk : AF} {k n : Nat} {x : Str} {ks : List Str} {gA : List Val → List Val → List Val} {F : FA} (D : DefK X.prog X.w X.K X.mg X.base k x n ks gA F) (g : X.A.guards = some []) (hr : Room k X.A) (hgl : Gl X x) (ha : AA X (e :: es) ga) (hkw : PK X kws (tFa X.K gk))
    (hall : (backToKw pos (keywordEach kws X.env)).all (·.1.isSome) = true := by rfl) (hks : (backToKw pos (keywordEach kws X.env)).filterMap (·.1) = ks := by rfl)
    (hdb : (x == ("__debug__" : Str)) = false := by decide) (he : starEach (e :: es) X.env = (false, eval e X.env) :: starEach es X.env := by rfl)
    (hpl : ((backTo pos (starEach (e :: es) X.env)).any (·.1) || (backToKw pos (keywordEach kws X.env)).any (·.1.isNone)) = false := by rfl) {m : Nat} (hm : ks.length = m := by rfl) : AE X (.Call (.Name x p) (e :: es) kws pos) (eDefK F n m gA ga gk) := by
  subst hm
  obtain ⟨f, fd, ps, g', gV, hF, hb, hm, hk, rel⟩ := D.ex
  refine pe_w (pe_callNG hF g hr hgl hm hk hb ha hkw hall hks hdb he hpl) fun σ H Q h => ?_
  obtain ⟨m, ρ, S, v, S', R, r, e, q⟩ := h
  obtain ⟨⟨x1, S1⟩, e1, e⟩ := Option.bind_eq_some_iff.mp e
  obtain ⟨⟨x2, S2⟩, e2, e⟩ := Option.bind_eq_some_iff.mp e
  dsimp only at e
  split at e
  · next hl =>
    refine ⟨m, ρ, S, x1, S1, R, r, e1, fun m1 us H1 E1 R1 r1 => ⟨m1, ρ, S1, x2, S2, R1, r.kp (E1.kp R), e2, fun m2 ws H2 E2 R2 r2 => ?_⟩⟩
    have r1' := r1.kp (E2.kp R1)
    obtain ⟨rr, ll⟩ := rel H2 m2 us ws x1 x2 r1' r2 hl.1 hl.2
    exact ⟨by rw [r1.len]; exact hl.1, by rw [r2.len]; exact hl.2, by rw [rr.len]; exact ll, m2, S2, _, v, S', R2, rr, e, fun m3 z H3 E3 R3 r3 => q m3 z H3 ((E1.trans E2).trans E3) R3 r3⟩
  · cases e

theorem fn_aF {P : Program} {w : World} {K : PySem.W.Frag} {mg : Str → Option Value} {base : Heap} {x qual : Str} {st : Stmt} {f : Addr} {fd : FuncData} {N ps : List Str} {k : Nat} {g : SF}
    (F : Fun K x qual st f fd) (S : FnScope N ps (defScope st))
    (body : ∀ (cdv : Value) (A : Around) (outer : List Env) (s : Shared) (H : Hp) (E : XK), A.guards = some [] →
      Room k (A.deeper (envOfC qual (defScope st) s.heap.objs.size f cdv)) → ASs (cxOf CX0 P w K mg base N qual (defScope st) f cdv A outer s H E).nox (defBody st) g) {n : Nat} (hn : N.length = n := by rfl) :
    FnG P w K mg base (k + 1) f fd ps (spA K ps.length (runF n g)) := fn_aG F S body hn rfl
theorem defk_in {P : Program} {w : World} {K : PySem.W.Frag} {mg : Str → Option Value} {base : Heap} {k : Nat} {x : Str} {st : Stmt} {f : Addr} {fd : FuncData} {ps : List Str} {F : FA} {n : Nat} {kws : List (Str × V)} {ks : List Str}
    (G : FnG P w K mg base k f fd ps (spA K ps.length F)) (hm : mg x = some (.ref f)) (FD : FunD K x x (defArgs st) (defBody st) (defScope st) [] kws f fd) (hk : kws ≠ []) (hl : n + ks.length = ps.length)
    (h : ∀ (D : Addr) (doc pm : Value) (an : Option Addr) (cdv ct : Value) (us mv ws : List Value), us.length = n → mv.length = ([] : List (Str × V)).length → ws.length = ks.length →
      KwChain D ((([] : List (Str × V)).map (·.1)).zip mv) (bindArgs (PySem.W.fnOf x x (defArgs st) (defBody st) (defScope st) .none (.ref D) doc pm an cdv ct) ⟨us, ks.zip ws⟩) (ps.zip (us ++ ws))) :
    DefK P w K mg base k x n ks (fun as bs => as ++ bs) F := by
  obtain ⟨mv, hb⟩ := FD.kbinds0 (ps := ps) n ks [] (fun us _ ws => us ++ ws) hk (fun q hq => by cases hq) (fun r1 _ r3 => r1.append r3) h
  refine ⟨f, fd, ps, _, _, G, hb, hm, FD.kp, fun H m vs zs as bs r1 r2 l1 l2 => ⟨r1.app r2, ?_⟩⟩
  rw [List.length_append, l1, l2]
  exact hl

theorem fund_mk {K : PySem.W.Frag} {x qual : Str} {st : Stmt} {f D : Addr} {oc : Value} {od an : Option Addr} {osl : Array (Option Value)} {doc pm cdv ct : Value} {kws : List (Str × V)} (l : K.lookup f = some ⟨oc, od, .func (PySem.W.fnOf x qual (defArgs st) (defBody st) (defScope st) .none (.ref D) doc pm an cdv ct), osl⟩)
    (c : PySem.W.codeIn K cdv qual = true) (k : PySem.W.keepIn K (.ref f) = true) (hq : ∀ q ∈ kws, ∃ u, PySem.W.nsIn K D q.1 = some (some u) ∧ RelV q.2 u) :
    FunD K x qual (defArgs st) (defBody st) (defScope st) [] kws f (PySem.W.fnOf x qual (defArgs st) (defBody st) (defScope st) .none (.ref D) doc pm an cdv ct) := ⟨⟨oc, od, .none, .ref D, doc, pm, an, cdv, ct, osl, rfl, l, c, .inl ⟨rfl, rfl⟩, .inr ⟨D, rfl, hq⟩⟩, k⟩
end AL
namespace AL
open PySem PySem.Spec PyProof.Rows L2 G Th
variable [TT]
def tyN : Val → Sto → Option String := fun v S => match v with
  | .non => some "NoneType"
  | .bl _ => some "bool"
  | .int _ => some "int"
  | .str _ => some "str"
  | .tup _ => some "tuple"
  | .scr _ => some "list"
  | .ref n => match S[n]? with
    | some (.lst _) => some "list"
    | some (.dic _) => some "dict"
    | _ => none
  | .lam _ _ _ _ _ => none
  | .exc _ _ _ _ => none
  | .ptu _ => none
def gIsi (T : String) : Val → Sto → Option (Val × Sto) := fun v S => (tyN v S).bind fun a => (L2.kitB a T).map fun b => (.bl b, S)
theorem kit_int_int : L2.kitB "int" "int" = some true := by decide +kernel
theorem kit_str_int : L2.kitB "str" "int" = some false := by decide +kernel
theorem kit_tuple_int : L2.kitB "tuple" "int" = some false := by decide +kernel
theorem kit_NoneType_int : L2.kitB "NoneType" "int" = some false := by decide +kernel
theorem kit_int_bool : L2.kitB "int" "bool" = some false := by decide +kernel
theorem kit_bool_bool : L2.kitB "bool" "bool" = some true := by decide +kernel
theorem kit_str_str : L2.kitB "str" "str" = some true := by decide +kernel
theorem kit_int_tuple : L2.kitB "int" "tuple" = some false := by decide +kernel
theorem kit_tuple_tuple : L2.kitB "tuple" "tuple" = some true := by decide +kernel
theorem kit_NoneType_tuple : L2.kitB "NoneType" "tuple" = some false := by decide +kernel
section
variable {X : Cx} {e : Expr} {f : EF} {p p2 pos : Pos} {K : PySem.W.Frag}

def gIsT : Val → Val → Sto → Option (Val × Sto) := fun x y S => match x, y with
  | .bl a, .bl b => some (.bl (decide (a = b)), S)
  | _, _ => none
def gIsNT : Val → Val → Sto → Option (Val × Sto) := fun x y S => match x, y with
  | .bl a, .bl b => some (.bl (!decide (a = b)), S)
  | _, _ => none
end
end AL
namespace AL
open PySem PySem.Spec PyProof.Rows L2 G Th
variable [TT]
def pairUp : List Val → Option (List (Key × Val))
  | [] => some []
  | k :: v :: r => match AL.keyOf k, pairUp r with
    | some k, some r => some ((k, v) :: r)
    | _, _ => none
  | _ => none
def flat (ps : List (V × V)) : List V := ps.flatMap fun p => [p.1, p.2]
section
variable {X : Cx} {pos : Pos} {K : PySem.W.Frag} {ga : AF}
theorem pairUp_ok {H : Hp} {m : List Addr} : ∀ (ps : List (V × V)) (vs : List Val) (kvs : List (Key × Val)), VRs K H m (flat ps) vs → pairUp vs = some kvs → ∃ xs : List (Key × V), ps = xs.map (fun kv => (kV kv.1, kv.2)) ∧ KR K H m xs kvs ∧ xs.length = kvs.length
  | [], vs, kvs, r, h => by
    cases r
    cases h
    exact ⟨[], rfl, .nil, rfl⟩
  | (x, y) :: ps, vs, kvs, r, h => by
    cases r with
    | cons r1 r =>
      cases r with
      | cons r2 r =>
        unfold pairUp at h
        split at h
        · next k rest hk hr =>
          cases h
          obtain ⟨xs, e, kr, l⟩ := pairUp_ok ps _ _ r hr
          exact ⟨(k, y) :: xs, by have z := r1.key hk; dsimp only at z; rw [List.map_cons, ← e, z], .cons rfl r2 kr, by simp [l]⟩
        · cases h
def ADp (X : Cx) (pos : Pos) (keys : List (Option Expr)) (values : List Expr) (ga : AF) : Prop := ∃ trs, PPs X pos keys values trs ∧ ∀ (σ : L2.St) (H : Hp) (Q : List (V × V) → Hp → Prop), (∃ m ρ S vs S', Rel X.K m S H ∧ RhoR X.K H m ρ σ ∧ ga ρ S = some (vs, S') ∧ ∀ m' ps H', Ext m H m' H' → Rel X.K m' S' H' → VRs X.K H' m' (flat ps) vs → Q ps H') → tPairs trs σ H Q
theorem adp0 : ADp X pos [] [] aNil := ⟨[], pps_nil, fun σ H Q ⟨m, ρ, S, vs, S', R, r, e, q⟩ => by
  cases e
  exact q m [] H (.refl _ _) R .nil⟩
theorem adp1 {k v : Expr} {ks : List (Option Expr)} {vs : List Expr} {fk fv : EF} (hk : AE X k fk) (hv : AE X v fv) (hr : ADp X pos ks vs ga) : ADp X pos (some k :: ks) (v :: vs) (aCons fk (aCons fv ga)) := by
  obtain ⟨trs, hp, h⟩ := hr
  refine ⟨_, pps_cons hk hv hp, fun σ H Q ⟨m, ρ, S, ws, S', R, r, e, q⟩ => ?_⟩
  obtain ⟨⟨x, S1⟩, e1, e⟩ := Option.bind_eq_some_iff.mp e
  obtain ⟨⟨y', S3⟩, e', e⟩ := Option.bind_eq_some_iff.mp e
  cases e
  obtain ⟨⟨y, S2⟩, e2, e'⟩ := Option.bind_eq_some_iff.mp e'
  obtain ⟨⟨zs, S4⟩, e3, e'⟩ := Option.bind_eq_some_iff.mp e'
  cases e'
  exact ⟨m, ρ, S, x, S1, R, r, e1, fun m1 u H1 E1 R1 r1 => ⟨m1, ρ, S1, y, S2, R1, r.kp (E1.kp R), e2, fun m2 w H2 E2 R2 r2 => h σ H2 _ ⟨m2, ρ, S2, zs, _, R2, r.kp ((E1.trans E2).kp R), e3, fun m3 ps H3 E3 R3 r3 =>
    q m3 ((u, w) :: ps) H3 ((E1.trans E2).trans E3) R3 (.cons (r1.kp ((E2.trans E3).kp R1)) (.cons (r2.kp (E3.kp R2)) r3))⟩⟩⟩
def eDsp (ga : AF) : EF := fun ρ S => (ga ρ (S ++ [.dic []])).bind fun p => match pairUp p.1, p.2[S.length]? with
  | some kvs, some (.dic []) => if kvs.length ≤ 15 then some (.ref S.length, p.2.set S.length (.dic (mergeA [] kvs))) else none
  | _, _ => none
theorem adsp {keys : List (Option Expr)} {values : List Expr} (h : ADp X pos keys values ga) (hall : keys.all (·.isSome) = true := by rfl) (hl : keys.length = values.length := by rfl) (h0 : keys ≠ [] := by simp) (h15 : keys.length ≤ 15 := by simp) : AE X (.Dict keys values pos) (eDsp ga) := by
  obtain ⟨trs, hp, h⟩ := h
  refine pe_w (pe_disp hp hall hl h0 h15) fun σ H Q ⟨m, ρ, S, v, S', R, r, e, q⟩ => ?_
  intro p hn
  obtain ⟨R1, E1⟩ := R.alloc (o := .dK []) (b := .dic []) hn ⟨[], upd_same, (KR.nil : KR X.K _ _ [] [])⟩
  obtain ⟨⟨vs, S2⟩, e1, e⟩ := Option.bind_eq_some_iff.mp e
  dsimp only at e
  split at e
  · next kvs hkv hs =>
    split at e
    · next l15 =>
      cases e
      refine h σ _ _ ⟨m ++ [p], ρ, _, vs, S2, R1, r.kp (E1.kp R), e1, fun m2 ps H2 E2 R2 r2 => ?_⟩
      have hm : m2[S.length]? = some p := (E2.kp R1).get (by rw [← R.len, List.getElem?_concat_length])
      obtain ⟨xs, hx, hk⟩ := R2.ob _ _ _ hs hm
      have hk : KR X.K H2 m2 xs [] := hk
      have z := hk.nil_of
      subst z
      obtain ⟨ys, rfl, kr, yl⟩ := pairUp_ok ps vs kvs r2 hkv
      refine ⟨hx, ys, rfl, by omega, ?_⟩
      have hmm := List.mem_of_getElem? hm
      have kk : Kp m2 H2 m2 (upd H2 p (.dK (mergeK [] ys))) := R2.kput hmm
      obtain ⟨R3, E3⟩ := R2.put (o := .dK (mergeK [] ys)) (b := .dic (mergeA [] kvs)) hm ⟨_, upd_same, ((kr.merge (.nil : KR X.K H2 m2 [] [])).kp kk)⟩
      exact q m2 _ _ ((E1.trans E2).trans E3) R3 (.ref hm)
    · cases e
  · cases e

def gExt : Val → List Val → Sto → Option (Val × Sto) := fun x xs S => match x, xs with
  | .ref n, [.ref b] => match S[n]?, S[b]? with
    | some (.lst vs), some (.lst ws) => if vs.length + ws.length ≤ sizeLine then some (.non, S.set n (.lst (vs ++ ws))) else none
    | _, _ => none
  | _, _ => none
theorem mExt : MtA K rExtend gExt := by
  intro m S H x xs v S' u us Q R ru rus e q
  unfold gExt at e
  split at e
  · split at e
    · next n b _ _ vs ws en eb =>
      split at e
      · next hl =>
        cases e
        cases ru with
        | ref ha =>
          obtain ⟨y, rfl, r1⟩ := rus.one_of
          cases r1 with
          | ref hb =>
            obtain ⟨xs, hx, rx⟩ := R.ob _ _ _ en ha
            obtain ⟨zs, hz, rz⟩ := R.ob _ _ _ eb hb
            have rx : VRs K H m xs vs := rx
            have rz : VRs K H m zs ws := rz
            refine ⟨_, _, xs, zs, rfl, rfl, hx, hz, by rw [rx.len, rz.len]; exact hl, ?_⟩
            have hm := List.mem_of_getElem? ha
            have k : Kp m H m (upd H _ (.lst (xs ++ zs))) := R.kput hm
            obtain ⟨R2, E2⟩ := R.put (o := .lst (xs ++ zs)) (b := .lst (vs ++ ws)) ha ⟨_, upd_same, (rx.kp k).app (rz.kp k)⟩
            exact q m _ _ E2 R2 .non
      · cases e
    · cases e
  · cases e
def eNRg (fa : EF) (ga : AF) : EF := fun ρ S => (fa ρ S).bind fun p => (ga ρ p.2).bind fun r => match p.1, r.1 with
  | .int i, [.int n] => some (.bl (!decide (0 ≤ i ∧ i < n)), r.2)
  | _, _ => none
open Classical in
noncomputable def dcR (p : Pat) (t : BF) (fk f : EF) (ok : Sto → Prop) (ρ : Rho) : List Val → List (Key × Val) → Sto → Option (List (Key × Val) × Sto)
  | [], acc, S => if ok S then some (acc, S) else none
  | v :: vs, acc, S => if ok S then (p.bind v ρ).bind fun ρ1 => (t ρ1 S).bind fun b => if b.1 then (fk ρ1 b.2).bind fun k => (f ρ1 k.2).bind fun y => (match AL.keyOf k.1 with
      | some kk => if acc.length < 1000000 then dcR p t fk f ok ρ vs (putA acc kk y.1) y.2 else none
      | none => none) else dcR p t fk f ok ρ vs acc b.2 else none
noncomputable def eDc (p : Pat) (fi : IF) (t : BF) (fk f : EF) (own : List Nat) : EF := fun ρ S => (fi ρ S).bind fun z => (dcR p t fk f z.2.1 (wipeR ρ own) z.1 [] z.2.2).bind fun y => some (.ref y.2.length, y.2 ++ [.dic y.1])
theorem eDc_ok {p : Pat} {fi : IF} {t : BF} {fk f : EF} {own : List Nat} (hp : ∀ i ∈ p.slots, i ∈ own) {σ : L2.St} {H : Hp} {Q : VK} (h : tF K (eDc p fi t fk f own) σ H Q) : tDc (tI K fi) (tG K p) (tFb K t) (tF K fk) (tF K f) own σ H Q := by
  obtain ⟨m, ρ, S, v, S', R, r, e, q⟩ := h
  obtain ⟨⟨vs, ok, S1⟩, e1, e⟩ := Option.bind_eq_some_iff.mp e
  obtain ⟨⟨ys, S2⟩, e2, e⟩ := Option.bind_eq_some_iff.mp e
  cases e
  refine ⟨m, ρ, S, vs, ok, S1, R, r, e1, fun m0 H0 J E0 R0 it0 D hD => ?_⟩
  dsimp only at e2 q
  refine ⟨fun i k H => k + i = vs.length ∧ ∃ m S acc xs, Ext m0 H0 m H ∧ Rel K m S H ∧ D ∉ m ∧ H D = some (.dK xs) ∧ KR K H m xs acc ∧ dcR p t fk f ok (wipeR ρ own) (vs.drop i) acc S = some (ys, S2), ?_, ?_⟩
  · obtain ⟨R1, E1⟩ := R0.tmp (o := .dK []) hD
    exact ⟨vs.length, by omega, m0, S1, [], [], E1, R1, R0.noNone hD, upd_same, KR.nil, e2⟩
  · rintro i k H ⟨hk, m, S, acc, xs, E, R, nD, hDx, rx, el⟩
    by_cases hlt : i < vs.length
    · rw [List.drop_eq_getElem_cons hlt] at el
      unfold dcR at el
      split at el
      · next hok =>
        obtain ⟨ρ1, b1, el⟩ := Option.bind_eq_some_iff.mp el
        obtain ⟨⟨bb, S3⟩, b2, el⟩ := Option.bind_eq_some_iff.mp el
        dsimp only at el
        obtain ⟨go, yl⟩ := it0.step i m S H E R hok vs[i] (List.getElem?_eq_getElem hlt)
        refine .inr ⟨go, fun H => ∃ m S acc xs, Ext m0 H0 m H ∧ Rel K m S H ∧ D ∉ m ∧ H D = some (.dK xs) ∧ KR K H m xs acc ∧ dcR p t fk f ok (wipeR ρ own) (vs.drop (i + 1)) acc S = some (ys, S2), fun H' h => ⟨k - 1, by omega, by omega, h⟩, fun x H' hy => ?_⟩
        obtain ⟨R', E', rx'⟩ := yl x H' hy
        have rr : RhoR K H' m (wipeR ρ own) (L2.wipe σ own) := (r.wipe own).kp ((((E0.kp (by assumption)).trans (E.kp R0))).trans (E'.kp R))
        refine ⟨m, S, wipeR ρ own, vs[i], ρ1, R', rr, rx', b1, fun σ1 r1 w1 => ⟨?_, m, ρ1, S, bb, S3, R', r1, b2, fun m3 H3 E3 R3 => ?_⟩⟩
        · have := w1 own hp
          rw [this]
          have idem : ∀ (σ : L2.St) (vs ws : List Nat), (∀ i ∈ vs, i ∈ ws) → L2.wipe (L2.wipe σ vs) ws = L2.wipe σ ws := by
            intro σ vs ws
            induction vs with
            | nil => intro _; rfl
            | cons v vs ih =>
              intro h
              have e : L2.wipe σ (v :: vs) = (L2.wipe σ vs).set v none := rfl
              rw [e, wipe_set _ _ (h v (by simp)), ih fun i hi => h i (by simp [hi])]
          exact idem σ own own fun i hi => hi
        · have nD3 : D ∉ m3 := E3.no (E'.fr D _ hDx nD) nD
          have hD3 : H3 D = some (.dK xs) := E3.fr D _ (E'.fr D _ hDx nD) nD
          have k3 := (E'.kp R).trans (E3.kp R')
          cases bb with
          | true =>
            rw [if_pos rfl] at el
            refine iteT ?_
            obtain ⟨⟨y0, S4⟩, b3, el⟩ := Option.bind_eq_some_iff.mp el
            obtain ⟨⟨y, S5⟩, b4, el⟩ := Option.bind_eq_some_iff.mp el
            dsimp only at el b4
            split at el
            · next kk hkk =>
              split at el
              · next hlen =>
                refine ⟨m3, ρ1, S3, y0, S4, R3, r1.kp (E3.kp R'), b3, fun m4 u0 H4 E4 R4 r4 => ⟨m4, ρ1, S4, y, S5, R4, (r1.kp (E3.kp R')).kp (E4.kp R3), b4, fun m5 u H5 E5 R5 r5 => ?_⟩⟩
                have nD4 : D ∉ m4 := E4.no hD3 nD3
                have hD4 : H4 D = some (.dK xs) := E4.fr D _ hD3 nD3
                have nD5 : D ∉ m5 := E5.no hD4 nD4
                have hD5 : H5 D = some (.dK xs) := E5.fr D _ hD4 nD4
                have rx5 := rx.kp ((k3.trans (E4.kp R3)).trans (E5.kp R4))
                refine ⟨xs, kk, r4.key hkk, hD5, by rw [rx.len]; exact Nat.lt_of_lt_of_le hlen (by decide), ?_⟩
                have kD : Kp m5 H5 m5 (upd H5 D (.dK (putK xs kk u))) := .at_ fun u' e => by rw [hD5] at e; cases e; exact .inr (.inl ⟨_, rfl⟩)
                have EE := (((E.trans E').trans E3).trans E4).trans E5
                refine ⟨m5, S5, putA acc kk y, putK xs kk u, ⟨EE.pre, fun a o h n t => ?_, EE.nw'⟩, R5.off kD (fun a ha => upd_ne fun z => nD5 (z ▸ ha)) (fun P ps h => tbl_at hD5 (fun _ z => by cases z) h), nD5, upd_same, (rx5.put kk r5).kp kD, el⟩
                rw [upd_ne (ne_of_none h hD)]
                exact EE.fr' a o h n t
              · cases el
            · cases el
          | false =>
            rw [if_neg Bool.false_ne_true] at el
            refine iteF ?_
            exact ⟨m3, S3, acc, xs, (E.trans E').trans E3, R3, nD3, hD3, rx.kp k3, el⟩
      · cases el
    · have e : i = vs.length := by omega
      subst e
      rw [List.drop_length] at el
      unfold dcR at el
      split at el
      · next hok =>
        cases el
        refine .inl ⟨it0.stop m _ H E R hok, ?_⟩
        have E1 : Ext m0 H0 (m ++ [D]) H := by
          obtain ⟨r', hr'⟩ := E.pre
          refine ⟨⟨r' ++ [D], by rw [hr', List.append_assoc]⟩, E.fr', fun a o ha n ho => ?_⟩
          rcases List.mem_append.mp ha with z | z
          · exact E.nw' a o z n ho
          · simp only [List.mem_singleton] at z
            rw [z, hD] at ho
            cases ho
        have kk : Kp m H (m ++ [D]) H := .grow [D] (.refl _ _)
        have R1 : Rel K (m ++ [D]) (S2 ++ [.dic ys]) H := by
          refine ⟨by simp [R.len], ?_, fun n o' a h1 h2 => ?_, R.tb⟩
          · rw [List.nodup_append]
            refine ⟨R.nd, by simp, fun a ha b hb z => ?_⟩
            simp only [List.mem_singleton] at hb
            exact nD (hb ▸ z ▸ ha)
          · by_cases hn : n < S2.length
            · rw [List.getElem?_append_left hn] at h1
              rw [List.getElem?_append_left (by rw [R.len]; exact hn)] at h2
              exact (R.ob n o' a h1 h2).kp kk rfl
            · have e : n = S2.length := by
                have := (List.getElem?_eq_some_iff.mp h1).1
                simp only [List.length_append, List.length_singleton] at this
                omega
              subst e
              rw [List.getElem?_concat_length] at h1
              rw [← R.len, List.getElem?_concat_length] at h2
              cases h1
              cases h2
              exact ⟨xs, hDx, (rx.kp kk : KR K H (m ++ [D]) xs _)⟩
        refine q (m ++ [D]) (.ref D) H (E0.trans E1) R1 (.ref ?_)
        rw [← R.len, List.getElem?_concat_length]
      · cases el
theorem adc {kx vx tg it : Expr} {ifs : List Expr} {scope : Scope} {own : List (Str × Nat)} {p : Pat} {fi : IF} {t : BF} {fk f : EF} (hc : X.calm = true) (hN : X.N.Nodup) (hi : AI X tg it fi) (ok : BlkOk X.N X.env.scope scope own) (hp : ∀ i ∈ p.slots, i ∈ own.map (·.2))
    (hg : ∀ (s : Shared) (H : Hp) (C : Addr) (cl : List (Str × Addr)) (fp : List Addr), PG (X.blk s H scope (compEnvC scope cl C X.env) fp) tg (tG X.K p)) (ht : ∀ (s : Shared) (H : Hp) (C : Addr) (cl : List (Str × Addr)) (fp : List Addr), PTs (X.blk s H scope (compEnvC scope cl C X.env) fp) ifs (tFb X.K t))
    (hk : ∀ (s : Shared) (H : Hp) (C : Addr) (cl : List (Str × Addr)) (fp : List Addr), AE (X.blk s H scope (compEnvC scope cl C X.env) fp) kx fk)
    (he : ∀ (s : Shared) (H : Hp) (C : Addr) (cl : List (Str × Addr)) (fp : List Addr), AE (X.blk s H scope (compEnvC scope cl C X.env) fp) vx f) (hs : ∀ x, foldedSetIterable it X.env x = pure x := by intro _; rfl) :
    AE X (.DictComp kx vx [⟨tg, it, ifs, 0⟩] scope pos) (eDc p fi t fk f (own.map (·.2))) := pe_w (pe_dc hc hN hi ok hg ht hk he hs) fun _ _ _ h => eDc_ok hp h

def intsOf : List Val → Option (List Int)
  | [] => some []
  | .int x :: r => (intsOf r).map (x :: ·)
  | _ => none
theorem ints_eq : ∀ {vs : List Val} {ns : List Int}, intsOf vs = some ns → vs = ns.map Val.int
  | [], ns, h => by cases h; rfl
  | .int x :: r, ns, h => by
    obtain ⟨t, h1, h2⟩ := Option.map_eq_some_iff.mp h
    cases h2
    rw [ints_eq h1]
    rfl
  | .non :: r, _, h => by cases h
  | .str _ :: r, _, h => by cases h
  | .bl _ :: r, _, h => by cases h
  | .ref _ :: r, _, h => by cases h
  | .tup _ :: r, _, h => by cases h
  | .scr _ :: r, _, h => by cases h
  | .lam _ _ _ _ _ :: r, _, h => by cases h
  | .exc _ _ _ _ :: r, _, h => by cases h
  | .ptu _ :: r, _, h => by cases h
theorem VRs.ints {H : Hp} {m : List Addr} : ∀ {us : List V} {ns : List Int}, VRs K H m us (ns.map Val.int) → us = ns.map V.int
  | _, [], r => by cases r; rfl
  | _, n :: ns, r => by
    cases r with
    | cons a b =>
      cases a
      rw [b.ints]
      rfl

theorem asdc {i : Nat} {y : Str} {py spos : Pos} {kx vx tg it : Expr} {ifs : List Expr} {scope : Scope} {own : List (Str × Nat)} {p : Pat} {fi : IF} {t : BF} {fk f : EF} (hc : X.calm = true) (hN : X.N.Nodup) (hy : X.N[i]? = some y) (hyl : X.env.scope.names.lookup y = some .local)
    (hsw : swapsWith (.DictComp kx vx [⟨tg, it, ifs, 0⟩] scope pos) (some (.Name y py)) spos.line X.env = pure true) (hi : AI X tg it fi) (ok : BlkOk X.N X.env.scope scope own) (hp : ∀ i ∈ p.slots, i ∈ own.map (·.2))
    (hg : ∀ (s : Shared) (H : Hp) (C : Addr) (cl : List (Str × Addr)) (fp : List Addr), PG (X.blk s H scope (compEnvC scope cl C X.env) fp) tg (tG X.K p)) (ht : ∀ (s : Shared) (H : Hp) (C : Addr) (cl : List (Str × Addr)) (fp : List Addr), PTs (X.blk s H scope (compEnvC scope cl C X.env) fp) ifs (tFb X.K t))
    (hk : ∀ (s : Shared) (H : Hp) (C : Addr) (cl : List (Str × Addr)) (fp : List Addr), AE (X.blk s H scope (compEnvC scope cl C X.env) fp) kx fk)
    (he : ∀ (s : Shared) (H : Hp) (C : Addr) (cl : List (Str × Addr)) (fp : List Addr), AE (X.blk s H scope (compEnvC scope cl C X.env) fp) vx f) (hs : ∀ x, foldedSetIterable it X.env x = pure x := by intro _; rfl) :
    AS X (.Assign [.Name y py] (.DictComp kx vx [⟨tg, it, ifs, 0⟩] scope pos) spos) (sAsg (.nm i) (eDc p fi t fk f (own.map (·.2)))) := by
  refine ⟨fun pins s σ H D I h => ?_⟩
  have h : tDc (tI X.K fi) (tG X.K p) (tFb X.K t) (tF X.K fk) (tF X.K f) (own.map (·.2)) σ H fun x H1 => gName i x σ H1 D.nx := by
    obtain ⟨m, ρ, S, R, r, q⟩ := h
    unfold sAsg at q
    split at q
    · next v S1 e1 =>
      simp only [Pat.bind] at q
      exact eDc_ok hp ⟨m, ρ, S, v, S1, R, r, e1, fun m1 u H1 E1 R1 r1 => q m1 _ H1 E1 R1 ((r.kp (E1.kp R)).set r1 i)⟩
    · exact q.elim
  rw [exec_Assign_Name_used _ _ _ _ hsw]
  refine wpAny_bind (wpAny_standAt (wpAny_bind ?_))
  show wpAny _ X.A (do let _ ← comprehension (.DictComp kx vx [⟨tg, it, ifs, 0⟩] scope pos) scope X.env (firstIterPos [⟨tg, it, ifs, 0⟩] pos) newDict false (eval it X.env) (some (assign (.Name y py) X.env))) _ _ s
  refine wpAny_bind (thn (dc_core (Qf := fun _ s' => SP X pins D .next s') hc hN I hi ok hg ht hk he hs h fun L C s' m H' I' q hn fq => ?_) fun _ s' hq => wpAny_pure (wpAny_pure hq))
  show wpAny _ _ (assign (.Name y py) X.env (.ref L)) _ _ _
  refine wpAny_assign_Name (store_ok2 (v := V.ref L) I' hN hy (.inl hyl) rfl (fun s2 I2 ⟨a, sb, ha⟩ => ?_) (.inr hyl))
  obtain ⟨f0, f1, f2, f3, f4, f5⟩ := fq
  have ne : C ≠ a := ha.elim (fun z => by rw [z]; exact f1) fun z e => f4 y a z e.symm
  exact ⟨m, hn.sameBut sb ne, fun h3 sb3 => ⟨_, H', I2.turned (t' := s2.toks) (fun b o hb e => (sb3.2 b hb).trans e) f0 f1 f3 f4 f5, q⟩⟩
theorem sw_dc {kx vx : Expr} {gs : List Comprehension} {scope : Scope} {pos py : Pos} {y : Str} {l : Nat} {env : Env} (hk : env.scope.kind = .function) (hy : env.scope.names.lookup y = some .local) (hl : (py.line == pos.line) = true)
    (ha : (scope.names.any fun (n, k) => n == y && (k == .local || k == .cell)) = false) : swapsWith (.DictComp kx vx gs scope pos) (some (.Name y py)) l env = pure true := by
  have ky : env.kindOf y = some .local := hy
  have hb : env.blockKind = .function := by unfold Env.blockKind; rw [hk]; rfl
  unfold swapsWith
  simp only [hb, ky, ha, Expr.pos, hl]
  rfl
end
end AL
namespace AL
open PySem PySem.Spec PyProof.Rows L2 G Th
variable [TT]
def Wp {α : Type} (o : Option (α × Sto)) (Q : α → Sto → Prop) : Prop := ∃ a S', o = some (a, S') ∧ Q a S'
def WsD (r : Res) (N : Rho → Sto → Prop) (R : Val → Sto → Prop) : Prop := match r with
  | .nx ρ S => N ρ S
  | .rt v S => R v S
  | _ => False
structure Ws (r : Res) (N : Rho → Sto → Prop) (R : Val → Sto → Prop) : Prop where
  h : WsD r N R
def Tb (v : Val) (X : Bool → Prop) : Prop := ∃ b, v = .bl b ∧ X b
theorem tb {v : Val} {b : Bool} {X : Bool → Prop} (h : v = .bl b) (q : X b) : Tb v X := ⟨b, h, q⟩
def Ti (v : Val) (X : Int → Prop) : Prop := ∃ i, v = .int i ∧ X i
theorem ti {v : Val} {i : Int} {X : Int → Prop} (h : v = .int i) (q : X i) : Ti v X := ⟨i, h, q⟩
def Br (b : Bool) (P Q : Prop) : Prop := (b = true → P) ∧ (b = false → Q)
theorem Br.of {b : Bool} {P Q : Prop} (p : b = true → P) (q : b = false → Q) : Br b P Q := ⟨p, q⟩
theorem brT {b : Bool} {P Q : Prop} (h : b = true) (p : P) : Br b P Q := ⟨fun _ => p, fun z => (by rw [h] at z; cases z)⟩
theorem brF {b : Bool} {P Q : Prop} (h : b = false) (q : Q) : Br b P Q := ⟨fun z => (by rw [h] at z; cases z), fun _ => q⟩
def Bn (o : Option Rho) (N : Rho → Prop) : Prop := ∃ ρ1, o = some ρ1 ∧ N ρ1
theorem bn {o : Option Rho} {ρ1 : Rho} {N : Rho → Prop} (h : o = some ρ1) (q : N ρ1) : Bn o N := ⟨ρ1, h, q⟩
def Sd (p q : Prop) : Prop := p ∧ q
theorem sd {p q : Prop} (h : p) (g : q) : Sd p q := ⟨h, g⟩
def Wi (o : Option (List Val × (Sto → Prop) × Sto)) (Q : List Val → (Sto → Prop) → Sto → Prop) : Prop := ∃ vs ok S, o = some (vs, ok, S) ∧ Q vs ok S
section
variable {α β : Type} {ρ : Rho} {S : Sto} {f fa fb fc fo fi : EF} {t t' : BF} {ga : AF} {Q : Val → Sto → Prop} {B : Bool → Sto → Prop} {A : List Val → Sto → Prop} {g1 g2 : SF} {N : Rho → Sto → Prop} {R : Val → Sto → Prop} {v : Val} {i : Nat} {p : Pat}
theorem Wp.bind {o : Option (α × Sto)} {k : α × Sto → Option (β × Sto)} {Q : β → Sto → Prop} (h : Wp o fun a S => Wp (k (a, S)) Q) : Wp (o.bind k) Q := by
  obtain ⟨a, S1, e, b, S2, e2, q⟩ := h
  exact ⟨b, S2, by rw [e]; exact e2, q⟩
theorem Wp.imp {o : Option (α × Sto)} {P Q : α → Sto → Prop} (h : Wp o P) (i : ∀ a S, P a S → Q a S) : Wp o Q := by
  obtain ⟨a, S1, e, q⟩ := h
  exact ⟨a, S1, e, i _ _ q⟩
theorem Wp.of {o : Option (α × Sto)} {Q : α → Sto → Prop} {a : α} {S : Sto} (e : o = some (a, S)) (q : Q a S) : Wp o Q := ⟨a, S, e, q⟩
theorem Wp.eq {F : FA} {vs : List Val} {Q : Val → Sto → Prop} (h : Wp (F vs S) Q) : ∃ v S', F vs S = some (v, S') ∧ Q v S' := h
theorem wv (h : ρ[i]? = some (some v)) (q : Q v S) : Wp (eV i ρ S) Q := ⟨v, S, by unfold eV; rw [h], q⟩
theorem wc (q : Q v S) : Wp (eC v ρ S) Q := ⟨v, S, rfl, q⟩
theorem wB {g : Val → Val → Sto → Option (Val × Sto)} (h : Wp (fa ρ S) fun x S1 => Wp (fb ρ S1) fun y S2 => Wp (g x y S2) Q) : Wp (eB g fa fb ρ S) Q := Wp.bind (h.imp fun a S h => Wp.bind h)
theorem wU {g : Val → Sto → Option (Val × Sto)} (h : Wp (fa ρ S) fun x S1 => Wp (g x S1) Q) : Wp (eU g fa ρ S) Q := Wp.bind h
theorem wT (h : Wp (f ρ S) fun v S1 => Tb v fun b => B b S1) : Wp (eT f ρ S) B := Wp.bind (h.imp fun a S ⟨b, e, q⟩ => by subst e; exact ⟨b, S, rfl, q⟩)
theorem wbA (h : Wp (t ρ S) fun b S1 => Br b (Wp (t' ρ S1) B) (B false S1)) : Wp (bAnd t t' ρ S) B := Wp.bind (h.imp fun b S h => by
  cases b with
  | true => exact h.1 rfl
  | false => exact ⟨_, _, rfl, h.2 rfl⟩)
theorem wbO (h : Wp (t ρ S) fun b S1 => Br b (B true S1) (Wp (t' ρ S1) B)) : Wp (bOr t t' ρ S) B := Wp.bind (h.imp fun b S h => by
  cases b with
  | true => exact ⟨_, _, rfl, h.1 rfl⟩
  | false => exact h.2 rfl)
theorem wbN (h : Wp (t ρ S) fun b S1 => B (!b) S1) : Wp (bNot t ρ S) B := Wp.bind (h.imp fun b S h => ⟨_, _, rfl, h⟩)
theorem wbY (h : B true S) : Wp (bYes ρ S) B := ⟨_, _, rfl, h⟩
theorem weA (h : Wp (fa ρ S) fun v S1 => Tb v fun b => Br b (Wp (fb ρ S1) Q) (Q (.bl false) S1)) : Wp (eAnd fa fb ρ S) Q := Wp.bind (h.imp fun a S ⟨b, e, h⟩ => by
  subst e
  cases b with
  | true => exact h.1 rfl
  | false => exact ⟨_, _, rfl, h.2 rfl⟩)
theorem weO (h : Wp (fa ρ S) fun v S1 => Tb v fun b => Br b (Q (.bl true) S1) (Wp (fb ρ S1) Q)) : Wp (eOr fa fb ρ S) Q := Wp.bind (h.imp fun a S ⟨b, e, h⟩ => by
  subst e
  cases b with
  | true => exact ⟨_, _, rfl, h.1 rfl⟩
  | false => exact h.2 rfl)
theorem weN (h : Wp (fa ρ S) fun v S1 => Tb v fun b => Q (.bl (!b)) S1) : Wp (eNot fa ρ S) Q := Wp.bind (h.imp fun a S ⟨b, e, h⟩ => by
  subst e
  exact ⟨_, _, rfl, h⟩)
theorem weI (h : Wp (t ρ S) fun b S1 => Br b (Wp (fa ρ S1) Q) (Wp (fb ρ S1) Q)) : Wp (eIf t fa fb ρ S) Q := Wp.bind (h.imp fun b S h => by
  cases b with
  | true => exact h.1 rfl
  | false => exact h.2 rfl)
theorem weCh {g g' : Val → Val → Sto → Option (Val × Sto)} (h : Wp (fa ρ S) fun x S1 => Wp (fb ρ S1) fun y S2 => Wp (g x y S2) fun z S3 => Tb z fun b => Br b (Wp (fc ρ S3) fun w S4 => Wp (g' y w S4) Q) (Q (.bl false) S3)) : Wp (eCh g g' fa fb fc ρ S) Q :=
  Wp.bind (h.imp fun x S1 h => Wp.bind (h.imp fun y S2 h => Wp.bind (h.imp fun z S3 ⟨b, e, h⟩ => by
    subst e
    cases b with
    | true => exact Wp.bind (h.1 rfl)
    | false => exact ⟨_, _, rfl, h.2 rfl⟩)))
theorem wa0 (h : A [] S) : Wp (aNil ρ S) A := ⟨_, _, rfl, h⟩
theorem wa1 (h : Wp (f ρ S) fun v S1 => Wp (ga ρ S1) fun vs S2 => A (v :: vs) S2) : Wp (aCons f ga ρ S) A := Wp.bind (h.imp fun x S1 h => Wp.bind (h.imp fun y S2 h => ⟨_, _, rfl, h⟩))
theorem wTup (h : Wp (ga ρ S) fun vs S1 => Sd (vs.length ≤ 1000000) (Q (.tup vs) S1)) : Wp (eTup ga ρ S) Q := Wp.bind (h.imp fun x S1 h => ⟨_, _, if_pos h.1, h.2⟩)

def Nw (S : Sto) (o : Ob) (Q : Val → Sto → Prop) : Prop := ∀ (T : Sto) (r : Nat), r = S.length → T.length = S.length + 1 → T[r]? = some o → Kn S T → Q (.ref r) T
theorem Nw.use {o : Ob} (h : Nw S o Q) : Q (.ref S.length) (S ++ [o]) := h _ _ rfl (by simp) (by simp) (Kn.app _ _)
theorem wLst (h : Wp (ga ρ S) fun vs S1 => Sd (vs.length ≤ 1000000) (Nw S1 (.lst vs) Q)) : Wp (eLst ga ρ S) Q := Wp.bind (h.imp fun x S1 h => ⟨_, _, if_pos h.1, h.2.use⟩)
theorem wDic (h : Nw S (.dic []) Q) : Wp (eDic ρ S) Q := ⟨_, _, rfl, h.use⟩
theorem wCall {g : List Val → Sto → Option (Val × Sto)} (h : Wp (ga ρ S) fun vs S1 => Wp (g vs S1) Q) : Wp (eCall g ga ρ S) Q := Wp.bind h
theorem wDef {F : FA} {n : Nat} (h : Wp (ga ρ S) fun vs S1 => Sd (vs.length = n) (Wp (F vs S1) Q)) : Wp (eDef F n ga ρ S) Q := Wp.bind (h.imp fun x S1 h => by
  show Wp (if x.length = n then F x S1 else none) Q
  rw [if_pos h.1]
  exact h.2)
theorem wMt {ok : Val → Sto → Bool} {g : Val → List Val → Sto → Option (Val × Sto)} (h : Wp (fo ρ S) fun x S1 => Sd (ok x S1 = true) (Wp (ga ρ S1) fun vs S2 => Wp (g x vs S2) Q)) : Wp (eMt ok g fo ga ρ S) Q := Wp.bind (h.imp fun x S1 h => by
  show Wp (if ok x S1 = true then (ga ρ S1).bind fun q => g x q.1 q.2 else none) Q
  rw [if_pos h.1]
  exact Wp.bind h.2)
theorem woN {O : Option Int → Sto → Prop} (h : O none S) : Wp (oN ρ S) O := ⟨_, _, rfl, h⟩
theorem woS {O : Option Int → Sto → Prop} (h : Wp (f ρ S) fun v S1 => Ti v fun i => O (some i) S1) : Wp (oS f ρ S) O := Wp.bind (h.imp fun x S1 ⟨i, e, h⟩ => by
  subst e
  exact ⟨_, _, rfl, h⟩)
theorem wSl {g : Val → Option Int → Option Int → Sto → Option (Val × Sto)} {lo hi : OF} (h : Wp (fa ρ S) fun x S1 => Wp (lo ρ S1) fun a S2 => Wp (hi ρ S2) fun b S3 => Wp (g x a b S3) Q) : Wp (eSl g fa lo hi ρ S) Q := Wp.bind (h.imp fun x S1 h => Wp.bind (h.imp fun y S2 h => Wp.bind h))
variable {x y : Val} {a b : Int}
theorem vI {g : Int → Int → Val} (hx : x = .int a) (hy : y = .int b) (q : Q (g a b) S) : Wp (gI g x y S) Q := by subst hx hy; exact ⟨_, _, rfl, q⟩
theorem vMul (hx : x = .int a) (hy : y = .int b) (q : Q (.int (a * b)) S) (h : CMulW a b) : Wp (gMul x y S) Q := by subst hx hy; exact ⟨_, _, if_pos h, q⟩
theorem vDiv (hx : x = .int a) (hy : y = .int b) (q : Q (.int (a / b)) S) (h : CDivW a b) : Wp (gDiv x y S) Q := by subst hx hy; exact ⟨_, _, if_pos h, q⟩
theorem vMod (hx : x = .int a) (hy : y = .int b) (q : Q (.int (a.fmod b)) S) (h : b ≠ 0) : Wp (gMod x y S) Q := by subst hx hy; exact ⟨_, _, if_pos h, q⟩
theorem vPow (hx : x = .int a) (hy : y = .int b) (q : Q (.int (a ^ b.toNat)) S) (h : CPow a b) : Wp (gPow x y S) Q := by subst hx hy; exact ⟨_, _, if_pos h, q⟩
theorem vAdd (hx : x = .int a) (hy : y = .int b) (q : Q (.int (a + b)) S) : Wp (gAdd x y S) Q := by subst hx hy; exact ⟨_, _, rfl, q⟩
theorem vNeg (hx : x = .int a) (q : Q (.int (-a)) S) : Wp (gNeg x S) Q := by subst hx; exact ⟨_, _, rfl, q⟩
theorem vAbs (hx : x = .int a) (q : Q (.int (if a < 0 then -a else a)) S) : Wp (gAbs [x] S) Q := by subst hx; exact ⟨_, _, rfl, q⟩
theorem vEq {c : Bool} (h : eqS x y = some c) (q : Q (.bl c) S) : Wp (gEq x y S) Q := ⟨_, _, by simp only [gEq, eqA, h]; rfl, q⟩
theorem vNe {c : Bool} (h : eqS x y = some c) (q : Q (.bl (!c)) S) : Wp (gNe x y S) Q := ⟨_, _, by simp only [gNe, eqA, h]; rfl, q⟩
theorem vIs (hy : y = .non) (q : Q (.bl (isNon x)) S) : Wp (gIs x y S) Q := by subst hy; exact ⟨_, _, rfl, q⟩
theorem vIsN (hy : y = .non) (q : Q (.bl (!isNon x)) S) : Wp (gIsN x y S) Q := by subst hy; exact ⟨_, _, rfl, q⟩
theorem vIxL {n : Nat} {i : Int} {vs : List Val} (hx : x = .ref n) (hy : y = .int i) (h : S[n]? = some (.lst vs)) (e : atI vs i = some v) (q : Q v S) : Wp (gIxA x y S) Q := by subst hx hy; exact ⟨v, S, by simp only [gIxA, gIx, h, e, Option.map_some], q⟩
theorem vIxT {i : Int} {vs : List Val} (hx : x = .tup vs) (hy : y = .int i) (e : atI vs i = some v) (q : Q v S) : Wp (gIxA x y S) Q := by subst hx hy; exact ⟨v, S, by simp only [gIxA, gIx, e, Option.map_some], q⟩
theorem vIxD {n : Nat} {k : Key} {kvs : List (Key × Val)} (hx : x = .ref n) (h : S[n]? = some (.dic kvs)) (hk : AL.keyOf y = some k) (e : valA kvs k = some v) (q : Q v S) : Wp (gIxA x y S) Q := by subst hx; exact ⟨v, S, by simp only [gIxA, h, hk, e, Option.map_some], q⟩
theorem isL_of {n : Nat} {vs : List Val} (h : S[n]? = some (.lst vs)) : isL (.ref n) S = true := by simp only [isL, h]
theorem vLenT {vs : List Val} (hx : x = .tup vs) (q : Q (.int vs.length) S) : Wp (gLen [x] S) Q := by subst hx; exact ⟨_, _, rfl, q⟩
theorem vLenL {n : Nat} {vs : List Val} (hx : x = .ref n) (h : S[n]? = some (.lst vs)) (q : Q (.int vs.length) S) : Wp (gLen [x] S) Q := by subst hx; exact ⟨_, S, by simp only [gLen, h], q⟩
theorem vLenD {n : Nat} {kvs : List (Key × Val)} (hx : x = .ref n) (h : S[n]? = some (.dic kvs)) (q : Q (.int kvs.length) S) : Wp (gLen [x] S) Q := by subst hx; exact ⟨_, S, by simp only [gLen, h], q⟩
theorem vTupL {n : Nat} {vs : List Val} (hx : x = .ref n) (h : S[n]? = some (.lst vs)) (q : Q (.tup vs) S) : Wp (gTuple [x] S) Q := by subst hx; exact ⟨_, S, by simp only [gTuple, h], q⟩
theorem vIn {n : Nat} {neg : Bool} {k : Key} {kvs : List (Key × Val)} (hy : y = .ref n) (h : S[n]? = some (.dic kvs)) (hk : AL.keyOf x = some k) (q : Q (.bl (if neg then !(valA kvs k).isSome else (valA kvs k).isSome)) S) : Wp (gIn neg x y S) Q := by subst hy; exact ⟨_, S, by simp only [gIn, h, hk], q⟩

def Pt (S : Sto) (n : Nat) (o : Ob) (Q : Sto → Prop) : Prop := ∀ T : Sto, T.length = S.length → T[n]? = some o → Kx n S T → Q T
theorem Pt.use {n : Nat} {o o' : Ob} {Q : Sto → Prop} (h : Pt S n o Q) (hn : S[n]? = some o') : Q (S.set n o) := h _ (by simp) (by rw [List.getElem?_set_self (List.getElem?_eq_some_iff.mp hn).1]) Kx.put
theorem vApp {n : Nat} {vs : List Val} (hx : x = .ref n) (h : S[n]? = some (.lst vs)) (q : Pt S n (.lst (vs ++ [v])) (Q .non)) (hl : vs.length < sizeLine) : Wp (gApp x [v] S) Q := by subst hx; exact ⟨.non, _, by simp only [gApp, h, if_pos hl], q.use h⟩
theorem small {n : Nat} (h : n < 1000000) : n < sizeLine := Nat.lt_of_lt_of_le h (by decide)
theorem vGet1 (h : Wp (fo ρ S) fun o S1 => ∃ n kvs, o = .ref n ∧ S1[n]? = some (.dic kvs) ∧ Wp (fi ρ S1) fun x S2 => ∃ kvs k, S2[n]? = some (.dic kvs) ∧ AL.keyOf x = some k ∧ Q ((valA kvs k).getD .non) S2) : Wp (eGet1 fo fi ρ S) Q := Wp.bind (h.imp fun o S1 ⟨n, kvs, e, h1, h2⟩ => by
  subst e
  simp only [h1]
  refine Wp.bind (h2.imp fun x S2 ⟨kvs, k, h3, h4, q⟩ => ?_)
  simp only [h3, h4]
  exact ⟨_, _, rfl, q⟩)
theorem vGet2 {fx : EF} (h : Wp (fo ρ S) fun o S1 => ∃ n kvs, o = .ref n ∧ S1[n]? = some (.dic kvs) ∧ Wp (fi ρ S1) fun x S2 => Wp (fx ρ S2) fun y S3 => ∃ kvs k, S3[n]? = some (.dic kvs) ∧ AL.keyOf x = some k ∧ Q ((valA kvs k).getD y) S3) : Wp (eGet2 fo fi fx ρ S) Q := Wp.bind (h.imp fun o S1 ⟨n, kvs, e, h1, h2⟩ => by
  subst e
  simp only [h1]
  refine Wp.bind (h2.imp fun x S2 h3 => ?_)
  refine Wp.bind (h3.imp fun y S3 ⟨kvs, k, h4, h5, q⟩ => ?_)
  simp only [h4, h5]
  exact ⟨_, _, rfl, q⟩)
theorem ws_seq (h : Ws (g1 ρ S) (fun ρ S => Ws (g2 ρ S) N R) R) : Ws (sSeq g1 g2 ρ S) N R := by
  obtain ⟨h⟩ := h
  unfold sSeq
  cases e : g1 ρ S with
  | nx _ _ => rw [e] at h; exact h
  | rt _ _ => rw [e] at h; exact ⟨h⟩
  | stuck => rw [e] at h; exact h.elim
  | bk _ _ => rw [e] at h; exact h.elim
  | ct _ _ => rw [e] at h; exact h.elim
theorem ws_nil (h : N ρ S) : Ws (sNil ρ S) N R := ⟨h⟩
theorem ws_expr (h : Wp (f ρ S) fun _ S => N ρ S) : Ws (sExpr f ρ S) N R := by
  obtain ⟨a, S1, e, q⟩ := h
  unfold sExpr
  rw [e]
  exact ⟨q⟩
theorem ws_ret (h : Wp (f ρ S) R) : Ws (sRet f ρ S) N R := by
  obtain ⟨a, S1, e, q⟩ := h
  unfold sRet
  rw [e]
  exact ⟨q⟩
theorem ws_if (h : Wp (t ρ S) fun b S1 => Br b (Ws (g1 ρ S1) N R) (Ws (g2 ρ S1) N R)) : Ws (sIf t g1 g2 ρ S) N R := by
  obtain ⟨b, S1, e, q⟩ := h
  unfold sIf
  rw [e]
  cases b with
  | true => exact q.1 rfl
  | false => exact q.2 rfl
theorem ws_asg (h : Wp (f ρ S) fun v S1 => Bn (p.bind v ρ) fun ρ1 => N ρ1 S1) : Ws (sAsg p f ρ S) N R := by
  obtain ⟨v, S1, e, ρ1, e1, q⟩ := h
  unfold sAsg
  rw [e]
  show Ws (match p.bind v ρ with
    | some ρ => .nx ρ S1
    | none => .stuck) N R
  rw [e1]
  exact ⟨q⟩
theorem ws_par {is : List Nat} (h : Wp (ga ρ S) fun vs S1 => Bn (Pat.binds (is.map Pat.nm) vs ρ) fun ρ1 => N ρ1 S1) : Ws (sPar is ga ρ S) N R := by
  obtain ⟨v, S1, e, ρ1, e1, q⟩ := h
  unfold sPar
  rw [e]
  show Ws (match Pat.binds (is.map Pat.nm) v ρ with
    | some ρ => .nx ρ S1
    | none => .stuck) N R
  rw [e1]
  exact ⟨q⟩
theorem ws_sub {g : Val → Val → Val → Sto → Option Sto} (h : Wp (f ρ S) fun v S1 => Wp (fo ρ S1) fun o S2 => Wp (fi ρ S2) fun i S3 => ∃ S4, g o i v S3 = some S4 ∧ N ρ S4) : Ws (sSub g fo fi f ρ S) N R := by
  obtain ⟨v, S1, e1, o, S2, e2, i, S3, e3, S4, e4, q⟩ := h
  unfold sSub
  simp only [e1, e2, e3, e4]
  exact ⟨q⟩
theorem vPut {n : Nat} {x : Val} {k : Key} {v : Val} {N : Sto → Prop} {kvs : List (Key × Val)} (h : S[n]? = some (.dic kvs)) (hk : AL.keyOf x = some k) (q : Pt S n (.dic (putA kvs k v)) N) (hl : kvs.length < sizeLine) : ∃ T, gSetA (.ref n) x v S = some T ∧ N T := ⟨_, by simp only [gSetA, h, hk, if_pos hl], q.use h⟩
theorem ws_for {fi : IF} {g : SF} (h : Wi (fi ρ S) fun vs ok S1 => Ws (forR p g ok vs ρ S1) N R) : Ws (sFor p fi g ρ S) N R := by
  obtain ⟨vs, ok, S1, e, h⟩ := h
  unfold sFor
  rw [e]
  exact h
theorem wf {n : Nat} {g : SF} {vs : List Val} (h : Ws (g (vs.map some ++ List.replicate (n - vs.length) none) S) (fun _ S => Q .non S) Q) : Wp (runF n g vs S) Q := by
  unfold runF
  generalize g (vs.map some ++ List.replicate (n - vs.length) none) S = r at h
  obtain ⟨h⟩ := h
  cases r with
  | nx ρ S => exact ⟨_, _, rfl, h⟩
  | rt v S => exact ⟨_, _, rfl, h⟩
  | stuck => exact h.elim
  | bk _ _ => exact h.elim
  | ct _ _ => exact h.elim
theorem ws_loop {g : SF} {ok : Sto → Prop} {vs : List Val} (I : Nat → Rho → Sto → Prop) (h0 : I 0 ρ S) (hok : ∀ i ρ S, i ≤ vs.length → I i ρ S → ok S)
    (step : ∀ i v ρ S, vs[i]? = some v → I i ρ S → Bn (p.bind v ρ) fun ρ1 => Ws (g ρ1 S) (I (i + 1)) R) (post : ∀ ρ S, I vs.length ρ S → N ρ S) : Ws (forR p g ok vs ρ S) N R := by
  have go : ∀ (k : Nat) (ρ : Rho) (S : Sto), k ≤ vs.length → I k ρ S → Ws (forR p g ok (vs.drop k) ρ S) N R := by
    intro k
    induction hn : vs.length - k generalizing k with
    | zero =>
      intro ρ S hk h
      have e : k = vs.length := by omega
      subst e
      rw [List.drop_length, forR_nil (hok _ _ _ hk h)]
      exact ⟨post _ _ h⟩
    | succ n ih =>
      intro ρ S hk h
      have l : k < vs.length := by omega
      rw [List.drop_eq_getElem_cons l]
      obtain ⟨ρ1, h1, h2⟩ := step k vs[k] ρ S (List.getElem?_eq_getElem l) h
      rw [forR_cons (hok _ _ _ hk h) h1]
      obtain ⟨h2⟩ := h2
      cases e : g ρ1 S with
      | nx ρ2 S2 =>
        rw [e] at h2
        exact ih (k + 1) (by omega) ρ2 S2 (by omega) h2
      | rt v S2 => rw [e] at h2; exact ⟨h2⟩
      | stuck => rw [e] at h2; exact h2.elim
      | bk _ _ => rw [e] at h2; exact h2.elim
      | ct _ _ => rw [e] at h2; exact h2.elim
  have := go 0 ρ S (Nat.zero_le _) h0
  rwa [List.drop_zero] at this

theorem wiT {X : List Val → (Sto → Prop) → Sto → Prop} {f : EF} (h : Wp (f ρ S) fun v S1 => (∃ vs, v = .tup vs ∧ X vs (fun _ => True) S1) ∨ ∃ n vs, v = .ref n ∧ S1[n]? = some (.lst vs) ∧ X vs (fun S => S[n]? = some (.lst vs)) S1) : Wi (iSeq f ρ S) X := by
  obtain ⟨v, S1, e, h⟩ := h
  rcases h with ⟨vs, rfl, h⟩ | ⟨n, vs, rfl, h1, h⟩
  · exact ⟨_, _, _, by unfold iSeq; rw [e]; rfl, h⟩
  · exact ⟨_, _, _, by unfold iSeq; rw [e]; simp only [Option.bind_some, h1], h⟩
theorem wiR {X : List Val → (Sto → Prop) → Sto → Prop} (h : Wp (ga ρ S) fun vs S1 => ∃ j, vs = [.int j] ∧ X (rangeV 0 j.toNat) (fun _ => True) S1 ∧ -(2 ^ 62) ≤ j ∧ j < 2 ^ 62) : Wi (iRg1 ga ρ S) X := by
  obtain ⟨v, S1, e, j, rfl, h, h1, h2⟩ := h
  exact ⟨_, _, _, by unfold iRg1; rw [e]; exact if_pos ⟨h1, h2⟩, h⟩
theorem wiR2 {X : List Val → (Sto → Prop) → Sto → Prop} (h : Wp (ga ρ S) fun vs S1 => ∃ i j, vs = [.int i, .int j] ∧ X (rangeV i (j - i).toNat) (fun _ => True) S1 ∧ -(2 ^ 62) ≤ i ∧ i < 2 ^ 62 ∧ -(2 ^ 62) ≤ j ∧ j < 2 ^ 62) : Wi (iRg2 ga ρ S) X := by
  obtain ⟨v, S1, e, i, j, rfl, h, h1⟩ := h
  exact ⟨_, _, _, by unfold iRg2; rw [e]; exact if_pos h1, h⟩
theorem wiE {X : List Val → (Sto → Prop) → Sto → Prop} (h : Wp (ga ρ S) fun vs S1 => (∃ ws, vs = [.tup ws] ∧ X (enumV ws) (fun _ => True) S1) ∨ ∃ n ws, vs = [.ref n] ∧ S1[n]? = some (.lst ws) ∧ X (enumV ws) (fun S => S[n]? = some (.lst ws)) S1) : Wi (iEn ga ρ S) X := by
  obtain ⟨v, S1, e, h⟩ := h
  rcases h with ⟨vs, rfl, h⟩ | ⟨n, vs, rfl, h1, h⟩
  · exact ⟨_, _, _, by unfold iEn; rw [e]; rfl, h⟩
  · exact ⟨_, _, _, by unfold iEn; rw [e]; simp only [Option.bind_some, h1], h⟩

theorem wLc {fi : IF} {own : List Nat} (h : Wi (fi ρ S) fun vs ok S1 => Wp (lcR p t f ok (wipeR ρ own) vs [] S1) fun ys S2 => Nw S2 (.lst ys) Q) : Wp (eLc p fi t f own ρ S) Q := by
  obtain ⟨vs, ok, S1, e, h⟩ := h
  unfold eLc
  rw [e]
  exact Wp.bind (h.imp fun ys S2 h => ⟨_, _, rfl, h.use⟩)

theorem lc_pure {ok : Sto → Prop} {vs : List Val} (b : Val → Bool) (g : Val → Val) (hok : ok S) (hl : vs.length < 1000000)
    (h : ∀ v ∈ vs, Bn (p.bind v ρ) fun ρ1 => Wp (t ρ1 S) fun c T => c = b v ∧ T = S ∧ (b v = true → Wp (f ρ1 S) fun y T => y = g v ∧ T = S)) (q : A ((vs.filter b).map g) S) : Wp (lcR p t f ok ρ vs [] S) A := by
  have := lcR_pure (p := p) (t := t) (f := f) (ok := ok) (ρ := ρ) (S := S) hok b g vs [] (by simpa using hl) fun v hv => by
    obtain ⟨ρ1, h1, c, T, h2, rfl, rfl, h3⟩ := h v hv
    refine ⟨ρ1, h1, h2, fun hb => ?_⟩
    obtain ⟨y, T2, h4, rfl, rfl⟩ := h3 hb
    exact h4
  exact ⟨_, _, this, by simpa using q⟩

theorem lc_inv {ok : Sto → Prop} {vs : List Val} (I : Nat → List Val → Sto → Prop) (hl : vs.length < 900000) (h0 : I 0 [] S) (hok : ∀ i a S, i ≤ vs.length → I i a S → ok S) (hlen : ∀ i a S, I i a S → a.length ≤ i)
    (step : ∀ i v a S, vs[i]? = some v → I i a S → Bn (p.bind v ρ) fun ρ1 => Wp (t ρ1 S) fun c S1 => Br c (Wp (f ρ1 S1) fun y S2 => I (i + 1) (a ++ [y]) S2) (I (i + 1) a S1))
    (q : ∀ a S, I vs.length a S → A a S) : Wp (lcR p t f ok ρ vs [] S) A := by
  have := lcR_run (p := p) (t := t) (f := f) (ok := ok) (ρ := ρ) (S := S) (fun i a S => i ≤ vs.length ∧ I i a S) hl (fun i a S h => hok i a S h.1 h.2) (fun i a S h => hlen i a S h.2) ⟨Nat.zero_le _, h0⟩ fun i v a S hv h => by
    have hi := (List.getElem?_eq_some_iff.mp hv).1
    obtain ⟨ρ1, h1, c, S1, h2, h3, h4⟩ := step i v a S hv h.2
    refine ⟨ρ1, h1, ?_⟩
    cases c with
    | true =>
      obtain ⟨y, S2, h5, h6⟩ := h3 rfl
      exact .inl ⟨S1, y, S2, h2, h5, hi, h6⟩
    | false => exact .inr ⟨S1, h2, hi, h4 rfl⟩
  obtain ⟨a, S1, e, _, h⟩ := this
  exact ⟨a, S1, e, q a S1 h⟩

theorem ws_while {tb : BF} {g : SF} (M : Rho → Sto → Nat) (I : Rho → Sto → Prop) (h0 : I ρ S)
    (step : ∀ ρ S, I ρ S → Wp (tb ρ S) fun b S1 => Br b (Ws (g ρ S1) (fun ρ2 S2 => I ρ2 S2 ∧ M ρ2 S2 < M ρ S) R) (N ρ S1)) : Ws (sWhile tb g ρ S) N R := by
  have go : ∀ (n : Nat) (ρ : Rho) (S : Sto), M ρ S < n → I ρ S → Ws (whR tb g n ρ S) N R := by
    intro n
    induction n with
    | zero => intro ρ S h; omega
    | succ n ih =>
      intro ρ S hm hI
      obtain ⟨b, S1, e, h1, h2⟩ := step ρ S hI
      cases b with
      | false =>
        rw [whR]
        simp only [e]
        exact ⟨h2 rfl⟩
      | true =>
        obtain ⟨h3⟩ := h1 rfl
        rw [whR]
        cases e2 : g ρ S1 with
        | nx ρ2 S2 =>
          rw [e2] at h3
          simp only [e, e2]
          exact ih ρ2 S2 (by have := h3.2; omega) h3.1
        | rt v S2 =>
          rw [e2] at h3
          simp only [e, e2]
          exact ⟨h3⟩
        | stuck => rw [e2] at h3; exact h3.elim
        | bk _ _ => rw [e2] at h3; exact h3.elim
        | ct _ _ => rw [e2] at h3; exact h3.elim
  have h := go (M ρ S + 1) ρ S (Nat.lt_succ_self _) h0
  have ns : whR tb g (M ρ S + 1) ρ S ≠ .stuck := fun z => by rw [z] at h; exact h.h
  rw [sWhile_eq rfl ns]
  exact h
end
theorem Kn.at {S T : Sto} (k : Kn S T) {n : Nat} {o : Ob} (h : S[n]? = some o) : T[n]? = some o := k n o h
theorem Kx.at {x : Nat} {S T : Sto} (k : Kx x S T) {n : Nat} {o : Ob} (hn : n ≠ x) (h : S[n]? = some o) : T[n]? = some o := k n o hn h
theorem lt_of_at {S : Sto} {n : Nat} {o : Ob} (h : S[n]? = some o) : n < S.length := (List.getElem?_eq_some_iff.mp h).1
end AL
namespace AL
open PySem PySem.Spec PyProof.Rows L2 G Th
variable [TT]
section
variable {ρ : Rho} {S : Sto} {ga gk : AF} {Q : Val → Sto → Prop}
theorem wDefK {F : FA} {n m : Nat} {gA : List Val → List Val → List Val} (h : Wp (ga ρ S) fun vs S1 => Wp (gk ρ S1) fun ws S2 => Sd (vs.length = n ∧ ws.length = m) (Wp (F (gA vs ws) S2) Q)) : Wp (eDefK F n m gA ga gk ρ S) Q := Wp.bind (h.imp fun x S1 h => Wp.bind (h.imp fun y S2 h => by
  show Wp (if x.length = n ∧ y.length = m then F (gA x y) S2 else none) Q
  rw [if_pos h.1]
  exact h.2))
theorem vIsi {x : Val} {T a : String} {b : Bool} (ht : tyN x S = some a) (hk : L2.kitB a T = some b) (q : Q (.bl b) S) : Wp (gIsi T x S) Q := ⟨_, _, by simp only [gIsi, ht, Option.bind_some, hk, Option.map_some], q⟩
theorem vIsT {x y : Val} {a b : Bool} (hx : x = .bl a) (hy : y = .bl b) (q : Q (.bl (decide (a = b))) S) : Wp (gIsT x y S) Q := by subst hx hy; exact ⟨_, _, rfl, q⟩
theorem vIsNT {x y : Val} {a b : Bool} (hx : x = .bl a) (hy : y = .bl b) (q : Q (.bl (!decide (a = b))) S) : Wp (gIsNT x y S) Q := by subst hx hy; exact ⟨_, _, rfl, q⟩
theorem vCatL {x y : Val} {n m : Nat} {vs ws : List Val} (hx : x = .ref n) (hy : y = .ref m) (h : S[n]? = some (.lst vs)) (h' : S[m]? = some (.lst ws)) (hl : vs.length + ws.length ≤ 1000000) (q : Nw S (.lst (vs ++ ws)) Q) : Wp (gAdd x y S) Q := by
  subst hx hy
  exact ⟨_, _, by simp only [gAdd, h, h', if_pos (mill hl)], q.use⟩
theorem vPop {x : Val} {n k : Nat} {i : Int} {vs : List Val} {v : Val} (hx : x = .ref n) (h : S[n]? = some (.lst vs)) (hi : i = (k : Nat)) (hk : vs[k]? = some v) (hl : vs.length < 1000000) (q : Pt S n (.lst (vs.eraseIdx k)) (Q v)) : Wp (gPop x [.int i] S) Q := by
  subst hx hi
  have lt := (List.getElem?_eq_some_iff.mp hk).1
  have e : seqIndex? ((k : Nat) : Int) vs.length = some k := by
    unfold seqIndex?
    simp only []
    first
      | (rw [if_neg (by omega)]; simp; omega)
      | (simp; omega)
  refine ⟨v, _, ?_, q.use h⟩
  simp only [gPop, h]
  rw [if_pos (by omega)]
  simp only [e, hk]
theorem wiZ {X : List Val → (Sto → Prop) → Sto → Prop} (h : Wp (ga ρ S) fun vs S1 => ∃ as bs, vs = [.tup as, .tup bs] ∧ X (zipV as bs) (fun _ => True) S1) : Wi (iZp ga ρ S) X := by
  obtain ⟨v, S1, e, as, bs, rfl, h⟩ := h
  exact ⟨_, _, _, by unfold iZp; rw [e]; rfl, h⟩
end
end AL
namespace AL
open PySem PySem.Spec PyProof.Rows L2 G Th
variable [TT]
def maxI : Int → List Int → Int
  | a, [] => a
  | a, b :: r => maxI (if a < b then b else a) r
theorem maxI_ok : ∀ (a : Int) (r : List Int), maxI a r ∈ a :: r ∧ ∀ y ∈ a :: r, y ≤ maxI a r
  | a, [] => ⟨by simp [maxI], fun y hy => by simp at hy; simp [maxI, hy]⟩
  | a, b :: r => by
    obtain ⟨h1, h2⟩ := maxI_ok (if a < b then b else a) r
    unfold maxI
    refine ⟨?_, fun y hy => ?_⟩
    · rcases List.mem_cons.mp h1 with z | z
      · rw [z]
        split <;> simp
      · simp [z]
    · have h0 := h2 _ (List.mem_cons_self)
      rcases List.mem_cons.mp hy with rfl | hy
      · refine Int.le_trans ?_ h0
        split <;> omega
      · rcases List.mem_cons.mp hy with rfl | hy
        · refine Int.le_trans ?_ h0
          split <;> omega
        · exact h2 y (List.mem_cons_of_mem _ hy)
def minI (a : Int) (r : List Int) : Int := - maxI (-a) (r.map (- ·))
theorem minI_ok (a : Int) (r : List Int) : minI a r ∈ a :: r ∧ ∀ y ∈ a :: r, minI a r ≤ y := by
  obtain ⟨h1, h2⟩ := maxI_ok (-a) (r.map (- ·))
  have e : -a :: r.map (- ·) = (a :: r).map (- ·) := rfl
  rw [e] at h1 h2
  unfold minI
  refine ⟨?_, fun y hy => ?_⟩
  · obtain ⟨z, hz, ez⟩ := List.mem_map.mp h1
    rw [← ez]
    simpa using hz
  · have := h2 (-y) (List.mem_map_of_mem hy)
    omega
section
variable {X : Cx} {K : PySem.W.Frag}
def gMaxA : List Val → Sto → Option (Val × Sto) := fun xs S => match xs with
  | [.int i, .int j] => some (.int (if j > i then j else i), S)
  | [.ref n] => match S[n]? with
    | some (.lst vs) => match intsOf vs with
      | some (a :: r) => some (.int (maxI a r), S)
      | _ => none
    | _ => none
  | _ => none
def gMinA : List Val → Sto → Option (Val × Sto) := fun xs S => match xs with
  | [.int i, .int j] => some (.int (if j < i then j else i), S)
  | [.ref n] => match S[n]? with
    | some (.lst vs) => match intsOf vs with
      | some (a :: r) => some (.int (minI a r), S)
      | _ => none
    | _ => none
  | _ => none
theorem call_maxA (hc : X.calm = true) : CallR X (.builtin "max") (fun xs H Q => (∃ i j, xs = [.int i, .int j] ∧ Q (.int (if j > i then j else i)) H) ∨ rMax X.K xs H Q) := CallR.or (call_max2 hc) (cr_max hc)
theorem call_minA (hc : X.calm = true) : CallR X (.builtin "min") (fun xs H Q => (∃ i j, xs = [.int i, .int j] ∧ Q (.int (if j < i then j else i)) H) ∨ rMin X.K xs H Q) := CallR.or (call_min2 hc) (cr_min hc)
theorem cMaxA : CaA K (fun xs H Q => (∃ i j, xs = [.int i, .int j] ∧ Q (.int (if j > i then j else i)) H) ∨ rMax K xs H Q) gMaxA := by
  intro m S H xs v S' us Q R r e q
  unfold gMaxA at e
  split at e
  · cases e
    obtain ⟨u, z, rfl, ru, rz⟩ := r.two_of
    cases ru
    cases rz
    exact .inl ⟨_, _, rfl, q m _ H (.refl _ _) R (.int _)⟩
  · split at e
    · next n _ vs en =>
      split at e
      · next a t hns =>
        cases e
        obtain ⟨u, rfl, ru⟩ := r.one_of
        cases ru with
        | ref ha =>
          obtain ⟨zs, hz, rz⟩ := R.ob _ _ _ en ha
          have rz : VRs K H m zs vs := rz
          rw [ints_eq hns] at rz
          have ez := rz.ints
          subst ez
          refine .inr ⟨_, a :: t, rfl, SqL.of hz, by simp, fun M h1 h2 => ?_⟩
          obtain ⟨k1, k2⟩ := maxI_ok a t
          have : M = maxI a t := by
            have := h2 _ k1
            have := k2 _ h1
            omega
          rw [this]
          exact q m _ H (.refl _ _) R (.int _)
      · cases e
    · cases e
  · cases e
theorem cMinA : CaA K (fun xs H Q => (∃ i j, xs = [.int i, .int j] ∧ Q (.int (if j < i then j else i)) H) ∨ rMin K xs H Q) gMinA := by
  intro m S H xs v S' us Q R r e q
  unfold gMinA at e
  split at e
  · cases e
    obtain ⟨u, z, rfl, ru, rz⟩ := r.two_of
    cases ru
    cases rz
    exact .inl ⟨_, _, rfl, q m _ H (.refl _ _) R (.int _)⟩
  · split at e
    · next n _ vs en =>
      split at e
      · next a t hns =>
        cases e
        obtain ⟨u, rfl, ru⟩ := r.one_of
        cases ru with
        | ref ha =>
          obtain ⟨zs, hz, rz⟩ := R.ob _ _ _ en ha
          have rz : VRs K H m zs vs := rz
          rw [ints_eq hns] at rz
          have ez := rz.ints
          subst ez
          refine .inr ⟨_, a :: t, rfl, SqL.of hz, by simp, fun M h1 h2 => ?_⟩
          obtain ⟨k1, k2⟩ := minI_ok a t
          have : M = minI a t := by
            have := h2 _ k1
            have := k2 _ h1
            omega
          rw [this]
          exact q m _ H (.refl _ _) R (.int _)
      · cases e
    · cases e
  · cases e
end
theorem intsOf_map : ∀ ns : List Int, intsOf (ns.map Val.int) = some ns
  | [] => rfl
  | n :: ns => by rw [List.map_cons, intsOf, intsOf_map ns]; rfl
section
variable {ρ : Rho} {S : Sto} {Q : Val → Sto → Prop} {N : Rho → Sto → Prop} {R : Val → Sto → Prop}
theorem vMaxL {x : Val} {n : Nat} {a : Int} {r : List Int} (hx : x = .ref n) (h : S[n]? = some (.lst ((a :: r).map Val.int))) (q : Q (.int (maxI a r)) S) : Wp (gMaxA [x] S) Q := by
  subst hx
  exact ⟨_, _, by simp only [gMaxA, h, intsOf_map], q⟩
theorem dc_inv {p : Pat} {t : BF} {fk f : EF} {ok : Sto → Prop} {vs : List Val} {A : List (Key × Val) → Sto → Prop} (I : Nat → List (Key × Val) → Sto → Prop) (hok : ∀ i a S, i ≤ vs.length → I i a S → ok S) (hlen : ∀ i a S, I i a S → a.length < 1000000)
    (step : ∀ i v a S, vs[i]? = some v → I i a S → Bn (p.bind v ρ) fun ρ1 => Wp (t ρ1 S) fun c S1 => Br c (Wp (fk ρ1 S1) fun k S2 => Wp (f ρ1 S2) fun y S3 => ∃ kk, AL.keyOf k = some kk ∧ I (i + 1) (putA a kk y) S3) (I (i + 1) a S1))
    (q : ∀ a S, I vs.length a S → A a S) (h0 : I 0 [] S) : Wp (dcR p t fk f ok ρ vs [] S) A := by
  have go : ∀ (n i : Nat) (a : List (Key × Val)) (S : Sto), n + i = vs.length → I i a S → Wp (dcR p t fk f ok ρ (vs.drop i) a S) A := by
    intro n
    induction n with
    | zero =>
      intro i a S hi hI
      have : i = vs.length := by omega
      subst this
      rw [List.drop_length]
      exact ⟨a, S, by unfold dcR; rw [if_pos (hok _ _ _ (Nat.le_refl _) hI)], q a S hI⟩
    | succ n ih =>
      intro i a S hi hI
      have hl : i < vs.length := by omega
      rw [List.drop_eq_getElem_cons hl]
      obtain ⟨ρ1, e1, c, S1, e2, h1, h2⟩ := step i _ a S (List.getElem?_eq_getElem hl) hI
      have o := hok i a S (by omega) hI
      cases c with
      | true =>
        obtain ⟨k, S2, e3, y, S3, e4, kk, e5, h⟩ := h1 rfl
        obtain ⟨r, S4, e6, ha⟩ := ih (i + 1) _ S3 (by omega) h
        refine ⟨r, S4, ?_, ha⟩
        unfold dcR
        rw [if_pos o, e1, Option.bind_some, e2, Option.bind_some, if_pos rfl, e3, Option.bind_some, e4, Option.bind_some]
        simp only [e5]
        rw [if_pos (hlen i a S hI)]
        exact e6
      | false =>
        obtain ⟨r, S4, e6, ha⟩ := ih (i + 1) a S1 (by omega) (h2 rfl)
        refine ⟨r, S4, ?_, ha⟩
        unfold dcR
        rw [if_pos o, e1, Option.bind_some, e2, Option.bind_some, if_neg (by simp)]
        exact e6
  have := go vs.length 0 [] S (by omega) h0
  rwa [List.drop_zero] at this
theorem wDc {p : Pat} {fi : IF} {t : BF} {fk f : EF} {own : List Nat} (h : Wi (fi ρ S) fun vs ok S1 => Wp (dcR p t fk f ok (wipeR ρ own) vs [] S1) fun ys S2 => Nw S2 (.dic ys) Q) : Wp (eDc p fi t fk f own ρ S) Q := by
  obtain ⟨vs, ok, S1, e, h⟩ := h
  unfold eDc
  rw [e]
  exact Wp.bind (h.imp fun ys S2 h => ⟨_, _, rfl, h.use⟩)
end
end AL
namespace NR
open PySem PySem.Spec PyProof.Rows L2
theorem min_txtE {prog : Program} {w : World} {A : Around} {E : Value → Shared → Prop} {s : Shared} {a b : Str} {t u : Tok} {Q : Value → Shared → Prop} (hh : A.handled = none)
    (h : ∀ h' tk, (∀ c o, s.heap.get? c = some o → h'.get? c = some o) → Q (if b.cps.toList < a.cps.toList then .str b u else .str a t) { s with heap := h', toks := tk }) :
    wpAny (model prog w) A (call (.builtin "min") [.str a t, .str b u]) Q E s := by
  let its : Array Value := #[.str a t, .str b u]
  have at2 : ∀ (i : Nat) (v : Value), its[i]? = some v → v = Value.str a t ∨ v = Value.str b u := by
    intro i v e
    match i, e with
    | 0, e => cases e; exact .inl rfl
    | 1, e => cases e; exact .inr rfl
  have cmp : CmpOf prog w A.in1 .Lt (fun i v => its[i]? = some v) (fun i j => match i, j with
      | 0, 0 => decide (a.cps.toList < a.cps.toList)
      | 0, _ + 1 => decide (a.cps.toList < b.cps.toList)
      | _ + 1, 0 => decide (b.cps.toList < a.cps.toList)
      | _ + 1, _ + 1 => decide (b.cps.toList < b.cps.toList)) := by
    intro i j vi vj s' Q' E' hi hj hq
    have one : ∀ (x y : Str) (p q : Tok), Q' (.bool (decide (x.cps.toList < y.cps.toList))) s' → wpAny (model prog w) A.in1 (richCompare .Lt (.str x p) (.str y q)) Q' E' s' := by
      intro x y p q hx
      exact richCompare_gives (op := .Lt) (typeIs_str s' _ p) (typeIs_str s' _ q) F.slot_str_lt F.entry_str_lt (F.args_str_lt_2 _ _) (gives_str_lt _ _ p q) (fun x => nomatch x) hx
    match i, j, hi, hj, hq with
    | 0, 0, hi, hj, hq => cases hi; cases hj; exact one _ _ _ _ hq
    | 0, 1, hi, hj, hq => cases hi; cases hj; exact one _ _ _ _ hq
    | 1, 0, hi, hj, hq => cases hi; cases hj; exact one _ _ _ _ hq
    | 1, 1, hi, hj, hq => cases hi; cases hj; exact one _ _ _ _ hq
  let h1 := s.heap.push { cls := .type "tuple", data := .seq its }
  have z1 : h1.objs.size = s.heap.objs.size + 1 := Heap.size_push ..
  have tup : h1.IsTuple s.heap.objs.size its := ⟨_, Heap.get?_push_size _ rfl, rfl, 0, rfl⟩
  refine call_min_two (wpAny_pyIter_tuple tup ?_)
  refine ⟨_, [_, s.heap.objs.size], [_], _, _, _, _, rfl, Walks.tuple (A := A.in1) hh _ s.heap.objs.size ?_ its, ⟨⟨_, Heap.get?_push_size _ rfl, rfl, rfl⟩, tup.push _⟩, ?_, by simp [its], cmp, ?_⟩
  · rw [z1]
    exact Nat.ne_of_lt (Nat.lt_succ_self _)
  · intro c hc
    show c < (h1.push _).objs.size
    rw [Heap.size_push]
    simp only [List.mem_cons, List.not_mem_nil, or_false] at hc
    rcases hc with rfl | rfl
    · exact Nat.lt_succ_self _
    · rw [z1]
      exact Nat.lt_succ_of_lt (Nat.lt_succ_self _)
  · intro v h' tk hP hk
    have hP : its[if decide (b.cps.toList < a.cps.toList) = true then 1 else 0]? = some v := hP
    have ev : v = if b.cps.toList < a.cps.toList then .str b u else .str a t := by
      by_cases z : b.cps.toList < a.cps.toList
      · rw [decide_eq_true z, if_pos rfl] at hP
        rw [if_pos z]
        cases hP
        rfl
      · rw [decide_eq_false z, if_neg (by simp)] at hP
        rw [if_neg z]
        cases hP
        rfl
    rw [ev]
    refine h h' tk fun c o e => hk c o (fun hm => ?_) (Heap.get?_push_of_some _ (Heap.get?_push_of_some _ e))
    have l := Heap.lt_size e
    simp only [List.mem_cons, List.not_mem_nil, or_false] at hm
    subst hm
    have l2 : h1.objs.size < s.heap.objs.size := l
    rw [z1] at l2
    exact Nat.lt_irrefl _ (Nat.lt_of_succ_lt l2)
theorem max_txtE {prog : Program} {w : World} {A : Around} {E : Value → Shared → Prop} {s : Shared} {a b : Str} {t u : Tok} {Q : Value → Shared → Prop} (hh : A.handled = none)
    (h : ∀ h' tk, (∀ c o, s.heap.get? c = some o → h'.get? c = some o) → Q (if a.cps.toList < b.cps.toList then .str b u else .str a t) { s with heap := h', toks := tk }) :
    wpAny (model prog w) A (call (.builtin "max") [.str a t, .str b u]) Q E s := by
  let its : Array Value := #[.str a t, .str b u]
  have at2 : ∀ (i : Nat) (v : Value), its[i]? = some v → v = Value.str a t ∨ v = Value.str b u := by
    intro i v e
    match i, e with
    | 0, e => cases e; exact .inl rfl
    | 1, e => cases e; exact .inr rfl
  have cmp : CmpOf prog w A.in1 .Gt (fun i v => its[i]? = some v) (fun i j => match i, j with
      | 0, 0 => decide (a.cps.toList > a.cps.toList)
      | 0, _ + 1 => decide (a.cps.toList > b.cps.toList)
      | _ + 1, 0 => decide (b.cps.toList > a.cps.toList)
      | _ + 1, _ + 1 => decide (b.cps.toList > b.cps.toList)) := by
    intro i j vi vj s' Q' E' hi hj hq
    have one : ∀ (x y : Str) (p q : Tok), Q' (.bool (decide (x.cps.toList > y.cps.toList))) s' → wpAny (model prog w) A.in1 (richCompare .Gt (.str x p) (.str y q)) Q' E' s' := by
      intro x y p q hx
      exact richCompare_gives (op := .Gt) (typeIs_str s' _ p) (typeIs_str s' _ q) F.slot_str_gt F.entry_str_gt (F.args_str_gt_2 _ _) (gives_str_gt _ _ p q) (fun x => nomatch x) hx
    match i, j, hi, hj, hq with
    | 0, 0, hi, hj, hq => cases hi; cases hj; exact one _ _ _ _ hq
    | 0, 1, hi, hj, hq => cases hi; cases hj; exact one _ _ _ _ hq
    | 1, 0, hi, hj, hq => cases hi; cases hj; exact one _ _ _ _ hq
    | 1, 1, hi, hj, hq => cases hi; cases hj; exact one _ _ _ _ hq
  let h1 := s.heap.push { cls := .type "tuple", data := .seq its }
  have z1 : h1.objs.size = s.heap.objs.size + 1 := Heap.size_push ..
  have tup : h1.IsTuple s.heap.objs.size its := ⟨_, Heap.get?_push_size _ rfl, rfl, 0, rfl⟩
  refine call_max_two (wpAny_pyIter_tuple tup ?_)
  refine ⟨_, [_, s.heap.objs.size], [_], _, _, _, _, rfl, Walks.tuple (A := A.in1) hh _ s.heap.objs.size ?_ its, ⟨⟨_, Heap.get?_push_size _ rfl, rfl, rfl⟩, tup.push _⟩, ?_, by simp [its], cmp, ?_⟩
  · rw [z1]
    exact Nat.ne_of_lt (Nat.lt_succ_self _)
  · intro c hc
    show c < (h1.push _).objs.size
    rw [Heap.size_push]
    simp only [List.mem_cons, List.not_mem_nil, or_false] at hc
    rcases hc with rfl | rfl
    · exact Nat.lt_succ_self _
    · rw [z1]
      exact Nat.lt_succ_of_lt (Nat.lt_succ_self _)
  · intro v h' tk hP hk
    have hP : its[if decide (a.cps.toList < b.cps.toList) = true then 1 else 0]? = some v := hP
    have ev : v = if a.cps.toList < b.cps.toList then .str b u else .str a t := by
      by_cases z : a.cps.toList < b.cps.toList
      · rw [decide_eq_true z, if_pos rfl] at hP
        rw [if_pos z]
        cases hP
        rfl
      · rw [decide_eq_false z, if_neg (by simp)] at hP
        rw [if_neg z]
        cases hP
        rfl
    rw [ev]
    refine h h' tk fun c o e => hk c o (fun hm => ?_) (Heap.get?_push_of_some _ (Heap.get?_push_of_some _ e))
    have l := Heap.lt_size e
    simp only [List.mem_cons, List.not_mem_nil, or_false] at hm
    subst hm
    have l2 : h1.objs.size < s.heap.objs.size := l
    rw [z1] at l2
    exact Nat.lt_irrefl _ (Nat.lt_of_succ_lt l2)
end NR
namespace AL
open PySem PySem.Spec PyProof.Rows L2 G Th
variable [TT]
section
variable {X : Cx} {K : PySem.W.Frag}
theorem call_minSE (hc : X.calm = true) : CallR X (.builtin "min") (fun xs H Q => ∃ a b : Str, xs = [.str a, .str b] ∧ Q (.str (if b.cps.toList < a.cps.toList then b else a)) H) := by
  intro pins s σ H xs us Q I r h
  obtain ⟨a, b, rfl, q⟩ := h
  obtain ⟨u, v, rfl, ⟨t, rfl⟩, ⟨t', rfl⟩⟩ := vals2 r
  refine NR.min_txtE (I.ok.hd hc) fun h' tk k => ?_
  by_cases c : b.cps.toList < a.cps.toList
  · rw [if_pos c] at q ⊢
    exact ⟨.str b, H, I.kept k, ⟨_, rfl⟩, q⟩
  · rw [if_neg c] at q ⊢
    exact ⟨.str a, H, I.kept k, ⟨_, rfl⟩, q⟩
theorem call_maxSE (hc : X.calm = true) : CallR X (.builtin "max") (fun xs H Q => ∃ a b : Str, xs = [.str a, .str b] ∧ Q (.str (if a.cps.toList < b.cps.toList then b else a)) H) := by
  intro pins s σ H xs us Q I r h
  obtain ⟨a, b, rfl, q⟩ := h
  obtain ⟨u, v, rfl, ⟨t, rfl⟩, ⟨t', rfl⟩⟩ := vals2 r
  refine NR.max_txtE (I.ok.hd hc) fun h' tk k => ?_
  by_cases c : a.cps.toList < b.cps.toList
  · rw [if_pos c] at q ⊢
    exact ⟨.str b, H, I.kept k, ⟨_, rfl⟩, q⟩
  · rw [if_neg c] at q ⊢
    exact ⟨.str a, H, I.kept k, ⟨_, rfl⟩, q⟩
def gMinB : List Val → Sto → Option (Val × Sto) := fun xs S => match xs with
  | [.str a, .str b] => some (.str (if b.cps.toList < a.cps.toList then b else a), S)
  | xs => gMinA xs S
def gMaxB : List Val → Sto → Option (Val × Sto) := fun xs S => match xs with
  | [.str a, .str b] => some (.str (if a.cps.toList < b.cps.toList then b else a), S)
  | xs => gMaxA xs S
theorem call_minB (hc : X.calm = true) : CallR X (.builtin "min") (fun xs H Q => ((∃ i j, xs = [.int i, .int j] ∧ Q (.int (if j < i then j else i)) H) ∨ rMin X.K xs H Q) ∨ ∃ a b : Str, xs = [.str a, .str b] ∧ Q (.str (if b.cps.toList < a.cps.toList then b else a)) H) := CallR.or (call_minA hc) (call_minSE hc)
theorem call_maxB (hc : X.calm = true) : CallR X (.builtin "max") (fun xs H Q => ((∃ i j, xs = [.int i, .int j] ∧ Q (.int (if j > i then j else i)) H) ∨ rMax X.K xs H Q) ∨ ∃ a b : Str, xs = [.str a, .str b] ∧ Q (.str (if a.cps.toList < b.cps.toList then b else a)) H) := CallR.or (call_maxA hc) (call_maxSE hc)
theorem cMinB : CaA K (fun xs H Q => ((∃ i j, xs = [.int i, .int j] ∧ Q (.int (if j < i then j else i)) H) ∨ rMin K xs H Q) ∨ ∃ a b : Str, xs = [.str a, .str b] ∧ Q (.str (if b.cps.toList < a.cps.toList then b else a)) H) gMinB := by
  intro m S H xs v S' us Q R r e q
  unfold gMinB at e
  split at e
  · cases e
    obtain ⟨u, z, rfl, ru, rz⟩ := r.two_of
    cases ru
    cases rz
    exact .inr ⟨_, _, rfl, q m _ H (.refl _ _) R (.str _)⟩
  · exact .inl (cMinA m S H _ v S' us Q R r e q)
theorem cMaxB : CaA K (fun xs H Q => ((∃ i j, xs = [.int i, .int j] ∧ Q (.int (if j > i then j else i)) H) ∨ rMax K xs H Q) ∨ ∃ a b : Str, xs = [.str a, .str b] ∧ Q (.str (if a.cps.toList < b.cps.toList then b else a)) H) gMaxB := by
  intro m S H xs v S' us Q R r e q
  unfold gMaxB at e
  split at e
  · cases e
    obtain ⟨u, z, rfl, ru, rz⟩ := r.two_of
    cases ru
    cases rz
    exact .inr ⟨_, _, rfl, q m _ H (.refl _ _) R (.str _)⟩
  · exact .inl (cMaxA m S H _ v S' us Q R r e q)
end
end AL
namespace AL
open PySem PySem.Spec PyProof.Rows L2 G
variable [TT]
section
variable {X : Cx} {K : PySem.W.Frag}
def gInD (neg : Bool) : Val → Val → Sto → Option (Val × Sto) := fun x y S => match toD S 40 x, toD S 40 y with
  | some d, some (.list ds) => if SeqAt.shaped d = true ∧ SeqAt.shaped (.list ds) = true then some (.bl (if neg then !(ds.any fun z => PyData.eqv z d) else ds.any fun z => PyData.eqv z d), S) else none
  | _, _ => none
theorem oNInD : OpA K (rNotInD K) (gInD true) := by
  intro m S H x y v S' u w Q R ru rw_ e q
  unfold gInD at e
  split at e
  · next d ds e1 e2 =>
    split at e
    · next hs =>
      cases e
      exact ⟨d, ds, toD_dp R 40 _ _ _ ru e1, toD_dp R 40 _ _ _ rw_ e2, hs.1, hs.2, q m _ H (.refl _ _) R (.bl _)⟩
    · cases e
  · cases e
theorem hu65 {k : Nat} {A : Around} (r : Room k A) : A.units + 65 < cLine := by have := r.un; omega
end
end AL
namespace Od
open PySem PySem.Spec PyProof.Rows L2
inductive Tr where
  | i (n : Int)
  | s (l : List Nat)
  | t (l : List Tr)
mutual
def bq : Tr → Tr → Bool
  | .i a, .i b => decide (a = b)
  | .s a, .s b => decide (a = b)
  | .t a, .t b => bqs a b
  | _, _ => false
def bqs : List Tr → List Tr → Bool
  | [], [] => true
  | x :: xs, y :: ys => bq x y && bqs xs ys
  | _, _ => false
end
mutual
theorem bq_iff : ∀ x y : Tr, bq x y = true ↔ x = y
  | .i a, .i b => by simp [bq]
  | .s a, .s b => by simp [bq]
  | .t a, .t b => by simp only [bq, Tr.t.injEq]; exact bqs_iff a b
  | .i _, .s _ => by simp [bq]
  | .i _, .t _ => by simp [bq]
  | .s _, .i _ => by simp [bq]
  | .s _, .t _ => by simp [bq]
  | .t _, .i _ => by simp [bq]
  | .t _, .s _ => by simp [bq]
theorem bqs_iff : ∀ x y : List Tr, bqs x y = true ↔ x = y
  | [], [] => by simp [bqs]
  | [], _ :: _ => by simp [bqs]
  | _ :: _, [] => by simp [bqs]
  | x :: xs, y :: ys => by
    simp only [bqs, Bool.and_eq_true, List.cons.injEq]
    rw [bq_iff x y, bqs_iff xs ys]
end
mutual
def lt : Tr → Tr → Bool
  | .i a, .i b => decide (a < b)
  | .i _, .s _ => true
  | .i _, .t _ => true
  | .s _, .i _ => false
  | .s a, .s b => strKind.blt a b
  | .s _, .t _ => true
  | .t _, .i _ => false
  | .t _, .s _ => false
  | .t a, .t b => lts a b
def lts : List Tr → List Tr → Bool
  | [], [] => false
  | [], _ :: _ => true
  | _ :: _, [] => false
  | x :: xs, y :: ys => if bq x y = true then lts xs ys else lt x y
end
mutual
theorem irr : ∀ x : Tr, lt x x = false
  | .i a => by simp [lt]
  | .s a => by simp only [lt]; exact strKind.irrefl a
  | .t a => by simp only [lt]; exact irrs a
theorem irrs : ∀ x : List Tr, lts x x = false
  | [] => by simp [lts]
  | x :: xs => by rw [lts, if_pos ((bq_iff x x).mpr rfl), irrs xs]
end
mutual
theorem tot : ∀ x y : Tr, lt x y = false → lt y x = false → x = y
  | .i a, .i b, h, g => by
    simp only [lt, decide_eq_false_iff_not] at h g
    rw [show a = b by omega]
  | .i _, .s _, h, _ => by simp [lt] at h
  | .i _, .t _, h, _ => by simp [lt] at h
  | .s _, .i _, _, g => by simp [lt] at g
  | .s a, .s b, h, g => by
    simp only [lt] at h g
    rw [strKind.total a b h g]
  | .s _, .t _, h, _ => by simp [lt] at h
  | .t _, .i _, _, g => by simp [lt] at g
  | .t _, .s _, _, g => by simp [lt] at g
  | .t a, .t b, h, g => by
    simp only [lt] at h g
    rw [tots a b h g]
theorem tots : ∀ x y : List Tr, lts x y = false → lts y x = false → x = y
  | [], [], _, _ => rfl
  | [], _ :: _, h, _ => by simp [lts] at h
  | _ :: _, [], _, g => by simp [lts] at g
  | x :: xs, y :: ys, h, g => by
    by_cases e : x = y
    · subst e
      rw [lts, if_pos ((bq_iff _ _).mpr rfl)] at h g
      rw [tots xs ys h g]
    · rw [lts, if_neg (fun z => e ((bq_iff _ _).mp z))] at h
      rw [lts, if_neg (fun z => e ((bq_iff _ _).mp z).symm)] at g
      exact absurd (tot x y h g) e
end
mutual
theorem tra : ∀ x y z : Tr, lt x y = true → lt y z = true → lt x z = true
  | .i a, .i b, .i c, h, g => by
    simp only [lt, decide_eq_true_eq] at h g ⊢
    omega
  | .i _, .i _, .s _, _, _ => by simp [lt]
  | .i _, .i _, .t _, _, _ => by simp [lt]
  | .i _, .s _, .i _, _, g => by simp [lt] at g
  | .i _, .s _, .s _, _, _ => by simp [lt]
  | .i _, .s _, .t _, _, _ => by simp [lt]
  | .i _, .t _, .i _, _, g => by simp [lt] at g
  | .i _, .t _, .s _, _, _ => by simp [lt]
  | .i _, .t _, .t _, _, _ => by simp [lt]
  | .s _, .i _, _, h, _ => by simp [lt] at h
  | .s _, .s _, .i _, _, g => by simp [lt] at g
  | .s a, .s b, .s c, h, g => by
    simp only [lt] at h g ⊢
    exact strKind.trans a b c h g
  | .s _, .s _, .t _, _, _ => by simp [lt]
  | .s _, .t _, .i _, _, g => by simp [lt] at g
  | .s _, .t _, .s _, _, g => by simp [lt] at g
  | .s _, .t _, .t _, _, _ => by simp [lt]
  | .t _, .i _, _, h, _ => by simp [lt] at h
  | .t _, .s _, _, h, _ => by simp [lt] at h
  | .t _, .t _, .i _, _, g => by simp [lt] at g
  | .t _, .t _, .s _, _, g => by simp [lt] at g
  | .t a, .t b, .t c, h, g => by
    simp only [lt] at h g ⊢
    exact tras a b c h g
theorem tras : ∀ x y z : List Tr, lts x y = true → lts y z = true → lts x z = true
  | [], [], _, h, _ => by simp [lts] at h
  | [], _ :: _, [], _, g => by simp [lts] at g
  | [], _ :: _, _ :: _, _, _ => by simp [lts]
  | _ :: _, [], _, h, _ => by simp [lts] at h
  | _ :: _, _ :: _, [], _, g => by simp [lts] at g
  | x :: xs, y :: ys, z :: zs, h, g => by
    by_cases e1 : x = y
    · subst e1
      rw [lts, if_pos ((bq_iff _ _).mpr rfl)] at h
      by_cases e2 : x = z
      · subst e2
        rw [lts, if_pos ((bq_iff _ _).mpr rfl)] at g ⊢
        exact tras xs ys zs h g
      · rw [lts, if_neg (fun w => e2 ((bq_iff _ _).mp w))] at g ⊢
        exact g
    · rw [lts, if_neg (fun w => e1 ((bq_iff _ _).mp w))] at h
      by_cases e2 : y = z
      · subst e2
        rw [lts, if_neg (fun w => e1 ((bq_iff _ _).mp w))]
        exact h
      · rw [lts, if_neg (fun w => e2 ((bq_iff _ _).mp w))] at g
        by_cases e3 : x = z
        · subst e3
          have := tra x y x h g
          rw [irr] at this
          cases this
        · rw [lts, if_neg (fun w => e3 ((bq_iff _ _).mp w))]
          exact tra x y z h g
end
theorem asy (a b : Tr) (h : lt a b = true) : lt b a = false := by
  cases e : lt b a with
  | false => rfl
  | true =>
    have := tra a b a h e
    rw [irr] at this
    cases this
theorem ntr (x y z : Tr) (h1 : lt y x = false) (h2 : lt z y = false) : lt z x = false := by
  cases e : lt z x with
  | false => rfl
  | true =>
    cases f : lt x y with
    | true =>
      rw [tra z x y e f] at h2
      cases h2
    | false =>
      have e2 := tot x y f h1
      subst e2
      rw [e] at h2
      cases h2
theorem lts_same (x : Tr) (xs ys : List Tr) : lts (x :: xs) (x :: ys) = lts xs ys := by rw [lts, if_pos ((bq_iff _ _).mpr rfl)]
theorem lts_other {x y : Tr} (h : x ≠ y) (xs ys : List Tr) : lts (x :: xs) (y :: ys) = lt x y := by rw [lts, if_neg (fun w => h ((bq_iff _ _).mp w))]
mutual
def toT : PyData → Tr
  | .int a => .i a
  | .str x => .s x.cps.toList
  | .tuple xs => .t (toTs xs)
  | _ => .i 0
def toTs : List PyData → List Tr
  | [] => []
  | x :: xs => toT x :: toTs xs
end
mutual
def sm : PyData → PyData → Bool
  | .int _, .int _ => true
  | .str _, .str _ => true
  | .tuple xs, .tuple ys => sms xs ys
  | _, _ => false
def sms : List PyData → List PyData → Bool
  | [], _ => true
  | _ :: _, [] => true
  | x :: xs, y :: ys => sm x y && sms xs ys
end
theorem str_inj {x y : Str} (h : x.cps.toList = y.cps.toList) : x = y := by
  have hc : x.cps = y.cps := Array.toList_inj.mp h
  cases x
  cases y
  simp only [Str.mk.injEq]
  exact hc
mutual
theorem eqv_iff : ∀ d e : PyData, sm d e = true → (PyData.eqv d e = true ↔ toT d = toT e)
  | .int a, .int b, _ => by simp [PyData.eqv, toT]
  | .str a, .str b, _ => by
    simp only [PyData.eqv, toT, beq_iff_eq, Tr.s.injEq]
    exact ⟨fun h => by rw [h], str_inj⟩
  | .tuple xs, .tuple ys, h => by
    simp only [sm] at h
    simp only [PyData.eqv, toT, Tr.t.injEq]
    exact eqvs_iff xs ys h
  | .none, _, h => by simp [sm] at h
  | .bool _, _, h => by simp [sm] at h
  | .list _, _, h => by simp [sm] at h
  | .dict _, _, h => by simp [sm] at h
  | .int _, .none, h => by simp [sm] at h
  | .int _, .bool _, h => by simp [sm] at h
  | .int _, .str _, h => by simp [sm] at h
  | .int _, .list _, h => by simp [sm] at h
  | .int _, .tuple _, h => by simp [sm] at h
  | .int _, .dict _, h => by simp [sm] at h
  | .str _, .none, h => by simp [sm] at h
  | .str _, .bool _, h => by simp [sm] at h
  | .str _, .int _, h => by simp [sm] at h
  | .str _, .list _, h => by simp [sm] at h
  | .str _, .tuple _, h => by simp [sm] at h
  | .str _, .dict _, h => by simp [sm] at h
  | .tuple _, .none, h => by simp [sm] at h
  | .tuple _, .bool _, h => by simp [sm] at h
  | .tuple _, .int _, h => by simp [sm] at h
  | .tuple _, .str _, h => by simp [sm] at h
  | .tuple _, .list _, h => by simp [sm] at h
  | .tuple _, .dict _, h => by simp [sm] at h
theorem eqvs_iff : ∀ d e : List PyData, sms d e = true → (PyData.eqvAll d e = true ↔ toTs d = toTs e)
  | [], [], _ => by simp [PyData.eqvAll]
  | [], _ :: _, _ => by simp [PyData.eqvAll, toTs]
  | _ :: _, [], _ => by simp [PyData.eqvAll, toTs]
  | x :: xs, y :: ys, h => by
    simp only [sms, Bool.and_eq_true] at h
    simp only [PyData.eqvAll, toTs, Bool.and_eq_true, List.cons.injEq]
    rw [eqv_iff x y h.1, eqvs_iff xs ys h.2]
end
end Od
namespace Od
open PySem PySem.Spec PyProof.Rows L2 SeqAt
open PySem.W (KatLex KatTups kat_lt kat_nil kat_cons kat_go kat_yes kat_no kat_kind)
def eT (l m : List Tr) (j : Nat) : Bool := match l[j]?, m[j]? with
  | some x, some y => bq x y
  | _, _ => false
def rT (l m : List Tr) (j : Nat) : Bool := match l[j]?, m[j]? with
  | some x, some y => lt x y
  | _, _ => false
theorem lexAt_up (e r : Nat → Bool) (z : Bool) : ∀ (k i : Nat), Ob.lexAt e r z (i + 1) k = Ob.lexAt (fun j => e (j + 1)) (fun j => r (j + 1)) z i k
  | 0, _ => rfl
  | k + 1, i => by rw [Ob.lexAt_succ, Ob.lexAt_succ, lexAt_up e r z k (i + 1)]
theorem lexAt_lts : ∀ l m : List Tr, Ob.lexAt (eT l m) (rT l m) (decide (l.length < m.length)) 0 (min l.length m.length) = lts l m
  | [], [] => by rfl
  | [], _ :: _ => by simp [lts, Ob.lexAt_zero]
  | _ :: _, [] => by simp [lts, Ob.lexAt_zero]
  | x :: l, y :: m => by
    have e : min (x :: l).length (y :: m).length = min l.length m.length + 1 := by simp only [List.length_cons]; omega
    rw [e, Ob.lexAt_succ, lexAt_up, show (decide ((x :: l).length < (y :: m).length)) = decide (l.length < m.length) by simp]
    have ih := lexAt_lts l m
    show (if bq x y = true then Ob.lexAt (eT l m) (rT l m) _ 0 _ else lt x y) = _
    rw [ih, lts]
theorem toTs_get : ∀ (ds : List PyData) (j : Nat) (d : PyData), ds[j]? = some d → (toTs ds)[j]? = some (toT d)
  | [], _, _, h => by simp at h
  | x :: xs, 0, d, h => by simp at h; subst h; simp [toTs]
  | x :: xs, j + 1, d, h => by simp only [toTs, List.getElem?_cons_succ] at h ⊢; exact toTs_get xs j d h
theorem toTs_len : ∀ ds : List PyData, (toTs ds).length = ds.length
  | [] => rfl
  | x :: xs => by simp [toTs, toTs_len xs]
theorem bq_eqv {d e : PyData} (h : sm d e = true) : PyData.eqv d e = bq (toT d) (toT e) := by
  have a := eqv_iff d e h
  have b := bq_iff (toT d) (toT e)
  cases x : PyData.eqv d e <;> cases y : bq (toT d) (toT e) <;> simp_all
theorem reads_tup {h : Heap} {v : Value} {xs : List PyData} {as : List Addr} (r : Reads h v (.tuple xs) as) : ∃ a o vs n as', v = .ref a ∧ h.get? a = some o ∧ o.cls = .type "tuple" ∧ o.data = .seq vs n ∧ ReadsAll h vs.toList xs as' := by
  cases r with
  | tuple ho hc hd r1 => exact ⟨_, _, _, _, _, rfl, ho, hc, hd, r1⟩
theorem reads_cons {h : Heap} {vs : List Value} {x : PyData} {xs : List PyData} {as : List Addr} (r : ReadsAll h vs (x :: xs) as) : ∃ v ws a1 a2, vs = v :: ws ∧ Reads h v x a1 ∧ ReadsAll h ws xs a2 := by
  cases r with
  | cons r1 r2 => exact ⟨_, _, _, _, rfl, r1, r2⟩
mutual
theorem rc_lt : ∀ (d e : PyData) (A : Around) (s : Shared) (a b : Value) (as bs : List Addr), Reads s.heap a d as → Reads s.heap b e bs → sm d e = true → d.canLay0 = true → e.canLay0 = true → A.units + d.depth + 1 < cLine → Ob.RcOp .Lt A s a b (lt (toT d) (toT e))
  | .int x, .int y, A, s, _, _, _, _, ra, rb, _, _, _, _ => by
    cases ra
    cases rb
    rw [toT, toT, lt]
    exact Ob.RcOp.lt_int _ _ _ _
  | .str x, .str y, A, s, _, _, _, _, ra, rb, _, _, _, _ => by
    cases ra
    cases rb
    rw [toT, toT, lt]
    exact fun prog w E Q h => P.lt_str h
  | .tuple xs, .tuple ys, A, s, _, _, _, _, ra, rb, h, ha, hb, hu => by
    obtain ⟨a, o, vs, n, as, rfl, ho, hc, hd, r1⟩ := reads_tup ra
    obtain ⟨b, o2, ws, n2, bs, rfl, ho2, hc2, hd2, r2⟩ := reads_tup rb
    simp only [PyData.depth] at hu
    simp only [PyData.canLay0] at ha hb
    simp only [sm] at h
    have I := rc_lts xs ys A.in1 s vs.toList ws.toList as bs r1 r2 h ha hb (by show A.units + 1 + PyData.depthAll xs + 1 < cLine; omega)
    have l1 := ReadsAll.length xs vs.toList as r1
    have l2 := ReadsAll.length ys ws.toList bs r2
    have t := Ob.RcOp.tuples_lt (A := A) (s := s) (l := a) (b := b) (items := vs) (items2 := ws) (e := eT (toTs xs) (toTs ys)) (r := rT (toTs xs) (toTs ys)) ⟨o, ho, hc, n, hd⟩ ⟨o2, ho2, hc2, n2, hd2⟩ (by omega) (fun j h1 h2 => ?_) (fun j h1 h2 _ => ?_)
    · rw [toT, toT, lt, ← lexAt_lts, toTs_len, toTs_len, ← l1, ← l2, Array.length_toList, Array.length_toList]
      exact t
    · obtain ⟨x, y, hx, hy, q, _⟩ := I j (by simpa using h1) (by simpa using h2)
      unfold eT
      rw [toTs_get _ _ _ hx, toTs_get _ _ _ hy]
      simpa using q
    · obtain ⟨x, y, hx, hy, _, q⟩ := I j (by simpa using h1) (by simpa using h2)
      unfold rT
      rw [toTs_get _ _ _ hx, toTs_get _ _ _ hy]
      simpa using q
  | .none, _, _, _, _, _, _, _, _, _, h, _, _, _ => by simp [sm] at h
  | .bool _, _, _, _, _, _, _, _, _, _, h, _, _, _ => by simp [sm] at h
  | .list _, _, _, _, _, _, _, _, _, _, h, _, _, _ => by simp [sm] at h
  | .dict _, _, _, _, _, _, _, _, _, _, h, _, _, _ => by simp [sm] at h
  | .int _, .none, _, _, _, _, _, _, _, _, h, _, _, _ => by simp [sm] at h
  | .int _, .bool _, _, _, _, _, _, _, _, _, h, _, _, _ => by simp [sm] at h
  | .int _, .str _, _, _, _, _, _, _, _, _, h, _, _, _ => by simp [sm] at h
  | .int _, .list _, _, _, _, _, _, _, _, _, h, _, _, _ => by simp [sm] at h
  | .int _, .tuple _, _, _, _, _, _, _, _, _, h, _, _, _ => by simp [sm] at h
  | .int _, .dict _, _, _, _, _, _, _, _, _, h, _, _, _ => by simp [sm] at h
  | .str _, .none, _, _, _, _, _, _, _, _, h, _, _, _ => by simp [sm] at h
  | .str _, .bool _, _, _, _, _, _, _, _, _, h, _, _, _ => by simp [sm] at h
  | .str _, .int _, _, _, _, _, _, _, _, _, h, _, _, _ => by simp [sm] at h
  | .str _, .list _, _, _, _, _, _, _, _, _, h, _, _, _ => by simp [sm] at h
  | .str _, .tuple _, _, _, _, _, _, _, _, _, h, _, _, _ => by simp [sm] at h
  | .str _, .dict _, _, _, _, _, _, _, _, _, h, _, _, _ => by simp [sm] at h
  | .tuple _, .none, _, _, _, _, _, _, _, _, h, _, _, _ => by simp [sm] at h
  | .tuple _, .bool _, _, _, _, _, _, _, _, _, h, _, _, _ => by simp [sm] at h
  | .tuple _, .int _, _, _, _, _, _, _, _, _, h, _, _, _ => by simp [sm] at h
  | .tuple _, .str _, _, _, _, _, _, _, _, _, h, _, _, _ => by simp [sm] at h
  | .tuple _, .list _, _, _, _, _, _, _, _, _, h, _, _, _ => by simp [sm] at h
  | .tuple _, .dict _, _, _, _, _, _, _, _, _, h, _, _, _ => by simp [sm] at h
theorem rc_lts : ∀ (xs ys : List PyData) (A : Around) (s : Shared) (vs ws : List Value) (as bs : List Addr), ReadsAll s.heap vs xs as → ReadsAll s.heap ws ys bs → sms xs ys = true → PyData.canLayAll0 xs = true → PyData.canLayAll0 ys = true → A.units + PyData.depthAll xs + 1 < cLine →
    ∀ j (h1 : j < vs.length) (h2 : j < ws.length), ∃ x y, xs[j]? = some x ∧ ys[j]? = some y ∧ EqAt A s vs[j] ws[j] (bq (toT x) (toT y)) ∧ Ob.RcOp .Lt A s vs[j] ws[j] (lt (toT x) (toT y))
  | [], _, _, _, _, _, _, _, ra, _, _, _, _, _, j, h1, _ => by cases ra; exact absurd h1 (Nat.not_lt_zero _)
  | _ :: _, [], _, _, _, _, _, _, _, rb, _, _, _, _, j, _, h2 => by cases rb; exact absurd h2 (Nat.not_lt_zero _)
  | x :: xs, y :: ys, A, s, _, _, _, _, ra, rb, h, ha, hb, hu, j, h1, h2 => by
    obtain ⟨v, vs, a1, a2, rfl, r1, r2⟩ := reads_cons ra
    obtain ⟨w, ws, b1, b2, rfl, q1, q2⟩ := reads_cons rb
    simp only [PyData.depthAll] at hu
    simp only [PyData.canLayAll0, Bool.and_eq_true] at ha hb
    simp only [sms, Bool.and_eq_true] at h
    cases j with
    | zero =>
      refine ⟨x, y, rfl, rfl, ?_, ?_⟩
      · have z := eqAt_reads x y A s v w a1 b1 r1 q1 ha.1 hb.1 (by omega)
        rw [bq_eqv h.1] at z
        exact z
      · exact rc_lt x y A s v w a1 b1 r1 q1 h.1 ha.1 hb.1 (by omega)
    | succ j =>
      exact rc_lts xs ys A s vs ws a2 b2 r2 q2 h.2 ha.2 hb.2 (by omega) j (Nat.lt_of_succ_lt_succ h1) (Nat.lt_of_succ_lt_succ h2)
end

def hd1 : PyData → Bool
  | .tuple (.int _ :: _) => true
  | .tuple (.str _ :: _) => true
  | _ => false
section
variable {prog : Program} {w : World} {A : Around} {E : Value → Shared → Prop} {s : Shared}
theorem one_lt {f : Bool} {p q : Value} {d e : PyData} {as bs : List Addr} {Q : Bool → Shared → Prop} (ra : Reads s.heap p d as) (rb : Reads s.heap q e bs) (h : sm d e = true) (ha : d.canLay0 = true) (hb : e.canLay0 = true) (hu : A.units + d.depth + 1 < cLine)
    (hf : f = true → (∃ n, d = .int n) ∨ ∃ x, d = .str x) (k : Q (lt (toT d) (toT e)) s) : wpAny (model prog w) A (oneLt' f p q) Q (fun _ _ => False) s := by
  cases f with
  | false =>
    rw [oneLt'_eq]
    simp only [Bool.false_eq_true, if_false]
    exact wpAny_bind (rc_lt d e A s p q as bs ra rb h ha hb hu prog w _ _ (wpAny_truthy_bool k))
  | true =>
    rcases hf rfl with ⟨n, rfl⟩ | ⟨x, rfl⟩
    · cases e with
      | int m =>
        cases ra
        cases rb
        rw [toT, toT, lt] at k
        exact oneLt_int k
      | _ => simp [sm] at h
    · cases e with
      | str y =>
        cases ra
        cases rb
        rw [toT, toT, lt] at k
        exact oneLt_str k
      | _ => simp [sm] at h
theorem kat_run {b fin : Bool} {Q : Bool → Shared → Prop} (hu : A.units + 60 < cLine) : ∀ (xs ys : List PyData) (ps qs : List Value) (as bs : List Addr) (i : Nat), ReadsAll s.heap ps xs as → ReadsAll s.heap qs ys bs → sms xs ys = true → PyData.canLayAll0 xs = true → PyData.canLayAll0 ys = true → PyData.depthAll xs ≤ 50 →
    (i = 0 → ∀ x, xs[0]? = some x → (∃ n, x = .int n) ∨ ∃ z, x = .str z) → fin = decide (ps.length < qs.length) → Q (lts (toTs xs) (toTs ys)) s → KatLex prog w A b fin Q (ps.zip qs) i s
  | [], [], _, _, _, _, i, ra, rb, _, _, _, _, _, hf, h => by
    cases ra
    cases rb
    have e : fin = false := by rw [hf]; rfl
    subst e
    exact kat_nil h
  | [], y :: ys, _, _, _, _, i, ra, rb, _, _, _, _, _, hf, h => by
    cases ra
    obtain ⟨w', ws, b1, b2, rfl, q1, q2⟩ := reads_cons rb
    have e : fin = true := by rw [hf]; exact decide_eq_true (Nat.succ_pos _)
    subst e
    rw [toTs, toTs, lts] at h
    exact kat_nil h
  | x :: xs, [], _, _, _, _, i, ra, rb, _, _, _, _, _, hf, h => by
    cases rb
    obtain ⟨w', ws, b1, b2, rfl, q1, q2⟩ := reads_cons ra
    have e : fin = false := by rw [hf]; exact decide_eq_false (Nat.not_lt_zero _)
    subst e
    rw [toTs, toTs, lts] at h
    exact kat_nil h
  | x :: xs, y :: ys, _, _, _, _, i, ra, rb, h, ha, hb, hd, h0, hf, k => by
    obtain ⟨v, vs, a1, a2, rfl, r1, r2⟩ := reads_cons ra
    obtain ⟨w', ws, b1, b2, rfl, q1, q2⟩ := reads_cons rb
    simp only [PyData.depthAll] at hd
    simp only [PyData.canLayAll0, Bool.and_eq_true] at ha hb
    simp only [sms, Bool.and_eq_true] at h
    have hf' : fin = decide (vs.length < ws.length) := by rw [hf]; simp only [List.length_cons, Nat.add_lt_add_iff_right]
    refine kat_cons (eqAt_reads x y A s v w' a1 b1 r1 q1 ha.1 hb.1 (by omega) prog w _ _ ?_)
    rw [bq_eqv h.1]
    refine kat_go (fun e => kat_yes ?_) (fun e => kat_no ?_)
    · have e2 := (bq_iff _ _).mp e
      refine kat_run hu xs ys vs ws a2 b2 (i + 1) r2 q2 h.2 ha.2 hb.2 (by omega) (fun z => absurd z (Nat.succ_ne_zero _)) hf' ?_
      rw [toTs, toTs, e2, lts_same] at k
      exact k
    · have ne : toT x ≠ toT y := fun z => by rw [(bq_iff _ _).mpr z] at e; cases e
      rw [toTs, toTs, lts_other ne] at k
      refine one_lt r1 q1 h.1 ha.1 hb.1 (by omega) (fun hb2 => h0 ?_ x rfl) k
      simp only [Bool.and_eq_true, beq_iff_eq] at hb2
      exact hb2.2
theorem key_run {b : Bool} {d e : PyData} {p q : Value} {as bs : List Addr} {Q : Bool → Shared → Prop} {E : Value → Shared → Prop} (hu : A.units + 60 < cLine) (ra : Reads s.heap p d as) (rb : Reads s.heap q e bs) (h : sm d e = true) (ha : d.canLay0 = true) (hb : e.canLay0 = true) (hd : d.depth ≤ 50) (h1 : hd1 d = true)
    (k : Q (lt (toT d) (toT e)) s) : wpAny (model prog w) A (keyLt' (tuples' b) p q) Q E s := by
  cases d with
  | tuple xs =>
    cases e with
    | tuple ys =>
      obtain ⟨a, o, vs, n, as', rfl, ho, hc, hdt, r1⟩ := reads_tup ra
      obtain ⟨a2, o2, ws, n2, bs', rfl, ho2, hc2, hdt2, r2⟩ := reads_tup rb
      simp only [PyData.depth] at hd
      simp only [PyData.canLay0] at ha hb
      simp only [sm] at h
      rw [toT, toT, lt] at k
      refine kat_lt ho hdt ho2 hdt2 (kat_run hu xs ys vs.toList ws.toList as' bs' 0 r1 r2 h ha hb (by omega) (fun _ x hx => ?_) (by rw [Array.length_toList, Array.length_toList]) k)
      cases xs with
      | nil => simp at hx
      | cons y ys =>
        cases hx
        cases x with
        | int n => exact .inl ⟨n, rfl⟩
        | str z => exact .inr ⟨z, rfl⟩
        | _ => simp [hd1] at h1
    | _ => simp [sm] at h
  | _ => simp [hd1] at h1

theorem hd_sm {d e : PyData} (h : sm d e = true) (h1 : hd1 d = true) (h2 : hd1 e = true) : True ∧ ((∃ n m r r', d = .tuple (.int n :: r) ∧ e = .tuple (.int m :: r')) ∨ ∃ n m r r', d = .tuple (.str n :: r) ∧ e = .tuple (.str m :: r')) := by
  cases d with
  | tuple xs =>
    cases e with
    | tuple ys =>
      cases xs with
      | nil => simp [hd1] at h1
      | cons x xs =>
        cases ys with
        | nil => simp [hd1] at h2
        | cons y ys =>
          simp only [sm, sms, Bool.and_eq_true] at h
          cases x with
          | int n =>
            cases y with
            | int m => exact ⟨trivial, .inl ⟨n, m, xs, ys, rfl, rfl⟩⟩
            | _ => simp [sm] at h
          | str n =>
            cases y with
            | str m => exact ⟨trivial, .inr ⟨n, m, xs, ys, rfl, rfl⟩⟩
            | _ => simp [sm] at h
          | _ => simp [hd1] at h1
    | _ => simp [sm] at h
  | _ => simp [hd1] at h1
theorem kind_run {vs : List Value} {Q : SortKind → Shared → Prop} {E : Value → Shared → Prop} (h2 : 0 < vs.length) (d0 : PyData) (h0 : hd1 d0 = true) (hv : ∀ v ∈ vs, ∃ d as, Reads s.heap v d as ∧ sm d0 d = true ∧ hd1 d = true) (q : Q (tuples' true) s) : wpAny (model prog w) A (keyKind' vs.toArray) Q E s := by
  have fs : ∀ l : List Value, (∀ v ∈ l, v ∈ vs) → ∃ fs, fs.length = l.length ∧ KatTups s.heap l fs ∧ ((∃ n r, d0 = .tuple (.int n :: r)) → ∀ v ∈ fs, ∃ n t, v = Value.int n t) ∧ ((∃ n r, d0 = .tuple (.str n :: r)) → ∀ v ∈ fs, ∃ n t, v = Value.str n t) := by
    intro l
    induction l with
    | nil => exact fun _ => ⟨[], rfl, KatTups.nil, fun _ => by simp, fun _ => by simp⟩
    | cons v l ih =>
      intro hl
      obtain ⟨fs, e, t, ti, ts⟩ := ih fun x hx => hl x (List.mem_cons_of_mem _ hx)
      obtain ⟨d, as, rd, hs, hd⟩ := hv v (hl v List.mem_cons_self)
      obtain ⟨_, hk⟩ := hd_sm hs h0 hd
      clear hd
      rcases hk with ⟨n, m, r, r', e1, rfl⟩ | ⟨n, m, r, r', e1, rfl⟩
      · obtain ⟨a, o, xs, k, as', rfl, ho, hc, hd, r1⟩ := reads_tup rd
        obtain ⟨v1, ws, a1, a2, ex, q1, q2⟩ := reads_cons r1
        cases q1 with
        | int i t' =>
        refine ⟨.int m t' :: fs, by simp [e], KatTups.cons ho hc hd ?_ t, fun _ => ?_, fun ⟨n', r2, e2⟩ => ?_⟩
        · rw [← Array.getElem?_toList, ex]
          rfl
        · intro u hu
          rcases List.mem_cons.mp hu with rfl | hu
          · exact ⟨_, _, rfl⟩
          · exact ti ⟨_, _, e1⟩ u hu
        · rw [e1] at e2
          cases e2
      · obtain ⟨a, o, xs, k, as', rfl, ho, hc, hd, r1⟩ := reads_tup rd
        obtain ⟨v1, ws, a1, a2, ex, q1, q2⟩ := reads_cons r1
        cases q1 with
        | str i t' =>
        refine ⟨.str m t' :: fs, by simp [e], KatTups.cons ho hc hd ?_ t, fun ⟨n', r2, e2⟩ => ?_, fun _ => ?_⟩
        · rw [← Array.getElem?_toList, ex]
          rfl
        · rw [e1] at e2
          cases e2
        · intro u hu
          rcases List.mem_cons.mp hu with rfl | hu
          · exact ⟨_, _, rfl⟩
          · exact ts ⟨_, _, e1⟩ u hu
  obtain ⟨fs, e, t, ti, ts⟩ := fs vs fun _ h => h
  have hd : (∃ n r, d0 = .tuple (.int n :: r)) ∨ ∃ n r, d0 = .tuple (.str n :: r) := by
    cases d0 with
    | tuple xs =>
      cases xs with
      | nil => simp [hd1] at h0
      | cons x xs =>
        cases x with
        | int n => exact .inl ⟨_, _, rfl⟩
        | str n => exact .inr ⟨_, _, rfl⟩
        | _ => simp [hd1] at h0
    | _ => simp [hd1] at h0
  rcases hd with hd | hd
  · have e1 : (Value.type "int" != Value.type "tuple") = true := by first | rfl | decide
    refine kat_kind (T := Value.type "int") t (by omega) (fun v hv => ?_) rfl (by rw [e1]; exact q)
    obtain ⟨k, t, rfl⟩ := ti hd v hv
    exact PySem.W.Looks.of_pure rfl
  · have e1 : (Value.type "str" != Value.type "tuple") = true := by first | rfl | decide
    refine kat_kind (T := Value.type "str") t (by omega) (fun v hv => ?_) rfl (by rw [e1]; exact q)
    obtain ⟨k, t, rfl⟩ := ts hd v hv
    exact PySem.W.Looks.of_pure rfl
end
end Od
namespace Od
open PySem PySem.Spec PyProof.Rows L2 SeqAt

def Old (g h : Heap) : Prop := ∀ b o, g.get? b = some o → h.get? b = some o
section
variable {pr : Program} {wd : World} {Ar : Around} {Rs : Result → Shared → Prop} {It ax : Addr} {its : Array Value} {g : Heap}

def CmpG (pr : Program) (wd : World) (Ar : Around) (g : Heap) (its : Array Value) (bt : Nat → Nat → Bool) : Prop :=
  ∀ i j u v (z : Shared) (Q : Value → Shared → Prop) (E : Value → Shared → Prop), Old g z.heap → its[i]? = some u → its[j]? = some v → Q (.bool (bt i j)) z → wpAny (model pr wd) Ar (richCompare .Lt u v) Q E z
theorem Old.up {h1 h2 : Heap} {I S : Addr} (o : Old g h1) (gI : ∀ b x, g.get? b = some x → b ≠ I) (k : ∀ b x, b ∉ [I] → h1.get? b = some x → h2.get? b = some x) : Old g h2 := fun b x e => k b x (fun m => gI b x e (List.mem_singleton.mp m)) (o b x e)
theorem min_go (wk : Walks pr wd Ar.in1 It [It, ax] [It] its.size (fun i v => its[i]? = some v) (fun i h => h.IsListIter It ax i ∧ h.IsList ax its)) (bt : Nat → Nat → Bool) (cm : CmpG pr wd Ar.in1 g its bt) (S : Addr) (sI : S ≠ It) (sX : S ≠ ax)
    (gI : ∀ b x, g.get? b = some x → b ≠ It) (gS : ∀ b x, g.get? b = some x → b ≠ S) :
    ∀ (k j : Nat) (z : Shared) (u : Value) (c : Nat), its.size - (j + 1) = k → j + 1 ≤ its.size → Old g z.heap → (z.heap.IsListIter It ax (j + 1) ∧ z.heap.IsList ax its) → its[argBest bt j]? = some u →
    z.heap.get? S = some { cls := .type "list", dict := none, data := .seq #[u, u] c, slots := #[] } →
    (∀ v h tk, its[argBest bt (its.size - 1)]? = some v → Old g h → Rs (.ok (.ret v)) { z with heap := h, toks := tk }) →
    codeAny (model pr wd) Ar (.builtin "min.loop" ⟨[.ref It, .none, .ref S], []⟩) Rs z := by
  have nm : (toString "min" ++ toString ".loop" : String) = "min.loop" := by decide
  have sW : S ∉ [It] := fun m => sI (List.mem_singleton.mp m)
  intro k
  induction k with
  | zero =>
    intro j z u c hk hj od st hu hS fin
    have hin : j + 1 = its.size := by omega
    refine codeAny_builtin F.entry_min_loop ?_
    rw [Around.under_plainId F.plain_min_loop _]
    show wpAny _ Ar.in1 (seqItems? (.ref S) >>= _) _ _ z
    refine wpAny_bind (wpAny_seqItems hS rfl ?_)
    show wpAny _ Ar.in1 (tryCatch (pyNext (.ref It)) _ >>= _) _ _ z
    refine wpAny_bind (wpAny_tryCatch (wk.done z _ _ (hin ▸ st) fun h tk kp => ?_))
    have hS2 := kp S _ sW hS
    show wpAny _ Ar.in1 (updateSeq S (fun _ => #[]) >>= _) _ _ _
    refine wpAny_bind ?_
    refine wpAny_updateSeq hS2 rfl (wpAny_bind (wpAny_letGo (wpAny_pure ?_)))
    refine fin u _ tk (by rw [← hin]; exact hu) fun b x e => ?_
    exact (Heap.get?_update_other _ _ (Ne.symm (gS b x e))).trans (od.up (S := S) gI kp b x e)
  | succ k ih =>
    intro j z u c hk hj od st hu hS fin
    have hlt : j + 1 < its.size := by omega
    refine codeAny_builtin F.entry_min_loop ?_
    rw [Around.under_plainId F.plain_min_loop _]
    show wpAny _ Ar.in1 (seqItems? (.ref S) >>= _) _ _ z
    refine wpAny_bind (wpAny_seqItems hS rfl ?_)
    show wpAny _ Ar.in1 (tryCatch (pyNext (.ref It)) _ >>= _) _ _ z
    refine wpAny_bind (wpAny_tryCatch (wk.item (j + 1) z _ _ hlt st fun v h tk hv st2 kp => ?_))
    have hS2 := kp S _ sW hS
    have od2 : Old g h := od.up (S := S) gI kp
    show wpAny _ Ar.in1 (tryCatch (holding [v, v] (richCompare .Lt v u >>= _)) _ >>= _) _ _ _
    refine wpAny_bind (wpAny_tryCatch (wpAny_holding (wpAny_bind (cm (j + 1) (argBest bt j) v u _ _ _ od2 hv hu ?_))))
    refine wpAny_bind (wpAny_holding (wpAny_truthy_bool ?_))
    refine wpAny_bind (wpAny_letGo (wpAny_pure ?_))
    cases hb : bt (j + 1) (argBest bt j) with
    | true =>
      simp only [if_true]
      refine wpAny_bind ?_
      refine wpAny_updateSeq hS2 rfl (wpAny_bind (wpAny_letGo ?_))
      rw [nm]
      refine wpAny_pure ⟨plainId_quiet F.plain_min_loop _, ih (j + 1) _ v _ (by omega) hlt (fun b x e => (Heap.get?_update_other _ _ (Ne.symm (gS b x e))).trans (od2 b x e)) (wk.frame _ _ _ st2 fun b hbf o e => ?_) (by simp only [argBest, hb, if_true]; exact hv) (Heap.get?_update_self _ hS2 rfl)
        fun v' h2 tk2 => fin v' h2 tk2⟩
      refine (Heap.get?_update_other _ _ (fun q : S = b => ?_)).trans e
      subst q
      simp only [List.mem_cons, List.not_mem_nil, or_false] at hbf
      exact hbf.elim sI sX
    | false =>
      simp only [Bool.false_eq_true, if_false]
      refine wpAny_bind (wpAny_letGo ?_)
      rw [nm]
      exact wpAny_pure ⟨plainId_quiet F.plain_min_loop _, ih (j + 1) _ u c (by omega) hlt od2 st2 (by simp only [argBest, hb, Bool.false_eq_true, if_false]; exact hu) hS2 fun v' h2 tk2 => fin v' h2 tk2⟩
theorem min_one (wk : Walks pr wd Ar.in1 It [It, ax] [It] its.size (fun i v => its[i]? = some v) (fun i h => h.IsListIter It ax i ∧ h.IsList ax its)) (bt : Nat → Nat → Bool) (cm : CmpG pr wd Ar.in1 g its bt) (S : Addr) (sI : S ≠ It) (sX : S ≠ ax)
    (gI : ∀ b x, g.get? b = some x → b ≠ It) (gS : ∀ b x, g.get? b = some x → b ≠ S) (hn : 0 < its.size) {z : Shared} {c : Nat} (od : Old g z.heap) (st : z.heap.IsListIter It ax 0 ∧ z.heap.IsList ax its)
    (hS : z.heap.get? S = some { cls := .type "list", dict := none, data := .seq #[] c, slots := #[] })
    (fin : ∀ v h tk, its[argBest bt (its.size - 1)]? = some v → Old g h → Rs (.ok (.ret v)) { z with heap := h, toks := tk }) :
    codeAny (model pr wd) Ar (.builtin "min.loop" ⟨[.ref It, .none, .ref S], []⟩) Rs z := by
  have nm : (toString "min" ++ toString ".loop" : String) = "min.loop" := by decide
  have sW : S ∉ [It] := fun m => sI (List.mem_singleton.mp m)
  refine codeAny_builtin F.entry_min_loop ?_
  rw [Around.under_plainId F.plain_min_loop _]
  show wpAny _ Ar.in1 (seqItems? (.ref S) >>= _) _ _ z
  refine wpAny_bind (wpAny_seqItems hS rfl ?_)
  show wpAny _ Ar.in1 (tryCatch (pyNext (.ref It)) _ >>= _) _ _ z
  refine wpAny_bind (wpAny_tryCatch (wk.item 0 z _ _ hn st fun v h tk hv st2 kp => ?_))
  have hS2 := kp S _ sW hS
  have od2 : Old g h := od.up (S := S) gI kp
  show wpAny _ Ar.in1 (updateSeq S (fun _ => #[v, v]) >>= _) _ _ _
  refine wpAny_bind ?_
  refine wpAny_updateSeq hS2 rfl ?_
  rw [nm]
  refine wpAny_pure ⟨plainId_quiet F.plain_min_loop _, min_go wk bt cm S sI sX gI gS _ 0 _ v _ rfl hn (fun b x e => (Heap.get?_update_other _ _ (Ne.symm (gS b x e))).trans (od2 b x e)) (wk.frame _ _ _ st2 fun b hbf o e => ?_) hv (Heap.get?_update_self _ hS2 rfl) fun v' h2 tk2 => fin v' h2 tk2⟩
  refine (Heap.get?_update_other _ _ (fun q : S = b => ?_)).trans e
  subst q
  simp only [List.mem_cons, List.not_mem_nil, or_false] at hbf
  exact hbf.elim sI sX
end
section
variable {pr : Program} {wd : World} {Ar : Around} {E : Value → Shared → Prop} {z : Shared} {ax : Addr} {its : Array Value}

theorem min_list (hh : Ar.handled = none) (hl : z.heap.IsList ax its) (hn : 0 < its.size) (bt : Nat → Nat → Bool) (cm : CmpG pr wd Ar.in1.in1 z.heap its bt) {Q : Value → Shared → Prop}
    (fin : ∀ v h tk, its[argBest bt (its.size - 1)]? = some v → Old z.heap h → Q v { z with heap := h, toks := tk }) : wpAny (model pr wd) Ar (call (.builtin "min") [.ref ax]) Q E z := by
  have nm : (toString "min" ++ toString ".loop" : String) = "min.loop" := by decide
  have cm1 : CmpG pr wd Ar.in1 z.heap its bt := fun i j u v y Q E h1 h2 h3 h4 => wpAny_of_in1 (cm i j u v y Q E h1 h2 h3 h4)
  refine call_function_tree F.kind_min F.plain_min F.entry_min (F.args_min1 _) ?_
  show wpAny _ Ar.in1 (Builtin.Builtins.bindParams "min" ["key", "default"] 0 ⟨[], []⟩ >>= _) _ _ z
  refine wpAny_bind (wpAny_of_eq (show Builtin.Builtins.bindParams "min" ["key", "default"] 0 ⟨[], []⟩ = pure [none, none] from rfl) ?_)
  refine wpAny_bind (wpAny_pure ?_)
  have hlt : ax < z.heap.objs.size := by obtain ⟨_, e, _⟩ := hl; exact Heap.lt_size e
  refine wpAny_bind (wpAny_pyIter_list hl ?_)
  refine wpAny_bind (wpAny_newObj_type ?_)
  rw [nm]
  have z1 : (z.heap.push { cls := .type "list_iterator", data := .fields #[.ref ax, .int 0 0] }).objs.size = z.heap.objs.size + 1 := Heap.size_push ..
  refine wpAny_pure ⟨plainId_quiet F.plain_min_loop _, min_one (g := z.heap) (Walks.list (A := Ar.in1) hh z.heap.objs.size ax (Nat.ne_of_lt hlt) its) bt cm1 _ ?_ ?_ (fun b x e => Nat.ne_of_lt (Heap.lt_size e)) (fun b x e => ?_) hn (fun b x e => Heap.get?_push_of_some _ (Heap.get?_push_of_some _ e)) ?_ (Heap.get?_push_size _ rfl) fun v h tk hv od => fin v h tk hv od⟩
  · show (z.heap.push _).objs.size ≠ _
    rw [z1]
    exact Nat.succ_ne_self _
  · show (z.heap.push _).objs.size ≠ _
    rw [z1]
    exact Nat.ne_of_gt (Nat.lt_succ_of_lt hlt)
  · show b ≠ (z.heap.push _).objs.size
    rw [z1]
    exact Nat.ne_of_lt (Nat.lt_succ_of_lt (Heap.lt_size e))
  · refine (Walks.list (prog := pr) (w := wd) (A := Ar.in1) hh z.heap.objs.size ax (Nat.ne_of_lt hlt) its).frame _ _ _ (show _ from ⟨⟨_, Heap.get?_push_size _ rfl, rfl, rfl⟩, hl.push _⟩) fun b _ o e => Heap.get?_push_of_some _ e
end
end Od
namespace AL
open PySem PySem.Spec PyProof.Rows L2 G Th Od
variable [TT]
mutual
def dV : Val → PyData
  | .int i => .int i
  | .str x => .str x
  | .tup vs => .tuple (dVs vs)
  | _ => .none
def dVs : List Val → List PyData
  | [] => []
  | v :: vs => dV v :: dVs vs
end
mutual
def pureV : Val → Bool
  | .int _ => true
  | .str _ => true
  | .tup vs => pureVs vs
  | _ => false
def pureVs : List Val → Bool
  | [] => true
  | v :: vs => pureV v && pureVs vs
end
def trV (v : Val) : Tr := toT (dV v)
def ltV (a b : Val) : Bool := lt (trV a) (trV b)
def smV (a b : Val) : Bool := sm (dV a) (dV b)
def okV (v : Val) : Bool := pureV v && (dV v).canLay0 && decide ((dV v).depth ≤ 50)
mutual
theorem trV_inj : ∀ a b : Val, pureV a = true → pureV b = true → trV a = trV b → a = b
  | .int _, .int _, _, _, h => by simp only [trV, dV, toT, Tr.i.injEq] at h; rw [h]
  | .str _, .str _, _, _, h => by simp only [trV, dV, toT, Tr.s.injEq] at h; rw [str_inj h]
  | .tup xs, .tup ys, h1, h2, h => by
    simp only [trV, dV, toT, Tr.t.injEq] at h
    simp only [pureV] at h1 h2
    rw [trVs_inj xs ys h1 h2 h]
  | .int _, .str _, _, _, h => by simp [trV, dV, toT] at h
  | .int _, .tup _, _, _, h => by simp [trV, dV, toT] at h
  | .str _, .int _, _, _, h => by simp [trV, dV, toT] at h
  | .str _, .tup _, _, _, h => by simp [trV, dV, toT] at h
  | .tup _, .int _, _, _, h => by simp [trV, dV, toT] at h
  | .tup _, .str _, _, _, h => by simp [trV, dV, toT] at h
  | .non, _, h, _, _ => by simp [pureV] at h
  | .bl _, _, h, _, _ => by simp [pureV] at h
  | .ref _, _, h, _, _ => by simp [pureV] at h
  | .scr _, _, h, _, _ => by simp [pureV] at h
  | .lam _ _ _ _ _, _, h, _, _ => by simp [pureV] at h
  | .exc _ _ _ _, _, h, _, _ => by simp [pureV] at h
  | .ptu _, _, h, _, _ => by simp [pureV] at h
  | .int _, .non, _, h, _ => by simp [pureV] at h
  | .int _, .bl _, _, h, _ => by simp [pureV] at h
  | .int _, .ref _, _, h, _ => by simp [pureV] at h
  | .int _, .scr _, _, h, _ => by simp [pureV] at h
  | .int _, .lam _ _ _ _ _, _, h, _ => by simp [pureV] at h
  | .int _, .exc _ _ _ _, _, h, _ => by simp [pureV] at h
  | .int _, .ptu _, _, h, _ => by simp [pureV] at h
  | .str _, .non, _, h, _ => by simp [pureV] at h
  | .str _, .bl _, _, h, _ => by simp [pureV] at h
  | .str _, .ref _, _, h, _ => by simp [pureV] at h
  | .str _, .scr _, _, h, _ => by simp [pureV] at h
  | .str _, .lam _ _ _ _ _, _, h, _ => by simp [pureV] at h
  | .str _, .exc _ _ _ _, _, h, _ => by simp [pureV] at h
  | .str _, .ptu _, _, h, _ => by simp [pureV] at h
  | .tup _, .non, _, h, _ => by simp [pureV] at h
  | .tup _, .bl _, _, h, _ => by simp [pureV] at h
  | .tup _, .ref _, _, h, _ => by simp [pureV] at h
  | .tup _, .scr _, _, h, _ => by simp [pureV] at h
  | .tup _, .lam _ _ _ _ _, _, h, _ => by simp [pureV] at h
  | .tup _, .exc _ _ _ _, _, h, _ => by simp [pureV] at h
  | .tup _, .ptu _, _, h, _ => by simp [pureV] at h
theorem trVs_inj : ∀ a b : List Val, pureVs a = true → pureVs b = true → toTs (dVs a) = toTs (dVs b) → a = b
  | [], [], _, _, _ => rfl
  | [], _ :: _, _, _, h => by simp [dVs, toTs] at h
  | _ :: _, [], _, _, h => by simp [dVs, toTs] at h
  | x :: xs, y :: ys, h1, h2, h => by
    simp only [dVs, toTs, List.cons.injEq] at h
    simp only [pureVs, Bool.and_eq_true] at h1 h2
    rw [trV_inj x y h1.1 h2.1 h.1, trVs_inj xs ys h1.2 h2.2 h.2]
end
section
variable {K : PySem.W.Frag} {H : Hp} {m : List Addr}
mutual
theorem dV_dp : ∀ (v : Val) (u : V), VR K H m u v → pureV v = true → Dp K H u (dV v)
  | .int _, _, r, _ => by cases r; rw [dV]; exact .int _
  | .str _, _, r, _ => by cases r; rw [dV]; exact .str _
  | .tup vs, _, r, h => by
    simp only [pureV] at h
    cases r with
    | tup ha ra => rw [dV]; exact .tup ha.sq (dVs_dp vs _ ra h)
  | .non, _, _, h => by simp [pureV] at h
  | .bl _, _, _, h => by simp [pureV] at h
  | .ref _, _, _, h => by simp [pureV] at h
  | .scr _, _, _, h => by simp [pureV] at h
  | .lam _ _ _ _ _, _, _, h => by simp [pureV] at h
  | .exc _ _ _ _, _, _, h => by simp [pureV] at h
  | .ptu _, _, _, h => by simp [pureV] at h
theorem dVs_dp : ∀ (vs : List Val) (us : List V), VRs K H m us vs → pureVs vs = true → DpAll K H us (dVs vs)
  | [], _, r, _ => by cases r; rw [dVs]; exact .nil
  | v :: vs, _, r, h => by
    simp only [pureVs, Bool.and_eq_true] at h
    cases r with
    | cons a b => rw [dVs]; exact .cons (dV_dp v _ a h.1) (dVs_dp vs _ b h.2)
end
theorem dV_all : ∀ {vs : List Val}, (∀ v ∈ vs, pureV v = true) → pureVs vs = true
  | [], _ => rfl
  | v :: vs, h => by
    rw [pureVs, h v List.mem_cons_self, dV_all fun x hx => h x (List.mem_cons_of_mem _ hx)]
    rfl
end
def insT (a : Val) : List Val → List Val
  | [] => [a]
  | b :: l => if ltV b a = true then b :: insT a l else a :: b :: l
def sortT : List Val → List Val
  | [] => []
  | a :: l => insT a (sortT l)
def Srt (l : List Val) : Prop := l.Pairwise fun x y => ltV y x = false
theorem insT_perm (a : Val) : ∀ l : List Val, (insT a l).Perm (a :: l)
  | [] => .refl _
  | b :: l => by
    unfold insT
    split
    · exact ((insT_perm a l).cons b).trans (.swap a b l)
    · exact .refl _
theorem sortT_perm : ∀ l : List Val, (sortT l).Perm l
  | [] => .refl _
  | a :: l => (insT_perm a _).trans ((sortT_perm l).cons a)
theorem insT_srt {a : Val} : ∀ {l : List Val}, Srt l → Srt (insT a l)
  | [], _ => List.pairwise_singleton _ _
  | b :: l, h => by
    obtain ⟨h1, h2⟩ := List.pairwise_cons.mp h
    unfold insT
    split
    · next hb =>
      refine List.pairwise_cons.mpr ⟨fun x hx => ?_, insT_srt h2⟩
      rcases List.mem_cons.mp ((insT_perm a l).mem_iff.mp hx) with rfl | hx
      · exact asy _ _ hb
      · exact h1 x hx
    · next hb =>
      refine List.pairwise_cons.mpr ⟨fun x hx => ?_, h⟩
      have hb : ltV b a = false := by simpa using hb
      rcases List.mem_cons.mp hx with rfl | hx
      · exact hb
      · exact ntr _ _ _ hb (h1 x hx)
theorem sortT_srt : ∀ l : List Val, Srt (sortT l)
  | [] => List.Pairwise.nil
  | a :: l => insT_srt (sortT_srt l)
theorem srt_uniq : ∀ {l m : List Val}, Srt l → Srt m → l.Perm m → (∀ v ∈ l, pureV v = true) → l = m
  | [], m, _, _, p, _ => (List.Perm.eq_nil p.symm).symm
  | x :: l, [], _, _, p, _ => absurd p.length_eq (by simp)
  | x :: l, y :: m, hl, hm, p, hp => by
    obtain ⟨l1, l2⟩ := List.pairwise_cons.mp hl
    obtain ⟨m1, m2⟩ := List.pairwise_cons.mp hm
    have e : x = y := by
      rcases List.mem_cons.mp (p.mem_iff.mp List.mem_cons_self) with e | hx
      · exact e
      · rcases List.mem_cons.mp (p.mem_iff.mpr List.mem_cons_self) with e | hy
        · exact e.symm
        · exact trV_inj x y (hp x List.mem_cons_self) (hp y (List.mem_cons_of_mem _ hy)) (tot _ _ (m1 x hx) (l1 y hy))
    subst e
    rw [srt_uniq l2 m2 p.cons_inv fun v hv => hp v (List.mem_cons_of_mem _ hv)]
theorem sortT_uniq {l m : List Val} (h : Srt l) (p : l.Perm m) (hp : ∀ v ∈ m, pureV v = true) : l = sortT m :=
  srt_uniq h (sortT_srt m) (p.trans (sortT_perm m).symm) fun v hv => hp v (p.mem_iff.mp hv)
theorem perm_up {α β : Type} {f : β → α} : ∀ {out ys : List α}, out.Perm ys → ∀ l : List β, ys = l.map f → ∃ l' : List β, l'.Perm l ∧ l'.map f = out := by
  intro out ys p
  induction p with
  | nil => exact fun l e => ⟨l, .refl _, e.symm⟩
  | cons x _ ih =>
    intro l e
    cases l with
    | nil => cases e
    | cons b l =>
      obtain ⟨e1, e2⟩ := List.cons.inj e
      obtain ⟨l', p', h'⟩ := ih l e2
      exact ⟨b :: l', p'.cons b, by rw [List.map_cons, h', e1]⟩
  | swap x y l0 =>
    intro l e
    match l, e with
    | b :: c :: l, e =>
      obtain ⟨e1, e2⟩ := List.cons.inj e
      obtain ⟨e2, e3⟩ := List.cons.inj e2
      exact ⟨c :: b :: l, .swap b c l, by rw [List.map_cons, List.map_cons, ← e1, ← e2, ← e3]⟩
  | trans _ _ i1 i2 =>
    intro l e
    obtain ⟨l1, p1, h1⟩ := i2 l e
    obtain ⟨l2, p2, h2⟩ := i1 l1 h1.symm
    exact ⟨l2, p2.trans p1, h2⟩
def okSort (vs : List Val) : Bool := vs.all okV && vs.all (fun v => hd1 (dV v)) && vs.all (fun a => vs.all fun b => smV a b) && decide (vs.length < 1000000)
def rSortT (K : PySem.W.Frag) : List V → Hp → VK → Prop := fun us H Q => ∃ (a : Addr) (xs : List V) (bs : List Val), us = [.ref a] ∧ SqL K H a xs ∧ xs.length = bs.length ∧ okSort bs = true ∧ (∀ (i : Nat) (u : V) (b : Val), xs[i]? = some u → bs[i]? = some b → Dp K H u (dV b)) ∧
  ∀ (zs : List (V × Val)) p, zs.Perm (xs.zip bs) → Srt (zs.map (·.2)) → H p = none → Q (.ref p) (upd H p (.lst (zs.map (·.1))))
theorem okSort_all {vs : List Val} (h : okSort vs = true) : (∀ v ∈ vs, pureV v = true ∧ (dV v).canLay0 = true ∧ (dV v).depth ≤ 50 ∧ hd1 (dV v) = true) ∧ (∀ a ∈ vs, ∀ b ∈ vs, sm (dV a) (dV b) = true) ∧ vs.length < 1000000 := by
  simp only [okSort, Bool.and_eq_true, List.all_eq_true, decide_eq_true_eq] at h
  obtain ⟨⟨⟨h1, h2⟩, h3⟩, h4⟩ := h
  refine ⟨fun v hv => ?_, h3, h4⟩
  have := h1 v hv
  simp only [okV, Bool.and_eq_true, decide_eq_true_eq] at this
  exact ⟨this.1.1, this.1.2, this.2, h2 v hv⟩
section
variable {X : Cx}
open Classical in
theorem cr_sortT (hu : X.A.units + 64 < cLine) : CallR X (.builtin "sorted") (rSortT X.K) := by
  intro pins s σ H vs us Q I r h
  obtain ⟨a, xs, bs, rfl, hs, hlen, hok, hd, q⟩ := h
  obtain ⟨ok1, ok2, ok3⟩ := okSort_all hok
  obtain ⟨its, rv, hl, hz⟩ := I.list hs
  obtain ⟨u, rfl, ru⟩ := vals1 r
  obtain rfl : u = Value.ref a := ru
  have li : its.length = bs.length := by rw [← rv.length, hlen]
  have rd : ∀ i (v : Value) b, its[i]? = some v → bs[i]? = some b → ∃ as, Reads s.heap v (dV b) as := fun i v b hv hb => by
    have l : i < xs.length := by rw [hlen]; exact (List.getElem?_eq_some_iff.mp hb).1
    obtain ⟨v', h1, h2⟩ := rv.get (List.getElem?_eq_getElem l)
    rw [hv] at h1
    cases h1
    exact Dp.reads I _ _ _ (hd i _ b (List.getElem?_eq_getElem l) hb) h2
  let f : Value → Tr := fun v => if g : ∃ d : PyData, d.canLay0 = true ∧ ∃ as, Reads s.heap v d as then toT g.choose else .i 0
  have fE : ∀ i (v : Value) b, its[i]? = some v → bs[i]? = some b → f v = trV b := fun i v b hv hb => by
    obtain ⟨as, hr⟩ := rd i v b hv hb
    have g : ∃ d : PyData, d.canLay0 = true ∧ ∃ as, Reads s.heap v d as := ⟨dV b, (ok1 b (List.mem_of_getElem? hb)).2.1, as, hr⟩
    show (if g : ∃ d : PyData, d.canLay0 = true ∧ ∃ as, Reads s.heap v d as then toT g.choose else .i 0) = _
    rw [dif_pos g]
    obtain ⟨c1, as2, c2⟩ := g.choose_spec
    rw [(Reads.unique c2 _ _ hr).1]
    rfl
  have fM : ∀ v ∈ its, ∃ i b, its[i]? = some v ∧ bs[i]? = some b ∧ b ∈ bs := fun v hv => by
    obtain ⟨i, hi⟩ := List.getElem?_of_mem hv
    have l : i < bs.length := by rw [← li]; exact (List.getElem?_eq_some_iff.mp hi).1
    exact ⟨i, bs[i], hi, List.getElem?_eq_getElem l, List.getElem_mem l⟩
  have O : SrtO.Swo (fun v w => lt (f v) (f w)) := ⟨fun x y h => asy _ _ h, fun x y z h1 h2 => ntr _ _ _ h1 h2⟩
  refine SrtO.sorted_ord O hl.isList (by rw [li]; exact Nat.le_of_lt (small ok3)) (fun h2 h₁ a' ha' kk => fun h' keep => ?_) fun out hs hb => ?_
  · have up : ∀ b o, s.heap.get? b = some o → h'.get? b = some o := fun b o e => keep b o (kk b o e).1 (kk b o e).2
    refine ⟨tuples' true, fun Q E hq => ?_, fun p q hp hq => ?_⟩
    · obtain ⟨i0, b0, _, _, hb0⟩ := fM its[0] (List.getElem_mem (by omega))
      refine kind_run (s := { s with heap := h' }) (by omega) (dV b0) (ok1 b0 hb0).2.2.2 (fun v hv => ?_) hq
      obtain ⟨i, b, e1, e2, mb⟩ := fM v hv
      obtain ⟨as, hr⟩ := rd i v b e1 e2
      exact ⟨dV b, as, Reads.keeps up hr, ok2 b0 hb0 b mb, (ok1 b mb).2.2.2⟩
    · obtain ⟨i, b, e1, e2, mb⟩ := fM p.1 hp
      obtain ⟨j, c, e3, e4, mc⟩ := fM q.1 hq
      obtain ⟨as, r1⟩ := rd i _ b e1 e2
      obtain ⟨as2, r2⟩ := rd j _ c e3 e4
      refine key_run (s := { s with heap := h' }) (A := X.A.in1.in1) (by show X.A.units + 1 + 1 + 60 < cLine; omega) (Reads.keeps up r1) (Reads.keeps up r2) (ok2 b mb c mc) (ok1 b mb).2.1 (ok1 c mc).2.1 (ok1 b mb).2.2.1 (ok1 b mb).2.2.2 ⟨rfl, ?_⟩
      show _ = lt (f p.1) (f q.1)
      rw [fE i _ b e1 e2, fE j _ c e3 e4]
      rfl
  · let L : List (Value × (V × Val)) := its.zip (xs.zip bs)
    have zl : (xs.zip bs).length = its.length := by rw [List.length_zip, hlen, li, Nat.min_self]
    have e1 : its = L.map (·.1) := (List.map_fst_zip (by omega)).symm
    have e2 : xs.zip bs = L.map (·.2) := (List.map_snd_zip (by omega)).symm
    obtain ⟨L', pL, eL⟩ := perm_up hb.perm L e1
    have inL : ∀ t ∈ L', ∃ i, its[i]? = some t.1 ∧ xs[i]? = some t.2.1 ∧ bs[i]? = some t.2.2 := fun t ht => by
      obtain ⟨i, hi⟩ := List.getElem?_of_mem (pL.mem_iff.mp ht)
      obtain ⟨g1, g2⟩ := List.getElem?_zip_eq_some.mp hi
      obtain ⟨g3, g4⟩ := List.getElem?_zip_eq_some.mp g2
      exact ⟨i, g1, g3, g4⟩
    have vals : ∀ l : List (Value × (V × Val)), (∀ t ∈ l, t ∈ L') → Vals ((l.map (·.2)).map (·.1)) (l.map (·.1)) := fun l => by
      induction l with
      | nil => exact fun _ => .nil
      | cons t l ih =>
        intro hl
        refine .cons ?_ (ih fun x hx => hl x (List.mem_cons_of_mem _ hx))
        obtain ⟨i, g1, g2, _⟩ := inL t (hl t List.mem_cons_self)
        obtain ⟨v, g3, g4⟩ := rv.get g2
        rw [g1] at g3
        cases g3
        exact g4
    have pz : (L'.map (·.2)).Perm (xs.zip bs) := by rw [e2]; exact pL.map _
    have sr : Srt ((L'.map (·.2)).map (·.2)) := by
      rw [List.map_map]
      refine List.pairwise_map.mpr ?_
      rw [← eL] at hs
      have hs2 := List.pairwise_map.mp hs
      refine hs2.imp_of_mem fun {t t'} ht ht' hh => ?_
      obtain ⟨i, g1, _, g3⟩ := inL t ht
      obtain ⟨j, k1, _, k3⟩ := inL t' ht'
      have this : lt (f t'.1) (f t.1) = false := hh
      rw [fE i _ _ g1 g3, fE j _ _ k1 k3] at this
      exact this
    refine ⟨.ref _, upd H _ (.lst ((L'.map (·.2)).map (·.1))), I.laid (t' := s.toks) (fun b o e => sortedAll_old e) (Nat.le_succ _) ?_, rfl, q _ _ pz sr (I.hok.fresh (Nat.le_succ _))⟩
    obtain ⟨n, hn⟩ := sortedAll_at s.heap its out.toArray
    refine ⟨?_, out, n, ?_, hn⟩
    · rw [List.length_map, pz.length_eq, zl, li]
      exact Nat.le_of_lt (small ok3)
    · have := vals L' fun _ h => h
      rw [eL] at this
      exact this
end
section
variable {K : PySem.W.Frag}
def gSortT : List Val → Sto → Option (Val × Sto) := fun xs S => match xs with
  | [.ref n] => match S[n]? with
    | some (.lst vs) => if okSort vs = true then some (.ref S.length, S ++ [.lst (sortT vs)]) else none
    | _ => none
  | _ => none
theorem vrs_of_zip {H : Hp} {m : List Addr} {xs : List V} {vs : List Val} (r : VRs K H m xs vs) {zs : List (V × Val)} (p : zs.Perm (xs.zip vs)) : VRs K H m (zs.map (·.1)) (zs.map (·.2)) := by
  have all : ∀ t ∈ xs.zip vs, VR K H m t.1 t.2 := fun t ht => by
    obtain ⟨i, hi⟩ := List.getElem?_of_mem ht
    obtain ⟨g1, g2⟩ := List.getElem?_zip_eq_some.mp hi
    obtain ⟨u, g3, g4⟩ := r.get g2
    rw [g1] at g3
    cases g3
    exact g4
  have go : ∀ l : List (V × Val), (∀ t ∈ l, t ∈ zs) → VRs K H m (l.map (·.1)) (l.map (·.2)) := fun l => by
    induction l with
    | nil => exact fun _ => .nil
    | cons t l ih => exact fun hl => .cons (all t (p.mem_iff.mp (hl t List.mem_cons_self))) (ih fun x hx => hl x (List.mem_cons_of_mem _ hx))
  exact go zs fun _ h => h
theorem cSortT : CaA K (rSortT K) gSortT := by
  intro m S H xs v S' us Q R ru e q
  unfold gSortT at e
  split at e
  · next n =>
    obtain ⟨u, rfl, r1⟩ := ru.one_of
    cases r1 with
    | ref hm =>
      split at e
      · next vs en =>
        split at e
        · next hok =>
          cases e
          obtain ⟨xs, hx, rx⟩ := R.ob _ _ _ en hm
          obtain ⟨ok1, _, _⟩ := okSort_all hok
          refine ⟨_, xs, vs, rfl, SqL.of hx, rx.len, hok, fun i u b h1 h2 => ?_, fun zs p pz sr hp => ?_⟩
          · obtain ⟨u', h3, h4⟩ := rx.get h2
            rw [h1] at h3
            cases h3
            exact dV_dp _ _ h4 (ok1 b (List.mem_of_getElem? h2)).1
          · have e2 : zs.map (·.2) = sortT vs := by
              refine sortT_uniq sr ?_ fun v hv => (ok1 v hv).1
              have := pz.map (·.2)
              rwa [List.map_snd_zip (by rw [rx.len]; exact Nat.le_refl _)] at this
            have rz := vrs_of_zip rx pz
            rw [e2] at rz
            exact newList R rz q p hp
        · cases e
      · cases e
  · cases e

def gSortedG : List Val → Sto → Option (Val × Sto) := fun xs S => (gSorted xs S).or (gSortT xs S)
def rSortedG (K : PySem.W.Frag) : List V → Hp → VK → Prop := fun x H Q => rSortedA K x H Q ∨ rSortT K x H Q
theorem call_sortedG {X : Cx} (hc : X.calm = true) (hu : X.A.units + 64 < cLine) : CallR X (.builtin "sorted") (rSortedG X.K) := CallR.or (call_sortedA hc) (cr_sortT hu)
theorem cSortedG : CaA K (rSortedG K) gSortedG := cSorted.or cSortT
end
section
variable {X : Cx} {K : PySem.W.Frag}
def rLtD (K : PySem.W.Frag) : R2 := fun x y H Q => ∃ d e, Dp K H x d ∧ Dp K H y e ∧ sm d e = true ∧ d.canLay0 = true ∧ e.canLay0 = true ∧ d.depth ≤ 50 ∧ Q (.bl (lt (toT d) (toT e))) H
theorem op_ltD (hu : X.A.units + 64 < cLine) : OpR X (compareOp .Lt) (rLtD X.K) := by
  intro pins s σ H x y v u Q I rx ry h
  obtain ⟨d, e, h1, h2, h3, h4, h5, h6, q⟩ := h
  obtain ⟨as, r1⟩ := Dp.reads I _ _ _ h1 rx
  obtain ⟨bs, r2⟩ := Dp.reads I _ _ _ h2 ry
  exact rc_lt d e X.A s v u as bs r1 r2 h3 h4 h5 (by omega) X.prog X.w _ _ ⟨.bl _, H, I, rfl, q⟩
def gLtD : Val → Val → Sto → Option (Val × Sto) := fun x y S => if okV x = true ∧ okV y = true ∧ smV x y = true then some (.bl (ltV x y), S) else none
theorem okV_all {v : Val} (h : okV v = true) : pureV v = true ∧ (dV v).canLay0 = true ∧ (dV v).depth ≤ 50 := by
  simp only [okV, Bool.and_eq_true, decide_eq_true_eq] at h
  exact ⟨h.1.1, h.1.2, h.2⟩
theorem oLtD : OpA K (rLtD K) gLtD := by
  intro m S H x y v S' u w Q R ru rw_ e q
  unfold gLtD at e
  split at e
  · next hc =>
    cases e
    have a := okV_all hc.1
    have b := okV_all hc.2.1
    exact ⟨dV x, dV y, dV_dp _ _ ru a.1, dV_dp _ _ rw_ b.1, hc.2.2, a.2.1, b.2.1, a.2.2, q m _ H (.refl _ _) R (.bl _)⟩
  · cases e
def okMin (vs : List Val) : Bool := vs.all okV && vs.all (fun a => vs.all fun b => smV a b)
theorem okMin_all {vs : List Val} (h : okMin vs = true) : (∀ v ∈ vs, pureV v = true ∧ (dV v).canLay0 = true ∧ (dV v).depth ≤ 50) ∧ ∀ a ∈ vs, ∀ b ∈ vs, sm (dV a) (dV b) = true := by
  simp only [okMin, Bool.and_eq_true, List.all_eq_true] at h
  exact ⟨fun v hv => okV_all (h.1 v hv), h.2⟩
def rMinT (K : PySem.W.Frag) : List V → Hp → VK → Prop := fun us H Q => ∃ (a : Addr) (xs : List V) (bs : List Val), us = [.ref a] ∧ SqL K H a xs ∧ xs.length = bs.length ∧ bs ≠ [] ∧ okMin bs = true ∧ (∀ (i : Nat) (u : V) (b : Val), xs[i]? = some u → bs[i]? = some b → Dp K H u (dV b)) ∧
  ∀ (i : Nat) (u : V) (b : Val), xs[i]? = some u → bs[i]? = some b → (∀ c ∈ bs, ltV c b = false) → Q u H
theorem best_min {bt : Nat → Nat → Bool} (irr : ∀ i, bt i i = false) (as : ∀ i j, bt i j = true → bt j i = false) (nt : ∀ i j k, bt j i = false → bt k j = false → bt k i = false) : ∀ k j, j ≤ k → bt j (argBest bt k) = false
  | 0, j, h => by
    obtain rfl : j = 0 := by omega
    exact irr 0
  | k + 1, j, h => by
    unfold argBest
    split
    · next hb =>
      by_cases e : j = k + 1
      · rw [e]
        exact irr _
      · exact nt _ _ _ (as _ _ hb) (best_min irr as nt k j (by omega))
    · next hb =>
      by_cases e : j = k + 1
      · rw [e]
        simpa using hb
      · exact best_min irr as nt k j (by omega)
theorem cr_minT (hc : X.calm = true) (hu : X.A.units + 64 < cLine) : CallR X (.builtin "min") (rMinT X.K) := by
  intro pins s σ H vs us Q I r h
  obtain ⟨a, xs, bs, rfl, hs, hlen, hne, hok, hd, q⟩ := h
  obtain ⟨ok1, ok2⟩ := okMin_all hok
  obtain ⟨its, rv, hl, hz⟩ := I.list hs
  obtain ⟨u, rfl, ru⟩ := vals1 r
  obtain rfl : u = Value.ref a := ru
  have li : its.length = bs.length := by rw [← rv.length, hlen]
  have rd : ∀ i (v : Value) b, its[i]? = some v → bs[i]? = some b → ∃ as, Reads s.heap v (dV b) as := fun i v b hv hb => by
    have l : i < xs.length := by rw [hlen]; exact (List.getElem?_eq_some_iff.mp hb).1
    obtain ⟨v', h1, h2⟩ := rv.get (List.getElem?_eq_getElem l)
    rw [hv] at h1
    cases h1
    exact Dp.reads I _ _ _ (hd i _ b (List.getElem?_eq_getElem l) hb) h2
  have pos : 0 < bs.length := List.length_pos_iff.mpr hne
  let bt : Nat → Nat → Bool := fun i j => ltV (bs.getD i .non) (bs.getD j .non)
  have gd : ∀ i b, bs[i]? = some b → bs.getD i .non = b := fun i b hb => by rw [List.getD_eq_getElem?_getD, hb]; rfl
  have tk : ∀ (i : Nat) (v : Value), its.toArray[i]? = some v → ∃ b, its[i]? = some v ∧ bs[i]? = some b ∧ b ∈ bs := fun i v hv => by
    have hv : its[i]? = some v := by simpa using hv
    have l : i < bs.length := by rw [← li]; exact (List.getElem?_eq_some_iff.mp hv).1
    exact ⟨bs[i], hv, List.getElem?_eq_getElem l, List.getElem_mem l⟩
  refine min_list (I.ok.hd hc) hl.isList (by simpa using (show 0 < its.length by omega)) bt (fun i j v w z Q E ho hv hw hq => ?_) fun v h tk' hv ho => ?_
  · obtain ⟨b, h1, h2, mb⟩ := tk i v hv
    obtain ⟨c, h3, h4, mc⟩ := tk j w hw
    obtain ⟨as, r1⟩ := rd i v b h1 h2
    obtain ⟨as2, r2⟩ := rd j w c h3 h4
    refine rc_lt (dV b) (dV c) X.A.in1.in1 z v w as as2 (Reads.keeps ho r1) (Reads.keeps ho r2) (ok2 b mb c mc) (ok1 b mb).2.1 (ok1 c mc).2.1 (by have := (ok1 b mb).2.2; show X.A.units + 1 + 1 + _ + 1 < cLine; omega) X.prog X.w _ _ ?_
    have e : bt i j = lt (toT (dV b)) (toT (dV c)) := by
      show ltV _ _ = _
      rw [gd i b h2, gd j c h4]
      rfl
    rw [← e]
    exact hq
  · obtain ⟨b, h1, h2, mb⟩ := tk _ v hv
    have l : argBest bt (its.toArray.size - 1) < xs.length := by rw [hlen]; exact (List.getElem?_eq_some_iff.mp h2).1
    obtain ⟨v', g1, g2⟩ := rv.get (List.getElem?_eq_getElem l)
    rw [h1] at g1
    cases g1
    refine ⟨_, H, I.kept ho, g2, q _ _ b (List.getElem?_eq_getElem l) h2 fun c hc => ?_⟩
    obtain ⟨j, hj⟩ := List.getElem?_of_mem hc
    have lj := (List.getElem?_eq_some_iff.mp hj).1
    have := best_min (bt := bt) (fun i => Od.irr _) (fun i j h => asy _ _ h) (fun i j k h1 h2 => ntr _ _ _ h1 h2) (its.toArray.size - 1) j (by simp; omega)
    have e : bt j (argBest bt (its.toArray.size - 1)) = ltV c b := by
      show ltV _ _ = _
      rw [gd j c hj, gd _ b h2]
    rw [← e]
    exact this
def minT : Val → List Val → Val
  | a, [] => a
  | a, b :: l => minT (if ltV b a = true then b else a) l
theorem minT_mem : ∀ (a : Val) (l : List Val), minT a l ∈ a :: l
  | a, [] => List.mem_cons_self
  | a, b :: l => by
    unfold minT
    rcases List.mem_cons.mp (minT_mem (if ltV b a = true then b else a) l) with e | h
    · rw [e]
      split <;> simp
    · exact List.mem_cons_of_mem _ (List.mem_cons_of_mem _ h)
theorem minT_le : ∀ (a : Val) (l : List Val), ∀ c ∈ a :: l, ltV c (minT a l) = false
  | a, [], c, h => by
    rw [List.mem_singleton.mp h]
    exact Od.irr _
  | a, b :: l, c, h => by
    unfold minT
    have ih := minT_le (if ltV b a = true then b else a) l
    have h0 := ih _ List.mem_cons_self
    rcases List.mem_cons.mp h with rfl | h
    · refine ntr _ _ _ h0 ?_
      split
      · next hb => exact asy _ _ hb
      · exact Od.irr _
    · rcases List.mem_cons.mp h with rfl | h
      · refine ntr _ _ _ h0 ?_
        split
        · exact Od.irr _
        · next hb => exact (Bool.not_eq_true _).mp hb
      · exact ih c (List.mem_cons_of_mem _ h)
theorem min_uniq {a b : Val} {l : List Val} (ha : a ∈ l) (hb : b ∈ l) (pa : pureV a = true) (pb : pureV b = true) (h1 : ∀ c ∈ l, ltV c a = false) (h2 : ∀ c ∈ l, ltV c b = false) : a = b :=
  trV_inj a b pa pb (tot _ _ (h2 a ha) (h1 b hb))
def gMinT : List Val → Sto → Option (Val × Sto) := fun xs S => match xs with
  | [.ref n] => match S[n]? with
    | some (.lst (a :: l)) => if okMin (a :: l) = true then some (minT a l, S) else none
    | _ => none
  | _ => none
theorem cMinT : CaA K (rMinT K) gMinT := by
  intro m S H xs v S' us Q R ru e q
  unfold gMinT at e
  split at e
  · next n =>
    obtain ⟨u, rfl, r1⟩ := ru.one_of
    cases r1 with
    | ref hm =>
      split at e
      · next a l en =>
        split at e
        · next hok =>
          cases e
          obtain ⟨xs, hx, rx⟩ := R.ob _ _ _ en hm
          obtain ⟨ok1, _⟩ := okMin_all hok
          refine ⟨_, xs, a :: l, rfl, SqL.of hx, rx.len, by simp, hok, fun i u b h1 h2 => ?_, fun i u b h1 h2 h3 => ?_⟩
          · obtain ⟨u', h4, h5⟩ := rx.get h2
            rw [h1] at h4
            cases h4
            exact dV_dp _ _ h5 (ok1 b (List.mem_of_getElem? h2)).1
          · obtain ⟨u', h4, h5⟩ := rx.get h2
            rw [h1] at h4
            cases h4
            have e : b = minT a l := min_uniq (List.mem_of_getElem? h2) (minT_mem a l) (ok1 b (List.mem_of_getElem? h2)).1 (ok1 _ (minT_mem a l)).1 h3 (minT_le a l)
            rw [← e] at q
            exact q m _ H (.refl _ _) R h5
        · cases e
      · cases e
  · cases e

def gMinG : List Val → Sto → Option (Val × Sto) := fun xs S => (gMinB xs S).or (gMinT xs S)
def rMinG (K : PySem.W.Frag) : List V → Hp → VK → Prop := fun x H Q => (((∃ i j, x = [.int i, .int j] ∧ Q (.int (if j < i then j else i)) H) ∨ rMin K x H Q) ∨ ∃ a b : Str, x = [.str a, .str b] ∧ Q (.str (if b.cps.toList < a.cps.toList then b else a)) H) ∨ rMinT K x H Q
theorem call_minG (hc : X.calm = true) (hu : X.A.units + 64 < cLine) : CallR X (.builtin "min") (rMinG X.K) := CallR.or (call_minB hc) (cr_minT hc hu)
theorem cMinG : CaA K (rMinG K) gMinG := cMinB.or cMinT
end
end AL
namespace AL
open PySem PySem.Spec PyProof.Rows L2 G Th
variable [TT]
section
variable {P : Program} {w : World} {K : PySem.W.Frag} {mg : Str → Option Value} {base : Heap} {k : Nat} {x : Str} {st : Stmt} {f : Addr} {fd : FuncData} {ps : List Str} {F : FA} {n : Nat} {kws ms : List (Str × V)} {dvs : List V} {ks : List Str} {ds mds : List Val}
omit [TT] in
theorem fund_mk2 {qual : Str} {D T : Addr} {oc : Value} {od an : Option Addr} {osl : Array (Option Value)} {doc pm cdv ct : Value} {o : Obj} {its : List Value} {m : Nat} (l : K.lookup f = some ⟨oc, od, .func (PySem.W.fnOf x qual (defArgs st) (defBody st) (defScope st) (.ref T) (.ref D) doc pm an cdv ct), osl⟩)
    (c : PySem.W.codeIn K cdv qual = true) (k : PySem.W.keepIn K (.ref f) = true) (lT : K.lookup T = some o) (oT : o.data = .seq its.toArray m) (rT : Vals dvs its) (hd : dvs ≠ []) (hq : ∀ q ∈ kws, ∃ u, PySem.W.nsIn K D q.1 = some (some u) ∧ RelV q.2 u) :
    FunD K x qual (defArgs st) (defBody st) (defScope st) dvs kws f (PySem.W.fnOf x qual (defArgs st) (defBody st) (defScope st) (.ref T) (.ref D) doc pm an cdv ct) := ⟨⟨oc, od, .ref T, .ref D, doc, pm, an, cdv, ct, osl, rfl, l, c, .inr ⟨hd, T, o, its, m, rfl, lT, oT, rT⟩, .inr ⟨D, rfl, hq⟩⟩, k⟩
omit [TT] in
theorem fund_mk1 {qual : Str} {T : Addr} {oc kV : Value} {od an : Option Addr} {osl : Array (Option Value)} {doc pm cdv ct : Value} {o : Obj} {its : List Value} {m : Nat} (l : K.lookup f = some ⟨oc, od, .func (PySem.W.fnOf x qual (defArgs st) (defBody st) (defScope st) (.ref T) kV doc pm an cdv ct), osl⟩)
    (c : PySem.W.codeIn K cdv qual = true) (k : PySem.W.keepIn K (.ref f) = true) (lT : K.lookup T = some o) (oT : o.data = .seq its.toArray m) (rT : Vals dvs its) (hd : dvs ≠ []) :
    FunD K x qual (defArgs st) (defBody st) (defScope st) dvs [] f (PySem.W.fnOf x qual (defArgs st) (defBody st) (defScope st) (.ref T) kV doc pm an cdv ct) := ⟨⟨oc, od, .ref T, kV, doc, pm, an, cdv, ct, osl, rfl, l, c, .inr ⟨hd, T, o, its, m, rfl, lT, oT, rT⟩, .inl rfl⟩, k⟩

theorem defk_a (j : Nat) (G : FnG P w K mg base k f fd ps (spA K ps.length F)) (hm : mg x = some (.ref f)) (FD : FunD K x x (defArgs st) (defBody st) (defScope st) dvs kws f fd) (hd : dvs ≠ []) (hk : kws ≠ []) (hms : ∀ q ∈ ms, q ∈ kws) (hl : n + ((dvs.drop j).length + (ms.length + ks.length)) = ps.length)
    (hv : ∀ (H : Hp) (m : List Addr), VRs K H m (dvs.drop j) ds) (hv2 : ∀ (H : Hp) (m : List Addr), VRs K H m (ms.map (·.2)) mds)
    (h : ∀ (T D : Addr) (doc pm : Value) (an : Option Addr) (cdv ct : Value) (us its mv ws : List Value), us.length = n → its.length = dvs.length → mv.length = ms.length → ws.length = ks.length →
      ∃ k, bindArgs (PySem.W.fnOf x x (defArgs st) (defBody st) (defScope st) (.ref T) (.ref D) doc pm an cdv ct) ⟨us, ks.zip ws⟩ = seqItems? (.ref T) >>= k ∧ KwChain D ((ms.map (·.1)).zip mv) (k (some its.toArray)) (ps.zip (us ++ (its.drop j ++ (mv ++ ws))))) :
    DefK P w K mg base k x n ks (fun as bs => as ++ (ds ++ (mds ++ bs))) F := by
  obtain ⟨its, mv, hb⟩ := FD.kbinds (ps := ps) n ks ms (fun {α} us its mv ws => us ++ (its.drop j ++ (mv ++ ws))) hd hk hms (fun r1 r2 r3 r4 => r1.append ((r2.drop j).append (r3.append r4))) h
  refine ⟨f, fd, ps, _, _, G, hb, hm, FD.kp, fun H m vs zs as bs r1 r2 l1 l2 => ⟨r1.app ((hv H m).app ((hv2 H m).app r2)), ?_⟩⟩
  have l3 := (hv H m).len
  have l4 := (hv2 H m).len
  rw [List.length_map] at l4
  simp only [List.length_append, l1, l2, ← l3, ← l4]
  exact hl

theorem defk_1 (j : Nat) (G : FnG P w K mg base k f fd ps (spA K ps.length F)) (hm : mg x = some (.ref f)) (FD : FunD K x x (defArgs st) (defBody st) (defScope st) dvs [] f fd) (hd : dvs ≠ []) (hl : n + (dvs.length - j) = ps.length)
    (hv : ∀ (H : Hp) (m : List Addr), VRs K H m (dvs.drop j) ds)
    (h : ∀ (T : Addr) (kV doc pm : Value) (an : Option Addr) (cdv ct : Value) (us its : List Value), us.length = n → its.length = dvs.length →
      ∃ k, bindArgs (PySem.W.fnOf x x (defArgs st) (defBody st) (defScope st) (.ref T) kV doc pm an cdv ct) ⟨us, []⟩ = seqItems? (.ref T) >>= k ∧ k (some its.toArray) = pure (ps.zip (us ++ its.drop j))) :
    DefK P w K mg base k x n [] (fun as _ => as ++ ds) F := by
  obtain ⟨its, rv, hb⟩ := FD.binds1 (ps := ps) n j hd hl h
  have lv := rv.length
  rw [List.length_drop] at lv
  refine ⟨f, fd, ps, fun us _ => us ++ its, fun vs _ => vs ++ dvs.drop j, G, ⟨fun s us ws X l1 l2 => ?_, fun r1 r2 => r1.append rv⟩, hm, FD.kp, fun H m vs zs as bs r1 r2 l1 l2 => ⟨r1.app (hv H m), ?_⟩⟩
  · have := hb s us X (by rw [List.length_append, l1]; omega)
    simpa using this
  · have l3 := (hv H m).len
    rw [List.length_drop] at l3
    rw [List.length_append, l1, ← l3]
    exact hl
end

structure FunW (K : PySem.W.Frag) (x qual : Str) (st : Stmt) (f : Addr) (fd : FuncData) : Prop where
  ex : ∃ (oc : Value) (od : Option Addr) (dV kV doc pm : Value) (an : Option Addr) (cdv ct : Value) (osl : Array (Option Value)),
    fd = PySem.W.fnOf x qual (defArgs st) (defBody st) (defScope st) dV kV doc pm an cdv ct ∧ K.lookup f = some ⟨oc, od, .func fd, osl⟩ ∧ PySem.W.codeIn K cdv qual = true
omit [TT] in
theorem FunW.of {K : PySem.W.Frag} {x qual : Str} {st : Stmt} {f : Addr} {fd : FuncData} {dvs : List V} {kws : List (Str × V)} (F : FunD K x qual (defArgs st) (defBody st) (defScope st) dvs kws f fd) : FunW K x qual st f fd := by
  obtain ⟨oc, od, dV, kV, doc, pm, an, cdv, ct, osl, e, lk, hcd, _, _⟩ := F.ex
  exact ⟨oc, od, dV, kV, doc, pm, an, cdv, ct, osl, e, lk, hcd⟩
omit [TT] in
theorem fn_gW {P : Program} {w : World} {K : PySem.W.Frag} {mg : Str → Option Value} {base : Heap} {x qual : Str} {st : Stmt} {f : Addr} {fd : FuncData} {N ps : List Str} {k : Nat} {sp : Sp}
    (F : FunW K x qual st f fd) (Z : FnScope N ps (defScope st)) (len : ∀ vs H Q E, sp vs H Q E → vs.length = ps.length)
    (body : ∀ (cdv : Value) (A : Around) (outer : List Env) (s : Shared) (H : Hp) (vs : List V) (Q : VK) (E : XK), A.guards = some [] →
      Room k (A.deeper (envOfC qual (defScope st) s.heap.objs.size f cdv)) → sp vs H Q E →
      ∃ t, PSs (cxOf CX0 P w K mg base N qual (defScope st) f cdv A outer s H E).nox (defBody st) t ∧ t { nx := fun _ H' => Q .non H', rt := Q } (start N vs) H) :
    FnG P w K mg base (k + 1) f fd ps sp := by
  obtain ⟨oc, od, dV, kV, doc, pm, an, cdv, ct, osl, rfl, lk, hcd⟩ := F.ex
  refine ⟨len, fun A outer s H args us vs Q E g hr e0 hb r hsp => ?_⟩
  have up : ∀ b o, base.get? b = some o → s.heap.get? b = some o := fun b o e => (e0.bs b o e).1
  have KX : K.In s.heap := e0.mod.kin.keeps up
  refine codeAny_call_function hr.depth (KX _ _ lk) rfl Z.co Z.gen rfl (PySem.W.codeRec_of KX hcd) (hb _ _ _ _ ?_)
  refine wpAny_newFunctionEnv_cells Z.kind ?_ ?_
  · rintro ⟨n, v⟩ hy
    exact (Z.par n (List.of_mem_zip hy).1).elim .inl fun q => .inr ⟨q, PySem.W.cellsFrom_some _ _ _ (.inl q)⟩
  · rintro env rfl s1 y
    refine ⟨(e0.mod.nolimit.keeps up).keeps y.toInCall.keep, codeAny_func ?_⟩
    obtain ⟨t, ht, hq⟩ := body cdv A outer s H vs Q E g (hr.deeper _) hsp
    have I := inv_start (CX := CX0) (E := E) Z hr.hd e0 (len _ _ _ _ hsp) r y
    refine wpAny_mono (ht.nox.run [] s1 (start N vs) H _ I hq) ?_ (fun e s' hs => hs)
    intro fl s' hs
    match fl, hs with
    | .ret u, ⟨v, σ', H', J, rv, q⟩ => exact ⟨v, H', J.os, J.bare, J.base, J.hok, rv, q⟩
    | .next, ⟨σ', H', J, q⟩ => exact ⟨.non, H', J.os, J.bare, J.base, J.hok, rfl, q⟩
    | .brk, ⟨_, _, _, q⟩ => exact False.elim q
    | .cont, ⟨_, _, _, q⟩ => exact False.elim q
theorem fn_aFW {P : Program} {w : World} {K : PySem.W.Frag} {mg : Str → Option Value} {base : Heap} {x qual : Str} {st : Stmt} {f : Addr} {fd : FuncData} {N ps : List Str} {k : Nat} {g : SF}
    (F : FunW K x qual st f fd) (Z : FnScope N ps (defScope st))
    (body : ∀ (cdv : Value) (A : Around) (outer : List Env) (s : Shared) (H : Hp) (E : XK), A.guards = some [] →
      Room k (A.deeper (envOfC qual (defScope st) s.heap.objs.size f cdv)) → ASs (cxOf CX0 P w K mg base N qual (defScope st) f cdv A outer s H E).nox (defBody st) g) {n : Nat} (hn : N.length = n := by rfl) :
    FnG P w K mg base (k + 1) f fd ps (spA K ps.length (runF n g)) := by
  subst hn
  refine fn_gW F Z (fun vs H Q E h => h.1) (fun cdv A outer s H us Q E hg hr h => ⟨_, body cdv A outer s H E hg hr, ?_⟩)
  obtain ⟨hl, m, S0, vs, v, S', R, r, e, q⟩ := h
  refine ⟨m, _, S0, R, rho_start N r, ?_⟩
  unfold runF at e
  split at e
  · next v' S1 e1 =>
    cases e
    rw [e1]
    exact q
  · next v' S1 e1 =>
    cases e
    rw [e1]
    exact fun m' σ' H' E' R' r' => q m' .non H' E' R' .non
  · cases e
end AL
namespace K57
open PySem PySem.Spec PyProof.Rows L2 G Th AL
noncomputable def other_ends_B : SF := (sRet (eLc (.tp [(.nm 2), (.nm 3)]) (iSeq (eV 0)) (eT (eB (gIn false) (eV 1) (eTup (aCons (eV 2) (aCons (eV 3) aNil))))) (eIf (eT (eB gEq (eV 2) (eV 1))) (eV 3) (eV 2)) [2, 3]))
noncomputable def other_ends_ : FA := runF 4 other_ends_B
noncomputable def own_best_B : SF := (sSeq (sAsg (.tp [(.nm 1), (.nm 2), (.nm 3)]) (eV 0))
    (sRet (eTup (aCons (eTup (aCons (eV 2) (aCons (eV 3) (aCons (eV 1) aNil)))) (aCons (eC (.int 0)) (aCons (eV 1) aNil))))))
noncomputable def own_best_ : FA := runF 4 own_best_B
noncomputable def row_behind_B : SF := (sSeq (sAsg (.nm 5) (eLc (.nm 9) (iSeq (eV 1)) bYes (eB gIxA (eV 9) (eC (.int 0))) [9]))
    (sSeq (sAsg (.nm 6) (eLc (.tp [(.nm 10), (.nm 11), (.nm 12), (.nm 13)]) (iSeq (eV 2)) (bAnd (eT (eB (gIn true) (eV 10) (eV 5))) (eT (eB gLt (eV 13) (eV 4)))) (eTup (aCons (eV 10) (aCons (eV 11) (aCons (eV 12) (aCons (eB gAdd (eV 13) (eC (.int 1))) aNil))))) [10, 11, 12, 13]))
    (sSeq (sAsg (.nm 7) (eCall gTuple (aCons (eCall gSortedG (aCons (eB gAdd (eV 1) (eV 6)) aNil)) aNil)))
    (sSeq (sAsg (.nm 8) (eLc (.tp [(.nm 10), (.nm 11), (.nm 12), (.nm 13)]) (iSeq (eV 7)) (eT (eB gLt (eV 12) (eV 3))) (eTup (aCons (eV 11) (aCons (eB gAdd (eV 12) (eC (.int 1))) (aCons (eV 10) aNil)))) [10, 11, 12, 13]))
    (sRet (eTup (aCons (eB gIxA (eV 0) (eC (.int 0))) (aCons (eCall gMinG (aCons (eB gAdd (eLst (aCons (eDef own_best_ 1 (aCons (eV 0) aNil)) aNil)) (eV 8)) aNil)) (aCons (eV 7) aNil)))))))))
noncomputable def row_behind_ : FA := runF 14 row_behind_B
noncomputable def state_round_B : SF := (sSeq (sAsg (.nm 5) (eIf (eT (eB gIs (eV 2) (eC .non))) (eB gIxA (eV 0) (eC (.int 1))) (eV 2)))
    (sSeq (sAsg (.nm 6) (eDc (.tp [(.nm 12), (.nm 13), (.nm 14)]) (iSeq (eV 1)) (eT (eB gIsN (eV 13) (eC .non))) (eV 12) (eV 13) [12, 13, 14]))
    (sSeq (sAsg (.nm 7) (eLst aNil))
    (sSeq (sFor (.tp [(.nm 8), (.nm 9)]) (iZp (aCons (eB gIxA (eV 0) (eC (.int 0))) (aCons (eV 1) aNil))) (sSeq (sAsg (.nm 10) (eLc (.nm 15) (iSeq (eDef other_ends_ 2 (aCons (eV 5) (aCons (eB gIxA (eV 9) (eC (.int 0))) aNil)))) (eT (eB (gIn false) (eV 15) (eV 6))) (eV 15) [15]))
    (sSeq (sAsg (.nm 11) (eLc (.nm 15) (iSeq (eV 10)) bYes (eTup (aCons (eV 15) (aCons (eB gIxA (eB gIxA (eV 6) (eV 15)) (eC (.int 0))) (aCons (eB gIxA (eB gIxA (eV 6) (eV 15)) (eC (.int 1))) (aCons (eC (.int 0)) aNil))))) [15]))
    (sExpr (eMt isL gApp (eV 7) (aCons (eIf (eT (eB gIs (eB gIxA (eV 9) (eC (.int 1))) (eC .non))) (eV 9) (eDef row_behind_ 5 (aCons (eV 8) (aCons (eV 11) (aCons (eB gIxA (eV 9) (eC (.int 2))) (aCons (eV 3) (aCons (eV 4) aNil))))))) aNil))))))
    (sRet (eCall gTuple (aCons (eV 7) aNil)))))))
noncomputable def state_round_ : FA := runF 16 state_round_B
noncomputable def feedL_B : SF := (sRet (eDsp (aCons (eC (.str "cells")) (aCons (eCall gList (aCons (eSl gSl (eV 0) oN (oS (eC (.int 63)))) aNil)) (aCons (eC (.str "at")) (aCons (eC (.int 0)) (aCons (eC (.str "left")) (aCons (eC (.int 0)) (aCons (eC (.str "turn")) (aCons (eC (.int 0)) aNil))))))))))
noncomputable def feedL_ : FA := runF 1 feedL_B
noncomputable def drawL_B : SF := (sSeq (sAsg (.nm 2) (eB gAdd (eB gIxA (eV 0) (eC (.str "turn"))) (eC (.int 1))))
    (sSeq (sSub gSetA (eV 0) (eC (.str "turn")) (eV 2))
    (sSeq (sIf (eT (eB gGt (eB gIxA (eV 0) (eC (.str "left"))) (eC (.int 0)))) (sSeq (sAsg (.nm 6) (eB gMod (eB gIxA (eV 0) (eC (.str "left"))) (eV 1)))
    (sSeq (sSub gSetA (eV 0) (eC (.str "left")) (eB gDiv (eB gIxA (eV 0) (eC (.str "left"))) (eV 1)))
    (sRet (eV 6)))) sNil)
    (sSeq (sAsg (.nm 3) (eB gIxA (eV 0) (eC (.str "at"))))
    (sSeq (sSub gSetA (eV 0) (eC (.str "at")) (eB gAdd (eV 3) (eC (.int 1))))
    (sSeq (sAsg (.nm 4) (eC (.int 0)))
    (sSeq (sIf (eT (eB gNe (eB gIxA (eV 0) (eC (.str "cells"))) (eLst aNil))) (sAsg (.nm 4) (eB gIxA (eB gIxA (eV 0) (eC (.str "cells"))) (eB gMod (eV 3) (eCall gLen (aCons (eB gIxA (eV 0) (eC (.str "cells"))) aNil))))) sNil)
    (sSeq (sIf (bAnd (eT (eB gGe (eV 4) (eB gPow (eC (.int 10)) (eC (.int 18))))) (eT (eB gLt (eV 3) (eCall gLen (aCons (eB gIxA (eV 0) (eC (.str "cells"))) aNil))))) (sSeq (sSub gSetA (eV 0) (eC (.str "left")) (eB gDiv (eV 4) (eV 1)))
    (sRet (eB gMod (eV 4) (eV 1)))) sNil)
    (sSeq (sAsg (.nm 5) (eB gMod (eB gPow (eB gAdd (eB gAdd (eB gMod (eV 4) (eC (.int 2147483629))) (eB gMul (eC (.int 7919)) (eV 2))) (eC (.int 1))) (eC (.int 5))) (eC (.int 2147483647))))
    (sSeq (sAsg (.nm 5) (eB gMod (eB gPow (eB gAdd (eV 5) (eB gMul (eC (.int 104729)) (eV 2))) (eC (.int 5))) (eC (.int 2147483587))))
    (sRet (eB gMod (eB gDiv (eV 5) (eC (.int 64))) (eV 1)))))))))))))
noncomputable def drawL_ : FA := runF 7 drawL_B
noncomputable def keyL_B : SF := (sRet (eTup (aCons (eB gIxA (eV 0) (eC (.int 1))) (aCons (eB gIxA (eV 0) (eC (.int 2))) (aCons (eB gIxA (eV 0) (eC (.int 0))) aNil)))))
noncomputable def keyL_ : FA := runF 1 keyL_B
noncomputable def endsL_B : SF := (sSeq (sAsg (.nm 2) (eB gAdd (eLc (.tp [(.nm 3), (.nm 4)]) (iSeq (eV 0)) (eT (eB gEq (eV 4) (eV 1))) (eV 3) [3, 4]) (eLc (.tp [(.nm 3), (.nm 4)]) (iSeq (eV 0)) (eT (eB gEq (eV 3) (eV 1))) (eV 4) [3, 4])))
    (sRet (eCall gSortedG (aCons (eV 2) aNil))))
noncomputable def endsL_ : FA := runF 5 endsL_B
noncomputable def turnedL_B : SF := (sSeq (sAsg (.nm 5) (eCall gDict (aCons (eLc (.tp [(.nm 8), (.nm 9), (.nm 10)]) (iSeq (eV 1)) bYes (eTup (aCons (eV 8) (aCons (eV 9) aNil))) [8, 9, 10]) aNil)))
    (sSeq (sAsg (.nm 6) (eLst aNil))
    (sSeq (sFor (.nm 7) (iRg1 (aCons (eCall gLen (aCons (eB gIxA (eV 0) (eC (.int 0))) aNil)) aNil)) (sSeq (sAsg (.tp [(.nm 8), (.nm 9), (.nm 10)]) (eB gIxA (eV 1) (eV 7)))
    (sSeq (sIf (eT (eB gIsN (eV 9) (eC .non))) (sSeq (sAsg (.nm 11) (eCall gDict (aCons (eLc (.tp [(.nm 13), (.nm 14), (.nm 15), (.nm 16)]) (iSeq (eV 10)) (eT (eB gLt (eV 16) (eV 4))) (eTup (aCons (eV 13) (aCons (eTup (aCons (eV 13) (aCons (eV 14) (aCons (eV 15) (aCons (eB gAdd (eV 16) (eC (.int 1))) aNil))))) aNil))) [13, 14, 15, 16]) aNil)))
    (sSeq (sFor (.nm 12) (iSeq (eDef endsL_ 2 (aCons (eV 2) (aCons (eV 8) aNil)))) (sIf (eT (eB gIsN (eB gIxA (eV 5) (eV 12)) (eC .non))) (sSub gSetA (eV 11) (eV 12) (eTup (aCons (eV 12) (aCons (eB gIxA (eB gIxA (eV 5) (eV 12)) (eC (.int 0))) (aCons (eB gIxA (eB gIxA (eV 5) (eV 12)) (eC (.int 1))) (aCons (eC (.int 0)) aNil)))))) sNil))
    (sSeq (sAsg (.nm 10) (eCall gTuple (aCons (eLc (.nm 13) (iSeq (eCall gSortedG (aCons (eV 11) aNil))) bYes (eB gIxA (eV 11) (eV 13)) [13]) aNil)))
    (sSeq (sAsg (.nm 9) (eTup (aCons (eDef keyL_ 1 (aCons (eB gIxA (eB gIxA (eV 0) (eC (.int 0))) (eV 7)) aNil)) (aCons (eC (.int 0)) (aCons (eV 8) aNil)))))
    (sFor (.tp [(.nm 13), (.nm 14), (.nm 15), (.nm 16)]) (iSeq (eV 10)) (sIf (bAnd (eT (eB gLt (eV 15) (eV 3))) (eT (eB gLtD (eTup (aCons (eV 14) (aCons (eB gAdd (eV 15) (eC (.int 1))) (aCons (eV 13) aNil)))) (eV 9)))) (sAsg (.nm 9) (eTup (aCons (eV 14) (aCons (eB gAdd (eV 15) (eC (.int 1))) (aCons (eV 13) aNil))))) sNil)))))) sNil)
    (sExpr (eMt isL gApp (eV 6) (aCons (eTup (aCons (eV 8) (aCons (eV 9) (aCons (eV 10) aNil)))) aNil))))))
    (sRet (eCall gTuple (aCons (eV 6) aNil))))))
noncomputable def turnedL_ : FA := runF 17 turnedL_B
end K57
namespace AL
open PySem PySem.Spec PyProof.Rows L2 G Th
variable [TT]
def xv (c : Str) (vs : List Val) : Val := .tup (.scr [] :: .str c :: vs)
def isX : Val → Option (Str × List Val)
  | .tup (.scr _ :: .str c :: vs) => some (c, vs)
  | _ => none
structure XR (K : PySem.W.Frag) (mg : Str → Option Value) (H : Hp) (m : List Addr) (c : Str) (vs : List Val) (cls : Value) (d : Option Addr) : Prop where
  cl : mg c = some cls
  fl : ∃ (dd : Addr) (fs : List (Str × V)), d = some dd ∧ H dd = some (.xd fs) ∧ ∀ (i : Nat) (n : Str) (v : Val), (xfs c)[i]? = some n → vs[i]? = some v → ∃ u, fs.lookup n = some u ∧ VR K H m u v
def PX (K : PySem.W.Frag) (mg : Str → Option Value) (m : List Addr) (H : Hp) (Q : VK) (Ek : XK) (v : Val) (S : Sto) : Prop := match isX v with
  | some (c, vs) => ∀ m' H' cls d, Ext m H m' H' → Rel K m' S H' → XR K mg H' m' c vs cls d → Ek cls d H'
  | none => ∀ m' u H', Ext m H m' H' → Rel K m' S H' → VR K H' m' u v → Q u H'
def PostX (K : PySem.W.Frag) (mg : Str → Option Value) (m : List Addr) (H : Hp) (D : Ends) (Ek : XK) : Res → Prop
  | .stuck => False
  | .nx ρ S => ∀ m' σ' H', Ext m H m' H' → Rel K m' S H' → RhoR K H' m' ρ σ' → D.nx σ' H'
  | .rt v S => PX K mg m H D.rt Ek v S
  | .bk ρ S => ∀ m' σ' H', Ext m H m' H' → Rel K m' S H' → RhoR K H' m' ρ σ' → D.bk σ' H'
  | .ct ρ S => ∀ m' σ' H', Ext m H m' H' → Rel K m' S H' → RhoR K H' m' ρ σ' → D.ct σ' H'
section
variable {K : PySem.W.Frag} {mg : Str → Option Value} {m m1 : List Addr} {H H1 : Hp} {Q Q' : VK} {Ek : XK} {v : Val} {S : Sto} {D : Ends}
theorem PX.ext (h : PX K mg m H Q Ek v S) (E : Ext m H m1 H1) : PX K mg m1 H1 Q Ek v S := by
  unfold PX at h ⊢
  split
  · next c vs e =>
    rw [e] at h
    exact fun m' H' cls d E' R x => h m' H' cls d (E.trans E') R x
  · next e =>
    rw [e] at h
    exact fun m' u H' E' R x => h m' u H' (E.trans E') R x
theorem PX.no (hx : isX v = none) : PX K mg m H Q Ek v S ↔ ∀ m' u H', Ext m H m' H' → Rel K m' S H' → VR K H' m' u v → Q u H' := by
  unfold PX
  rw [hx]
theorem PX.yes {c : Str} {vs : List Val} (hx : isX v = some (c, vs)) : PX K mg m H Q Ek v S ↔ ∀ m' H' cls d, Ext m H m' H' → Rel K m' S H' → XR K mg H' m' c vs cls d → Ek cls d H' := by
  unfold PX
  rw [hx]
theorem PostX.ext {r : Res} (h : PostX K mg m H D Ek r) (E : Ext m H m1 H1) : PostX K mg m1 H1 D Ek r := by
  cases r with
  | stuck => exact h
  | nx ρ S => exact fun m' σ' H' E' => h m' σ' H' (E.trans E')
  | rt ρ S => exact PX.ext h E
  | bk ρ S => exact fun m' σ' H' E' => h m' σ' H' (E.trans E')
  | ct ρ S => exact fun m' σ' H' E' => h m' σ' H' (E.trans E')
end
def tX (K : PySem.W.Frag) (mg : Str → Option Value) (Ek : XK) (g : SF) : TS := fun D σ H => ∃ m ρ S, Rel K m S H ∧ RhoR K H m ρ σ ∧ PostX K mg m H D Ek (g ρ S)

def tXs (K : PySem.W.Frag) (mg : Str → Option Value) (W : WX) (g : SF) : TS := fun D σ H => ∃ m ρ S, Rel K m S H ∧ RhoR K H m ρ σ ∧ PostX K mg m H D (WE W σ) (g ρ S)
abbrev AX (X : Cx) (Ek : XK) (st : Stmt) (g : SF) : Prop := PS X st (tX X.K X.mg Ek g)
abbrev AXs (X : Cx) (Ek : XK) (sts : List Stmt) (g : SF) : Prop := PSs X sts (tX X.K X.mg Ek g)
abbrev AXw (X : Cx) (W : WX) (st : Stmt) (g : SF) : Prop := PS X st (tXs X.K X.mg W g)

abbrev EW (Ek : XK) : WX := fun cls d _ H => Ek cls d H
section
variable {X : Cx} {Ek : XK} {W : WX} {st : Stmt} {sts rest : List Stmt} {e a b c o i : Expr} {es : List Expr} {pos : Pos} {f fa fb fc : EF} {g g1 g2 : SF} {tb : BF} {K : PySem.W.Frag} {ga : AF}
theorem xw (h : AXw X (EW Ek) st g) : AX X Ek st g := h
theorem xl (h : AS X st g) (hg : ∀ ρ S v S', g ρ S = .rt v S' → isX v = none) : AX X Ek st g := ps_w h fun D σ H z => by
  obtain ⟨m, ρ, S, R, r, p⟩ := z
  refine ⟨m, ρ, S, R, r, ?_⟩
  cases e : g ρ S with
  | nx ρ1 S1 => rw [e] at p; exact p
  | stuck => rw [e] at p; exact p
  | rt v S1 => rw [e] at p; exact (PX.no (hg _ _ _ _ e)).mp p
  | bk v S1 => rw [e] at p; exact p
  | ct v S1 => rw [e] at p; exact p
theorem xsn : AXs X Ek [] sNil := pss_w pss_nil fun D σ H h => by
  obtain ⟨m, ρ, S, R, r, p⟩ := h
  exact p m σ H (.refl _ _) R r
theorem xsq (h1 : AX X Ek st g1) (h2 : AXs X Ek rest g2) : AXs X Ek (st :: rest) (sSeq g1 g2) := pss_w (pss_cons h1 h2) fun D σ H h => by
  obtain ⟨m, ρ, S, R, r, p⟩ := h
  refine ⟨m, ρ, S, R, r, ?_⟩
  unfold sSeq at p
  cases e : g1 ρ S with
  | nx ρ1 S1 =>
    rw [e] at p
    intro m1 σ1 H1 E1 R1 r1
    exact ⟨m1, ρ1, S1, R1, r1, p.ext E1⟩
  | stuck => rw [e] at p; exact p
  | rt v S1 => rw [e] at p; exact p
  | bk v S1 => rw [e] at p; exact p
  | ct v S1 => rw [e] at p; exact p
theorem xs1 (h : AX X Ek st g) : AXs X Ek [st] g := pss_one h
theorem xsi (hc : AT X c tb) (h1 : AXs X Ek sts g1) (h2 : AXs X Ek rest g2) : AX X Ek (.If c sts rest pos) (sIf tb g1 g2) := ps_w (ps_if hc h1 h2) fun D σ H h => by
  obtain ⟨m, ρ, S, R, r, p⟩ := h
  unfold sIf at p
  split at p
  · next S1 e1 => exact ⟨m, ρ, S, true, S1, R, r, e1, fun m1 H1 E1 R1 => ⟨m1, ρ, S1, R1, r.kp (E1.kp R), p.ext E1⟩⟩
  · next S1 e1 => exact ⟨m, ρ, S, false, S1, R, r, e1, fun m1 H1 E1 R1 => ⟨m1, ρ, S1, R1, r.kp (E1.kp R), p.ext E1⟩⟩
  · exact p.elim
theorem nr_asg {p : Pat} : ∀ ρ S v S', sAsg p f ρ S = .rt v S' → isX v = none := fun ρ S v S' h => by
  unfold sAsg at h
  split at h
  · split at h <;> cases h
  · cases h
theorem nr_expr : ∀ ρ S v S', sExpr f ρ S = .rt v S' → isX v = none := fun ρ S v S' h => by
  unfold sExpr at h
  split at h <;> cases h
def sRetN (f : EF) : SF := fun ρ S => match f ρ S with
  | some (v, S) => match isX v with
    | none => .rt v S
    | some _ => .stuck
  | none => .stuck
theorem xsr (he : AE X e f) : AX X Ek (.Return (some e) pos) (sRetN f) := ps_w (ps_ret he) fun D σ H h => by
  obtain ⟨m, ρ, S, R, r, p⟩ := h
  unfold sRetN at p
  split at p
  · next v S1 e1 =>
    split at p
    · next hx => exact ⟨m, ρ, S, v, S1, R, r, e1, (PX.no hx).mp p⟩
    · exact p.elim
  · exact p.elim
def tFx (K : PySem.W.Frag) (mg : Str → Option Value) (W : WX) (f : EF) : TE := fun σ H Q => ∃ m ρ S v S', Rel K m S H ∧ RhoR K H m ρ σ ∧ f ρ S = some (v, S') ∧ PX K mg m H Q (WE W σ) v S'
abbrev AEX (X : Cx) (W : WX) (e : Expr) (f : EF) : Prop := PE X e (tFx X.K X.mg W f)
end
structure FnX (P : Program) (w : World) (K : PySem.W.Frag) (mg : Str → Option Value) (base : Heap) (k : Nat) (f : Addr) (fd : FuncData) (ps : List Str) (sp : Sp) : Prop where
  len : ∀ vs H Q E, sp vs H Q E → vs.length = ps.length
  run : ∀ (A : Around) (outer : List Env) (s : Shared) (H : Hp) (args : Args) (us : List Value) (vs : List V) (Q : VK) (E : XK),
    A.guards = some [] → Room k A → Env0 P w K mg base A outer s H → BindsTo s fd args (ps.zip us) → Vals vs us → sp vs H Q E →
      codeAny (model P w) A (.call (.ref f) args) (CR (CX P w) outer P w H s Q E) s

theorem fn_x {P : Program} {w : World} {K : PySem.W.Frag} {mg : Str → Option Value} {base : Heap} {x qual : Str} {st : Stmt} {f : Addr} {fd : FuncData} {N ps : List Str} {k : Nat} {sp : Sp}
    (F : Fun K x qual st f fd) (S : FnScope N ps (defScope st)) (len : ∀ vs H Q E, sp vs H Q E → vs.length = ps.length)
    (body : ∀ (cdv : Value) (A : Around) (outer : List Env) (s : Shared) (H : Hp) (vs : List V) (Q : VK) (E : XK), A.guards = some [] →
      Room k (A.deeper (envOfC qual (defScope st) s.heap.objs.size f cdv)) → sp vs H Q E →
      ∃ t, PSs (cxOf (CX P w) P w K mg base N qual (defScope st) f cdv A outer s H E)  (defBody st) t ∧ t { nx := fun _ H' => Q .non H', rt := Q } (start N vs) H) :
    FnX P w K mg base (k + 1) f fd ps sp := by
  obtain ⟨oc, od, kV, doc, pm, an, cdv, ct, osl, rfl, lk, hcd⟩ := F.ex
  refine ⟨len, ?_⟩
  intro A outer s H args us vs Q E g hr e0 hb r hsp
  have up : ∀ b o, base.get? b = some o → s.heap.get? b = some o := fun b o e => (e0.bs b o e).1
  have KX : K.In s.heap := e0.mod.kin.keeps up
  refine codeAny_call_function hr.depth (KX _ _ lk) rfl S.co S.gen rfl (PySem.W.codeRec_of KX hcd) (hb _ _ _ _ ?_)
  refine wpAny_newFunctionEnv_cells S.kind ?_ ?_
  · rintro ⟨n, v⟩ hy
    cases S.par n (List.of_mem_zip hy).1 with
    | inl q => exact .inl q
    | inr q => exact .inr ⟨q, PySem.W.cellsFrom_some _ _ _ (.inl q)⟩
  · rintro env rfl s1 x
    refine ⟨(e0.mod.nolimit.keeps up).keeps x.toInCall.keep, codeAny_func ?_⟩
    obtain ⟨t, ht, hq⟩ := body cdv A outer s H vs Q E g (hr.deeper _) hsp
    have I := inv_start (CX := (CX P w)) (E := E) S hr.hd e0 (len _ _ _ _ hsp) r x
    refine wpAny_mono (ht.run [] s1 (start N vs) H _ I hq) ?_ (fun e s' hs => hs)
    intro fl s' hs
    match fl, hs with
    | .ret u, ⟨v, σ', H', J, rv, q⟩ => exact ⟨v, H', J.os, J.bare, J.base, J.hok, rv, q⟩
    | .next, ⟨σ', H', J, q⟩ => exact ⟨.non, H', J.os, J.bare, J.base, J.hok, rfl, q⟩
    | .brk, ⟨_, _, _, q⟩ => exact False.elim q
    | .cont, ⟨_, _, _, q⟩ => exact False.elim q
def spX (K : PySem.W.Frag) (mg : Str → Option Value) (n : Nat) (F : FA) : Sp := fun us H Q Ek => us.length = n ∧ ∃ m S vs v S', Rel K m S H ∧ VRs K H m us vs ∧ F vs S = some (v, S') ∧ PX K mg m H Q Ek v S'
theorem fn_aX {P : Program} {w : World} {K : PySem.W.Frag} {mg : Str → Option Value} {base : Heap} {x qual : Str} {st : Stmt} {f : Addr} {fd : FuncData} {N ps : List Str} {k : Nat} {g : SF}
    (F : Fun K x qual st f fd) (S : FnScope N ps (defScope st))
    (body : ∀ (cdv : Value) (A : Around) (outer : List Env) (s : Shared) (H : Hp) (Ek : XK), A.guards = some [] →
      Room k (A.deeper (envOfC qual (defScope st) s.heap.objs.size f cdv)) → Takes (cxOf (CX P w) P w K mg base N qual (defScope st) f cdv A outer s H Ek) (EW Ek) →
      PassesOwn (model P w) (cxOf (CX P w) P w K mg base N qual (defScope st) f cdv A outer s H Ek).A (cxOf (CX P w) P w K mg base N qual (defScope st) f cdv A outer s H Ek).env (cxOf (CX P w) P w K mg base N qual (defScope st) f cdv A outer s H Ek).xe →
      AXs (cxOf (CX P w) P w K mg base N qual (defScope st) f cdv A outer s H Ek) Ek (defBody st) g) {n : Nat} (hn : N.length = n := by rfl) :
    FnX P w K mg base (k + 1) f fd ps (spX K mg ps.length (runF n g)) := by
  subst hn
  refine fn_x F S (fun vs H Q E h => h.1) (fun cdv A outer s H us Q E hg hr h => ⟨_, body cdv A outer s H E hg hr (takes_of rfl rfl rfl rfl) (passes_of rfl), ?_⟩)
  obtain ⟨hl, m, S0, vs, v, S', R, r, e, q⟩ := h
  refine ⟨m, _, S0, R, rho_start N r, ?_⟩
  unfold runF at e
  split at e
  · next v' S1 e1 =>
    cases e
    rw [e1]
    exact q
  · next v' S1 e1 =>
    cases e
    rw [e1]
    exact fun m' σ' H' E' R' r' => (PX.no rfl).mp q m' .non H' E' R' .non
  · cases e
structure DefX (P : Program) (w : World) (K : PySem.W.Frag) (mg : Str → Option Value) (base : Heap) (k : Nat) (x : Str) (ps : List Str) (F : FA) : Prop where
  ex : ∃ f fd, FnX P w K mg base k f fd ps (spX K mg ps.length F) ∧ Binds K fd ps [] ∧ mg x = some (.ref f) ∧ PySem.W.keepIn K (.ref f) = true
section
variable {X : Cx} {W : WX} {k : Nat} {f : Addr} {fd : FuncData} {ps : List Str} {sp : Sp} {x : Str} {p pos : Pos} {e : Expr} {es : List Expr} {t : TA} {ga : AF}
theorem run_x {pins : List (Addr × Obj)} {σ : L2.St} {H : Hp} {s : Shared} {Q : VK} {us : List Value} {vs : List V}
    (F : FnX X.prog X.w X.K X.mg X.base k f fd ps sp) (g : X.A.guards = some []) (hr : Room k X.A) (hb : Binds X.K fd ps []) (tk : Takes X W)
    (I : Inv X pins σ H s) (r : Vals vs us) (h : sp vs H Q (WE W σ)) :
    wpAny (model X.prog X.w) X.A (call (.ref f) us) (EP X pins σ Q) X.xe s := by
  have n1 : us.length = ps.length := r.length.symm.trans (F.len vs H Q _ h)
  have b1 := hb s us I.kIn ((congrArg List.length (List.append_nil us)).trans n1)
  rw [List.append_nil] at b1
  refine wpAny_call (codeAny_mono (F.run X.A X.stack s H ⟨us, []⟩ us vs Q _ g hr I.env0 b1 r h) ?_)
  intro res s' c
  match res, c with
  | .error e, c => exact passAt tk σ pins H s e s' I c
  | .ok (.ret _), c => exact I.after c
  | .ok .next, c => exact False.elim c
  | .ok .brk, c => exact False.elim c
  | .ok .cont, c => exact False.elim c
theorem pe_callX (F : FnX X.prog X.w X.K X.mg X.base k f fd ps sp) (g : X.A.guards = some []) (hr : Room k X.A) (hgl : Gl X x) (hm : X.mg x = some (.ref f))
    (hk : PySem.W.keepIn X.K (.ref f) = true) (hb : Binds X.K fd ps []) (tk : Takes X W) (ha : PA X (e :: es) t)
    (hdb : (x == ("__debug__" : Str)) = false := by decide)
    (he : starEach (e :: es) X.env = (false, eval e X.env) :: starEach es X.env := by rfl)
    (hpl : (backTo pos (starEach es X.env)).any (·.1) = false := by rfl) :
    PE X (.Call (.Name x p) (e :: es) [] pos) (fun σ H Q => t σ H fun vs H1 => sp vs H1 Q (WE W σ)) := by
  constructor
  intro pins s σ H Q I h
  apply wpAny_Call_Name_kw
  apply ld_glob I hgl hm _ hdb
  refine PySem.W.callWith_K (h₀ := X.base) I.ok.mod.kin hk (thn (ha.run pos pins s σ H _ I h) ?_) he hpl
  rintro us s1 ⟨vs, H1, I1, r, q⟩
  exact ⟨I1.kIn, run_x F g hr hb tk I1 r q⟩
theorem acdX {F : FA} (D : DefX X.prog X.w X.K X.mg X.base k x ps F) (g : X.A.guards = some []) (hr : Room k X.A) (hgl : Gl X x) (tk : Takes X W) (ha : AA X (e :: es) ga) (hdb : (x == ("__debug__" : Str)) = false := by decide)
    (he : starEach (e :: es) X.env = (false, eval e X.env) :: starEach es X.env := by rfl) (hpl : (backTo pos (starEach es X.env)).any (·.1) = false := by rfl) {n : Nat} (hn : ps.length = n := by rfl) : AEX X W (.Call (.Name x p) (e :: es) [] pos) (eDef F n ga) := by
  subst hn
  obtain ⟨f, fd, hF, hb, hm, hk⟩ := D.ex
  refine pe_w (pe_callX hF g hr hgl hm hk hb tk ha hdb he hpl) fun σ H Q h => ?_
  obtain ⟨m, ρ, S, v, S', R, r, e, q⟩ := h
  obtain ⟨⟨x, S1⟩, e1, e⟩ := Option.bind_eq_some_iff.mp e
  dsimp only at e
  split at e
  · next hl => exact ⟨m, ρ, S, x, S1, R, r, e1, fun m1 us H1 E1 R1 r1 => ⟨by rw [r1.len]; exact hl, m1, S1, x, v, S', R1, r1, e, q.ext E1⟩⟩
  · cases e
end
end AL
namespace AL
open PySem PySem.Spec PyProof.Rows L2 G Th

structure OexA (K : PySem.W.Frag) (C : Addr) : Prop where
  cls : ∃ (B newId initId : String) (bmB : List Value) (nm q : Str) (N : Addr) (bs bm : List Value) (sn : List Str) (sub : List Value) (ab : Bool) (col : Option Bool) (dd : Option Addr) (k0 k1 k2 k3 k5 : Option Value),
    K.lookup C = some (excClassObj nm q C N bs bm true sn sub ab col dd k0 k1 k2 k3 k5 newId) ∧ PySem.W.excTail bmB bm = true ∧ ExcBaseFacts B newId initId bmB ∧ StoreFacts B bmB "object.__setattr__" "object"
  saC : PySem.W.findIn K (.ref C) "__setattr__" = some (some (.builtin "object.__setattr__"))
  beC : PySem.W.subIn K (.ref C) (.type "BaseException") = some true
  ttC : PySem.W.typeIn K (.ref C) = some (.type "type")
  keC : PySem.W.keepIn K (.ref C) = true

structure OexL (K : PySem.W.Frag) (C : Addr) : Prop where
  cls : ∃ (nm q : Str) (N : Addr) (bs bm : List Value) (sn : List Str) (sub : List Value) (ab : Bool) (col : Option Bool) (dd : Option Addr) (k0 k1 k2 k3 k5 : Option Value),
    K.lookup C = some (excClassObj nm q C N bs bm true sn sub ab col dd k0 k1 k2 k3 k5 "LookupError.__new__") ∧ PySem.W.excTail [.type "LookupError", .type "Exception", .type "BaseException", .type "object"] bm = true
  sa : PySem.W.findIn K (.ref C) "__setattr__" = some (some (.builtin "object.__setattr__"))
  be : PySem.W.subIn K (.ref C) (.type "BaseException") = some true
  tt : PySem.W.typeIn K (.ref C) = some (.type "type")
  ke : PySem.W.keepIn K (.ref C) = true
theorem OexL.a {K : PySem.W.Frag} {C : Addr} (T : OexL K C) : OexA K C := by
  obtain ⟨⟨nm, q, N, bs, bm, sn, sub, ab, col, dd, k0, k1, k2, k3, k5, e, t⟩, h1, h2, h3, h4⟩ := T
  exact ⟨⟨_, _, _, _, nm, q, N, bs, bm, sn, sub, ab, col, dd, k0, k1, k2, k3, k5, e, t, F.excBase_LookupError, F.store_LookupError⟩, h1, h2, h3, h4⟩
theorem tail_VE : ∀ l : List Value, PySem.HandSPX.refsVE l = true → PySem.W.excTail PySem.HandSPX.veTail l = true
  | [], z => by cases z
  | a :: r, z => by
    rcases PySem.HandSPX.refsVE_cases _ z with ⟨c, r2, e, z2⟩ | e
    · cases e
      exact tail_VE r z2
    · rw [e]
      decide +kernel
theorem oexA_VE {K : PySem.W.Frag} {C : Addr} (T : OexC K C) : OexA K C := by
  obtain ⟨⟨nm, q, N, bs, bm, sn, sub, ab, col, dd, k0, k1, k2, k3, k5, e, t⟩, h1, h2, h3, h4⟩ := T
  exact ⟨⟨_, _, _, _, nm, q, N, bs, bm, sn, sub, ab, col, dd, k0, k1, k2, k3, k5, e, tail_VE _ t, F.excBase_ValueError, F.store_ValueError⟩, h1, h2, h3, h4⟩
instance {K : PySem.W.Frag} {C : Addr} : Coe (OexC K C) (OexA K C) := ⟨oexA_VE⟩
instance {K : PySem.W.Frag} {C : Addr} : Coe (OexL K C) (OexA K C) := ⟨OexL.a⟩
section
open Builtin Builtin.ObjectAttr PySem.W
variable {prog : Program} {w : World} {A : Around} {K : PySem.W.Frag} {C x : Addr} {g : Array GenState} {d : Drawn} {t : Nat} {os : OsState} {hp : Heap} {fl : Str} {tk : Tok} {v : Value} {fv : Array Value}
theorem taker_no (h : PySem.W.findIn K (.ref C) fl = some none) : PySem.W.takerIn K C fl = some none := by
  unfold PySem.W.takerIn
  rw [h]
  rfl
theorem OexA.got (T : OexA K C) : ∃ (B newId initId : String) (bmB : List Value) (cd : ClassData), PySem.W.clsIn K C = some cd ∧ cd.hasDict = true ∧ PySem.W.excOver K C bmB = true ∧ StoreFacts B bmB "object.__setattr__" "object" := by
  obtain ⟨B, newId, initId, bmB, nm, q, N, bs, bm, sn, sub, ab, col, dd, k0, k1, k2, k3, k5, e, t, _, SF⟩ := T.cls
  have c : PySem.W.clsIn K C = some { name := nm, bases := bs, mro := .ref C :: bm, ns := N, qualname := q, hasDict := true, slotNames := sn, subclasses := sub, abstract := ab, collection := col, hasDel := false } := by
    unfold PySem.W.clsIn
    rw [e] <;> rfl
  refine ⟨B, newId, initId, bmB, _, c, rfl, ?_, SF⟩
  unfold PySem.W.excOver
  rw [c]
  simp [t]

theorem first_field {R : Result → Shared → Prop} (T : OexA K C) (kn : K.In hp) (hx : hp.get? x = some { cls := .ref C, data := .fields fv }) (no : PySem.W.findIn K (.ref C) fl = some none)
    (q : ∀ (h2 : Heap) (t2 : Nat) (y : Addr), (∀ b o, b ≠ x → hp.get? b = some o → h2.get? b = some o) → hp.objs.size ≤ y → y ≠ x → h2.get? x = some { cls := .ref C, dict := some y, data := .fields fv } → h2.Ns1 y (fun z => if z = fl then some v else none) → R (.ok (.ret .none)) ⟨h2, g, d, t2, os⟩) :
    codeAny (model prog w) A (.call (.builtin "object.__setattr__") ⟨[.ref x, .str fl tk, v], []⟩) R ⟨hp, g, d, t, os⟩ := by
  obtain ⟨B, newId, initId, bmB, cd, hc, hh, hov, SF⟩ := T.got
  have lk : PySem.W.Looks (model prog w) hp (classData C) cd := PySem.W.looks_clsIn kn hc
  have apart : x ≠ hp.objs.size := Nat.ne_of_lt (Heap.lt_size hx)
  refine PySem.W.osa_openX (s := ⟨hp, g, d, t, os⟩) SF kn (ox := { cls := .ref C, data := .fields fv }) (od := none) ⟨hx, rfl, rfl, trivial⟩ hov (taker_no no) fun b => ?_
  show wpAny _ _ (storeInOwnDict (.ref x) (.ref C) (.str fl tk) fl v b) _ _ _
  obtain ⟨c1, c2, c3, c4, c5, c6, c7, c8, c9, c10, c11⟩ := cd
  obtain rfl : c6 = true := hh
  unfold storeInOwnDict ownDictForStores
  repeat (first | with_reducible refine PySem.HandSPX.store_in_new ?e ?n | with_reducible refine wpAny_loadPart_at hx ?_ | with_reducible refine lk.at ?_ | wp_step)
  case e => exact ⟨_, #[], _, (Heap.get?_update_ne _ _ _ _ (Ne.symm apart)).trans (Heap.get?_push_at rfl rfl), rfl, fun z hz => by simp at hz, fun _ => rfl⟩
  case n =>
    intro h2 t2 n2 same
    have there : (hp.push { cls := .type "dict", data := .dict #[] }).get? x = some { cls := .ref C, data := .fields fv } := Heap.get?_push_of_some _ hx
    refine q h2 t2 hp.objs.size (fun b o nb hb => ?_) (Nat.le_refl _) (Ne.symm apart) ((same.2 x apart).trans (Heap.get?_update_self _ there rfl)) n2
    have lb : b ≠ hp.objs.size := Nat.ne_of_lt (Heap.lt_size hb)
    exact ((same.2 b lb).trans (Heap.get?_update_ne _ _ _ _ nb)).trans (Heap.get?_push_of_some _ hb)

theorem later_field {R : Result → Shared → Prop} {y : Addr} {m0 : Str → Option Value} {nl : List Str} {oD : Obj} (T : OexA K C) (kn : K.In hp) (hx : hp.get? x = some { cls := .ref C, dict := some y, data := .fields fv }) (ns : hp.Ns1 y m0) (hw : Within m0 nl) (hz : nl.length ≤ 1000) (hoD : hp.get? y = some oD) (no : PySem.W.findIn K (.ref C) fl = some none)
    (q : ∀ (h2 : Heap) (t2 : Nat), (∀ b o, b ≠ y → hp.get? b = some o → h2.get? b = some o) → h2.Ns1 y (fun z => if z = fl then some v else m0 z) → R (.ok (.ret .none)) ⟨h2, g, d, t2, os⟩) :
    codeAny (model prog w) A (.call (.builtin "object.__setattr__") ⟨[.ref x, .str fl tk, v], []⟩) R ⟨hp, g, d, t, os⟩ := by
  obtain ⟨B, newId, initId, bmB, cd, hc, hh, hov, SF⟩ := T.got
  have lk : PySem.W.Looks (model prog w) hp (classData C) cd := PySem.W.looks_clsIn kn hc
  refine PySem.W.osa_openX (s := ⟨hp, g, d, t, os⟩) SF kn (ox := { cls := .ref C, dict := some y, data := .fields fv }) (od := some oD) ⟨hx, rfl, rfl, hoD⟩ hov (taker_no no) fun b => ?_
  show wpAny _ _ (storeInOwnDict (.ref x) (.ref C) (.str fl tk) fl v b) _ _ _
  obtain ⟨c1, c2, c3, c4, c5, c6, c7, c8, c9, c10, c11⟩ := cd
  obtain rfl : c6 = true := hh
  unfold storeInOwnDict ownDictForStores
  repeat (first | with_reducible refine PySem.OEX.store_in_old ns hw hz ?n | with_reducible refine wpAny_loadPart_at hx ?_ | with_reducible refine lk.at ?_ | wp_step)
  case n =>
    intro h2 t2 n2 same
    exact q h2 t2 (fun b o nb hb => (same.2 b nb).trans hb) n2
end
section
variable {X : Cx} {pins : List (Addr × Obj)} {σ : L2.St} {H : Hp} {s : Shared} {a C dx : Addr} {f : Str} {y : V} {u : Value} {fs : List (Str × V)} {Q : Unit → Shared → Prop} {E : Value → Shared → Prop} {A : Around}
theorem new_field (T : OexA X.K C) (I : Inv X pins σ H s) (e : H a = some (exo a C none)) (no : PySem.W.findIn X.K (.ref C) f = some none) (ry : RelV y u)
    (go : ∀ dx s2, H dx = none → dx ≠ a → Inv X pins σ (upd (upd H dx (exd dx [(f, y)])) a (exo a C (some dx))) s2 → Q () s2) : wpAny (model X.prog X.w) A (setAttr (.ref a) f u) Q E s := by
  obtain ⟨t1, there⟩ := exo_at I.hok e
  obtain ⟨hp, g, d, t, os⟩ := s
  refine PySem.W.set_plain I.kIn (ox := { cls := .ref C, dict := none, data := .fields #[.ref t1, .none, .none, .none, .bool false, .none] }) (od := none) ⟨there, rfl, rfl, trivial⟩ T.saC ?_
  refine first_field T I.kIn there no fun h2 t2 dx stay new apart hx ns => ?_
  have fresh : H dx = none := I.hok.fresh new
  refine go dx _ fresh apart ?_
  -- the dict laid, then the object written
  let old : Obj := { cls := .ref C, dict := none, data := .fields #[.ref t1, .none, .none, .none, .bool false, .none] }
  have i1 : (h2.update a fun _ => old).get? a = some old := Heap.get?_update_self (fun _ => old) hx rfl
  have i2 : ∀ b, b ≠ a → (h2.update a fun _ => old).get? b = h2.get? b := fun b nb => Heap.get?_update_other _ _ (Ne.symm nb)
  have J := I.laid (t' := t2) (a := dx) (o := exd dx [(f, y)]) (h' := h2.update a fun _ => old) (fun b o hb => by
      by_cases z : b = a
      · rw [z] at hb ⊢
        rw [i1]
        exact there.symm.trans hb
      · rw [i2 b z]
        exact stay b o z hb) new (exd_ok (ns.at fun o z => (i2 dx apart).trans z) (relO_put (fs := []) ry fun _ => True.intro))
  have ea : upd H dx (exd dx [(f, y)]) a = some (exo a C none) := (upd_ne (Ne.symm apart)).trans e
  exact J.write (t' := t2) (x := a) (e := a) (o := exo a C (some dx)) (by rw [ea]; exact True.intro) (.inl rfl) (fun b o nb hb => (i2 b nb).symm.trans hb) ⟨_, hx⟩ (exo_ok hx)
theorem more_field (T : OexA X.K C) (I : Inv X pins σ H s) (e : H a = some (exo a C (some dx))) (ed : H dx = some (exd dx fs)) (few : fs.length ≤ 900) (no : PySem.W.findIn X.K (.ref C) f = some none) (ry : RelV y u)
    (go : ∀ s2, Inv X pins σ (upd H dx (exd dx ((f, y) :: fs))) s2 → Q () s2) : wpAny (model X.prog X.w) A (setAttr (.ref a) f u) Q E s := by
  obtain ⟨t1, there⟩ := exo_at I.hok e
  obtain ⟨mA, ns, rel⟩ := exd_at I.hok ed
  have hw := within_of rel
  obtain ⟨hp, g, d, t, os⟩ := s
  obtain ⟨oD, _, _, hoD, _, _⟩ := ns.count hw
  refine PySem.W.set_plain I.kIn (ox := { cls := .ref C, dict := some dx, data := .fields #[.ref t1, .none, .none, .none, .bool false, .none] }) (od := some oD) ⟨there, rfl, rfl, hoD⟩ T.saC ?_
  refine later_field T I.kIn there ns hw (by rw [List.length_map]; omega) hoD no fun h2 t2 stay ns2 => ?_
  have hd : ∃ o, h2.get? dx = some o := by
    obtain ⟨o, _, _, z, _⟩ := ns2
    exact ⟨o, z⟩
  exact go _ (I.write (t' := t2) (x := dx) (e := dx) (o := exd dx ((f, y) :: fs)) (by rw [ed]; exact True.intro) (.inl rfl) stay hd (exd_ok ns2 (relO_put ry rel)))
end

def tOstA (K : PySem.W.Frag) (f : Str) (to te : TE) : TS := fun D σ H => te σ H fun y H1 => to σ H1 fun x H2 => ∃ a C : Addr, x = .ref a ∧ OexA K C ∧ PySem.W.findIn K (.ref C) f = some none ∧
  ((H2 a = some (exo a C none) ∧ ∀ dx, H2 dx = none → dx ≠ a → D.nx σ (upd (upd H2 dx (exd dx [(f, y)])) a (exo a C (some dx)))) ∨ ∃ (dx : Addr) (fs : List (Str × V)), H2 a = some (exo a C (some dx)) ∧ H2 dx = some (exd dx fs) ∧ fs.length ≤ 900 ∧ D.nx σ (upd H2 dx (exd dx ((f, y) :: fs))))
section
variable {X : Cx} {o e : Expr} {es : List Expr} {to te : TE} {ta : TA} {f : Str} {p p' p1 p2 pos : Pos}
theorem ps_ostA (ho : PE X o to) (he : PE X e te) (hs : swapsWith e (some (.Attribute o f p')) pos.line X.env = pure false := by rfl) : PS X (.Assign [.Attribute o f p'] e pos) (tOstA X.K f to te) := by
  refine ⟨fun pins s σ H D I h => plainObj_wpAny_Assign_Attribute (thn (he.run pins s σ H _ I h) fun v s1 z => ?_) hs⟩
  obtain ⟨y, H1, I1, r1, q1⟩ := z
  refine thn (ho.run pins s1 σ H1 _ I1 q1) fun u s2 z => ?_
  obtain ⟨_, H2, I2, r2, a, C, rfl, T, no, q⟩ := z
  obtain rfl : u = Value.ref a := r2
  rcases q with ⟨ea, q⟩ | ⟨dx, fs, ea, ed, few, q⟩
  · exact new_field T I2 ea no r1 fun dx s2 n apart J => ⟨σ, _, J, q dx n apart⟩
  · exact more_field T I2 ea ed few no r1 fun s2 J => ⟨σ, _, J, q⟩

theorem pmk_oexA {CX : CXT} {x : Str} {C fI : Addr} {k : Nat} {fd : FuncData} {ps : List Str} {sp : Sp} {ds : List Value} {dvs : List V} (T : OexA X.K C) (iC : PySem.W.findIn X.K (.ref C) "__init__" = some (some (.ref fI))) (tI : PySem.W.typeIn X.K (.ref fI) = some (.type "function"))
    (F1 : FnOk X.prog X.w X.K X.mg X.base CX k fI fd ps sp) (hr : Room (k + 1) X.A) (hb : Binds X.K fd ps ds) (hd : Vals dvs ds) (pass : Passes CX X (fun _ _ _ => False)) (hg : Gl X x) (hm : X.mg x = some (.ref C)) (ha : PA X (e :: es) ta)
    (hdb : (x == ("__debug__" : Str)) = false := by decide) (he : starEach (e :: es) X.env = (false, eval e X.env) :: starEach es X.env := by rfl) (hpl : (backTo pos (starEach es X.env)).any (·.1) = false := by rfl) :
    PMk X (.Call (.Name x p) (e :: es) [] pos) (tMkO C sp dvs ta) := by
  intro pins s0 σ H Q I0 h
  obtain ⟨B, newId, initId, bmB, nm, q, N, bs, bm, sn, sub, ab, col, dd, k0, k1, k2, k3, k5, cl, tl, EB, _⟩ := T.cls
  refine wpAny_Call_Name_kw (ld_glob I0 hg hm ?_ hdb)
  refine PySem.W.callWith_K (h₀ := X.base) I0.ok.mod.kin T.keC (thn (ha.run pos pins s0 σ H _ I0 h) fun us s1 z => ?_) he hpl
  obtain ⟨vs, H1, I1, r1, few, q1⟩ := z
  refine ⟨I1.kIn, ?_⟩
  show wpAny _ _ (call (.ref C) us) _ _ _
  obtain ⟨h1, g1, d1, t1, os1⟩ := s1
  let h2 := (h1.push (PySem.W.kdv_tup us)).push (PySem.HandSPX.excO C h1.objs.size)
  have keep : ∀ b o, h1.get? b = some o → h2.get? b = some o := fun b o z => Heap.get?_push_of_some _ (Heap.get?_push_of_some _ z)
  have self : h2.get? (h1.objs.size + 1) = some (PySem.HandSPX.excO C h1.objs.size) := by
    show ((h1.push (PySem.W.kdv_tup us)).push (PySem.HandSPX.excO C h1.objs.size)).get? _ = _
    heap_get
  have beyond : h1.objs.size ≤ h1.objs.size + 1 := Nat.le_succ _
  have q2 := q1 _ (I1.hok.fresh beyond)
  have I2 := I1.laid (t' := t1) (a := h1.objs.size + 1) (o := exo (h1.objs.size + 1) C none) (h' := h2) keep beyond (exo_ok self)
  have rel : Vals (.ref (h1.objs.size + 1) :: (vs ++ dvs)) (Value.ref (h1.objs.size + 1) :: (us ++ ds)) := .cons rfl (r1.append hd)
  have many : (Value.ref (h1.objs.size + 1) :: us ++ ds).length = ps.length := by
    have z := rel.length
    rw [F1.len _ _ _ _ q2] at z
    exact z.symm
  have line : us.length ≤ sizeLine := by
    rw [← r1.length, sizeLine_eq]
    omega
  have run := F1.run _ X.stack _ _ ⟨Value.ref (h1.objs.size + 1) :: us, []⟩ _ _ _ (fun _ _ _ => False) (hr.make C us []) (I2.env0.make C us []) (hb _ (Value.ref (h1.objs.size + 1) :: us) I2.kIn many) rel q2
  refine wpAny_call (PySem.HandSPX.call_own EB (fun Y => PySem.W.excTail_contains Y bm tl) (I1.kIn _ _ cl) (PySem.W.looks_findIn I1.kIn iC) (fun z => PySem.W.bind_fn I1.kIn z tI) line (codeAny_mono run ?_))
  intro r s2 z
  match r, z with
  | .error er, z => exact pass pins σ _ _ er s2 I2 z
  | .ok (.ret u), z =>
    obtain ⟨_, H2, o2, bare, un, hok2, rv, rfl, d, fs, ea, ed, n1, q3⟩ := z
    obtain ⟨h3, g3, d3, t3, os3⟩ := s2
    exact ⟨rv, mk_end (raises_own T.beC T.ttC) I1 beyond keep un hok2 o2 bare ea ed n1 q3⟩
  | .ok .next, z => exact z.elim
  | .ok .brk, z => exact z.elim
  | .ok .cont, z => exact z.elim
end
end AL
namespace AL
open PySem PySem.Spec PyProof.Rows L2 G Th
variable [TT]
def spI1 (C : Addr) (f1 : Str) : Sp := fun us H Q _ => ∃ a y, us = [.ref a, y] ∧ H a = some (exo a C none) ∧ ∀ dx, H dx = none → dx ≠ a → Q .non (upd (upd H dx (exd dx [(f1, y)])) a (exo a C (some dx)))
def spI2 (C : Addr) (f1 f2 : Str) : Sp := fun us H Q _ => ∃ a y z, us = [.ref a, y, z] ∧ H a = some (exo a C none) ∧ ∀ dx, H dx = none → dx ≠ a → Q .non (upd (upd (upd H dx (exd dx [(f1, y)])) a (exo a C (some dx))) dx (exd dx [(f2, z), (f1, y)]))
structure KnX (P : Program) (w : World) (K : PySem.W.Frag) (mg : Str → Option Value) (base : Heap) (c : Str) : Prop where
  ex : ∃ (C fI : Addr) (fd : FuncData), OexA K C ∧ PySem.W.findIn K (.ref C) "__init__" = some (some (.ref fI)) ∧ PySem.W.typeIn K (.ref fI) = some (.type "function") ∧ mg c = some (.ref C) ∧
    ((∃ f1, xfs c = [f1] ∧ FnOk P w K mg base CX0 1 fI fd ["self", f1] (spI1 C f1) ∧ Binds K fd ["self", f1] []) ∨
      ∃ f1 f2, xfs c = [f1, f2] ∧ f1 ≠ f2 ∧ FnOk P w K mg base CX0 1 fI fd ["self", f1, f2] (spI2 C f1 f2) ∧ Binds K fd ["self", f1, f2] [])
def sRaise (c : Str) (ga : AF) : SF := fun ρ S => match ga ρ S with
  | some (vs, S) => if vs.length = (xfs c).length then .rt (xv c vs) S else .stuck
  | none => .stuck
theorem land {H1 H2 : Hp} {a dx : Addr} {o : HO} (ha : H1 a = none) (h : ∀ b, b ≠ a → b ≠ dx → H2 b = H1 b) (ne : dx ≠ a) : upd (del H2 a) dx o = upd H1 dx o := by
  funext b
  by_cases z : b = dx
  · subst z
    rw [upd_same, upd_same]
  · rw [upd_ne z, upd_ne z]
    by_cases y : b = a
    · subst y
      rw [del_same, ha]
    · rw [del_ne y, h b y z]
theorem asraise {X : Cx} {Ek : XK} {c : Str} {e : Expr} {es : List Expr} {p pos pos2 : Pos} {ga : AF} (tk : Takes X (EW Ek)) (C : KnX X.prog X.w X.K X.mg X.base c) (hr : Room 2 X.A) (hc : X.calm = true) (hg : Gl X c) (ha : AA X (e :: es) ga)
    (hdb : (c == ("__debug__" : Str)) = false := by decide) (he : starEach (e :: es) X.env = (false, eval e X.env) :: starEach es X.env := by rfl) (hpl : (backTo pos (starEach es X.env)).any (·.1) = false := by rfl) :
    AX X Ek (.Raise (some (.Call (.Name c p) (e :: es) [] pos)) none pos2) (sRaise c ga) := by
  obtain ⟨C, fI, fd, T, iC, tI, hm, h⟩ := C.ex
  rcases h with ⟨f1, hx, F1, hb⟩ | ⟨f1, f2, hx, hne, F1, hb⟩
  · refine ps_w (ps_raise hc tk (pmk_oexA (dvs := []) T iC tI F1 hr hb .nil pass0 hg hm ha hdb he hpl)) fun D σ H z => ?_
    obtain ⟨m, ρ, S, R, r, q⟩ := z
    unfold sRaise at q
    split at q
    · next vs S1 e1 =>
      split at q
      · next hl =>
        have q : PX X.K X.mg m H D.rt Ek (xv c vs) S1 := q
        have q := (PX.yes (v := xv c vs) (c := c) (vs := vs) rfl).mp q
        rw [hx] at hl
        refine ⟨m, ρ, S, vs, S1, R, r, e1, fun m1 us H1 E1 R1 r1 => ⟨by rw [r1.len, hl]; simp, fun a ha => ?_⟩⟩
        match vs, hl, us, r1 with
        | [v], _, [u], .cons ru .nil =>
          refine ⟨a, u, rfl, upd_same, fun dx hdx ne => ⟨rfl, dx, _, upd_same, (upd_ne ne).trans upd_same, (upd_ne ne).symm.trans hdx, ?_⟩⟩
          have hd0 : H1 dx = none := (upd_ne ne).symm.trans hdx
          rw [land ha (fun b h1 h2 => by rw [upd_ne h1, upd_ne h2, upd_ne h1]) ne]
          obtain ⟨R2, E2⟩ := R1.tmp (o := .xd [(f1, u)]) hd0
          refine q m1 _ _ _ (E1.trans E2) R2 ⟨hm, dx, _, rfl, upd_same, fun i n w h1 h2 => ?_⟩
          rw [hx] at h1
          match i, h1, h2 with
          | 0, h1, h2 =>
            cases h1
            cases h2
            exact ⟨u, by simp [List.lookup], ru.kp (E2.kp R1)⟩
      · exact q.elim
    · exact q.elim
  · refine ps_w (ps_raise hc tk (pmk_oexA (dvs := []) T iC tI F1 hr hb .nil pass0 hg hm ha hdb he hpl)) fun D σ H z => ?_
    obtain ⟨m, ρ, S, R, r, q⟩ := z
    unfold sRaise at q
    split at q
    · next vs S1 e1 =>
      split at q
      · next hl =>
        have q : PX X.K X.mg m H D.rt Ek (xv c vs) S1 := q
        have q := (PX.yes (v := xv c vs) (c := c) (vs := vs) rfl).mp q
        rw [hx] at hl
        refine ⟨m, ρ, S, vs, S1, R, r, e1, fun m1 us H1 E1 R1 r1 => ⟨by rw [r1.len, hl]; simp, fun a ha => ?_⟩⟩
        match vs, hl, us, r1 with
        | [v, v2], _, [u, u2], .cons ru (.cons ru2 .nil) =>
          refine ⟨a, u, u2, rfl, upd_same, fun dx hdx ne => ⟨rfl, dx, _, (upd_ne (Ne.symm ne)).trans upd_same, upd_same, (upd_ne ne).symm.trans hdx, ?_⟩⟩
          have hd0 : H1 dx = none := (upd_ne ne).symm.trans hdx
          rw [land ha (fun b h1 h2 => by rw [upd_ne h2, upd_ne h1, upd_ne h2, upd_ne h1]) ne]
          obtain ⟨R2, E2⟩ := R1.tmp (o := .xd [(f2, u2), (f1, u)]) hd0
          refine q m1 _ _ _ (E1.trans E2) R2 ⟨hm, dx, _, rfl, upd_same, fun i n w h1 h2 => ?_⟩
          rw [hx] at h1
          match i, h1, h2 with
          | 0, h1, h2 =>
            cases h1
            cases h2
            exact ⟨u, by rw [lookup_put, if_neg hne, lookup_put, if_pos rfl], ru.kp (E2.kp R1)⟩
          | 1, h1, h2 =>
            cases h1
            cases h2
            exact ⟨u2, by rw [lookup_put, if_pos rfl], ru2.kp (E2.kp R1)⟩
      · exact q.elim
    · exact q.elim
theorem init1 {P : Program} {w : World} {K : PySem.W.Frag} {mg : Str → Option Value} {base : Heap} {qual f1 : Str} {st : Stmt} {f C : Addr} {fd : FuncData} (F : Fun K "__init__" qual st f fd) (S : FnScope ["self", f1] ["self", f1] (defScope st)) (T : OexA K C) (hno : PySem.W.findIn K (.ref C) f1 = some none)
    {p1 p2 p3 p4 : Pos} (hb : defBody st = [.Assign [.Attribute (.Name "self" p1) f1 p2] (.Name f1 p3) p4])
    (v0 : Vis (defScope st) "self") (v1 : Vis (defScope st) f1) (hd : (f1 == ("__debug__" : Str)) = false) (hcd : (f1 == ("__classdict__" : Str)) = false) : FnOk P w K mg base CX0 1 f fd ["self", f1] (spI1 C f1) := by
  obtain ⟨oc, od, kV, doc, pm, an, cdv, ct, osl, rfl, lk, hcd2⟩ := F.ex
  refine fn_of lk hcd2 S (fun vs H Q E h => by obtain ⟨a, y, rfl, _⟩ := h; rfl) (fun A outer s H vs Q E hr h => ?_)
  rw [hb]
  refine ⟨_, pss_one (ps_ostA (pe_var (i := 0) rfl v0) (pe_var (i := 1) rfl v1 hd hcd)), ?_⟩
  obtain ⟨a, y, rfl, ha, q⟩ := h
  refine ⟨y, rfl, .ref a, rfl, a, C, rfl, T, hno, .inl ⟨ha, fun dx h1 h2 => q dx h1 h2⟩⟩
def clsB : Stmt → List Stmt
  | .ClassDef _ _ _ b _ _ _ _ _ _ _ => b
  | _ => []

def noX (F : FA) : FA := fun vs S => (F vs S).bind fun p => match isX p.1 with
  | none => some p
  | some _ => none
theorem fnx_g {P : Program} {w : World} {K : PySem.W.Frag} {mg : Str → Option Value} {base : Heap} {k : Nat} {f : Addr} {fd : FuncData} {ps : List Str} {F : FA} (G : FnX P w K mg base k f fd ps (spX K mg ps.length F)) :
    FnG P w K mg base k f fd ps (spA K ps.length (noX F)) := by
  refine ⟨fun vs H Q E h => h.1, fun A outer s H args us vs Q E hg hr e0 hb r h => ?_⟩
  obtain ⟨hl, m, S, ws, v, S', R, rv, e, q⟩ := h
  obtain ⟨⟨v1, S1⟩, e1, e⟩ := Option.bind_eq_some_iff.mp e
  dsimp only at e
  split at e
  · next hx =>
    cases e
    refine codeAny_mono (G.run A outer s H args us vs Q (fun _ _ _ => False) hg hr e0 hb r ⟨hl, m, S, ws, v, S', R, rv, e1, (PX.no hx).mpr q⟩) ?_
    intro res s' c
    match res, c with
    | .error _, c =>
      obtain ⟨_, _, _, _, _, _, _, _, _, _, _, _, z⟩ := c
      exact z.elim
    | .ok (.ret _), c => exact c
    | .ok .next, c => exact c
    | .ok .brk, c => exact c
    | .ok .cont, c => exact c
  · cases e
section
variable {ρ : Rho} {S : Sto} {f : EF} {ga : AF} {g h : SF} {N : Rho → Sto → Prop} {R : Val → Sto → Prop} {p : Pat} {c : Str}
theorem ws_retN (z : Wp (f ρ S) fun v S1 => Sd (isX v = none) (R v S1)) : Ws (sRetN f ρ S) N R := by
  obtain ⟨v, S1, e, q⟩ := z
  unfold sRetN
  rw [e]
  dsimp only
  rw [q.1]
  exact ⟨q.2⟩
theorem ws_raise (z : Wp (ga ρ S) fun vs S1 => Sd (vs.length = (xfs c).length) (R (xv c vs) S1)) : Ws (sRaise c ga ρ S) N R := by
  obtain ⟨v, S1, e, q⟩ := z
  unfold sRaise
  rw [e]
  dsimp only
  rw [if_pos q.1]
  exact ⟨q.2⟩
theorem wnoX {F : FA} {vs : List Val} {Q : Val → Sto → Prop} (z : Wp (F vs S) fun v S1 => isX v = none ∧ Q v S1) : Wp (noX F vs S) Q := by
  obtain ⟨v, S1, e, hx, q⟩ := z
  refine ⟨v, S1, ?_, q⟩
  unfold noX
  rw [e, Option.bind_some]
  dsimp only
  rw [hx]
end
end AL
namespace AL
open PySem PySem.Spec PyProof.Rows L2 G Th
variable [TT]
section
variable {X : Cx} {K : PySem.W.Frag}
noncomputable def gSlA : Val → Option Int → Option Int → Sto → Option (Val × Sto) := fun x lo hi S => match x with
  | .tup vs => some (.tup (cutL vs lo hi), S)
  | _ => gSl x lo hi S
def rSlB (K : PySem.W.Frag) : V → Option Int → Option Int → Hp → VK → Prop := fun x lo hi H Q => L2.rSlA K x lo hi H Q ∨ AL.rSlA K x lo hi H Q
theorem sl_B : SlR X (rSlB X.K) := sl_tupA.or sl_A
theorem cut_whole {α : Type} {vs : List α} {lo hi : Option Int} (h : HT.sIx vs.length 0 lo = 0 ∧ HT.sIx vs.length vs.length hi = vs.length) : cutL vs lo hi = vs := by
  unfold cutL
  rw [h.1, h.2, List.drop_zero, Nat.sub_zero, List.take_of_length_le (Nat.le_refl _)]
theorem oSlA : SlA K (rSlB K) gSlA := by
  intro m S H x lo hi v S' u Q R ru e q
  cases x with
  | tup vs =>
    simp only [gSlA] at e
    cases e
    cases ru with
    | tup ha ra =>
      refine .inl ⟨_, _, rfl, ha.sq, fun hw => ?_, fun hw => newTup R (ra.cut lo hi) q⟩
      rw [ra.len] at hw
      rw [cut_whole hw] at q
      exact q m _ H (.refl _ _) R (.tup ha ra)
  | _ => exact .inr (oSl m S H _ lo hi v S' u Q R ru e q)
theorem vSlA {S : Sto} {Q : Val → Sto → Prop} {x : Val} {vs : List Val} {lo hi : Option Int} (hx : x = .tup vs) (q : Q (.tup (cutL vs lo hi)) S) : Wp (gSlA x lo hi S) Q := by
  subst hx
  exact ⟨_, _, rfl, q⟩
end
theorem ws_cut' {r : Res} {N N' : Rho → Sto → Prop} {R R' : Val → Sto → Prop} (h : Ws r N' R') (i : ∀ ρ S, N' ρ S → N ρ S) (j : ∀ v S, R' v S → R v S) : Ws r N R := by
  obtain ⟨h⟩ := h
  constructor
  cases r with
  | nx ρ S => exact i ρ S h
  | rt v S => exact j v S h
  | stuck => exact h
  | bk ρ S => exact h
  | ct ρ S => exact h
end AL
namespace AL
open PySem PySem.Spec PyProof.Rows L2 G Th
variable [TT]
section
variable {X : Cx} {K : PySem.W.Frag}
end
end AL
namespace AL
open PySem PySem.Spec PyProof.Rows L2 G Th
variable [TT]

section
variable {ρ : Rho} {S : Sto} {Q : Val → Sto → Prop} {f f1 f2 : EF}
end
end AL
namespace G
open PySem PySem.Spec PyProof.Rows L2 LamX
end G
namespace G
open PySem PySem.Spec PyProof.Rows L2 LamX
end G
namespace AL
open PySem PySem.Spec PyProof.Rows L2 G Th LamX
end AL
namespace AL
open PySem PySem.Spec PyProof.Rows L2 G Th LamX
variable [TT]

def ClsV (mg : Str → Option Value) (C : Str) (v : V) : Prop := (∃ A, mg C = some (.ref A) ∧ v = .ref A) ∨ (mg C = none ∧ ∃ T, bootBuiltins C = some (.type T) ∧ v = .ty T)
def vOf : V → Value
  | .ref a => .ref a
  | .ty n => .type n
  | _ => .none
inductive ClsVs (mg : Str → Option Value) : List Str → List V → Prop
  | nil : ClsVs mg [] []
  | cons {C : Str} {v : V} {Cs : List Str} {vs : List V} : ClsV mg C v → ClsVs mg Cs vs → ClsVs mg (C :: Cs) (v :: vs)
theorem ClsV.rel {mg : Str → Option Value} {C : Str} {v : V} (h : ClsV mg C v) {u : Value} (r : RelV v u) : u = vOf v := by
  rcases h with ⟨A, _, rfl⟩ | ⟨_, T, _, rfl⟩ <;> exact r
theorem ClsVs.rel {mg : Str → Option Value} : ∀ {Cs : List Str} {vs : List V} {us : List Value}, ClsVs mg Cs vs → Vals vs us → us = vs.map vOf
  | _, _, _, .nil, r => by cases r; rfl
  | _, _, _, .cons h t, r => by
    cases r with
    | cons a b => rw [h.rel a, t.rel b]; rfl
section
variable {X : Cx} {a D dd : Addr} {oe : Obj} {pn : List (Addr × Obj)}
variable {c e : Str} {i : Nat} {vs : List Val} {p p1 p2 pos : Pos}
end
section
variable {ρ : Rho} {S : Sto} {N : Rho → Sto → Prop} {R : Val → Sto → Prop} {Q : Val → Sto → Prop} {g : SF} {h : Str → List Val → Val → SF} {cs : List Str} {i : Nat} {fb : EF}
end
end AL
namespace AL
open PySem PySem.Spec PyProof.Rows L2 G Th LamX
variable [TT]
end AL
namespace AL
open PySem PySem.Spec PyProof.Rows L2 G Th LamX
variable [TT]
end AL
namespace K56
open PySem PySem.Spec PyProof.Rows L2 G Th AL
open K57 (own_best_ own_best_B feedL_ feedL_B drawL_ drawL_B keyL_ keyL_B endsL_ endsL_B)
noncomputable def first_state_B : SF := (sRet (eCall gTuple (aCons (eLc (.nm 1) (iSeq (eB gIxA (eV 0) (eC (.int 0)))) bYes (eTup (aCons (eB gIxA (eV 1) (eC (.int 0))) (aCons (eDef own_best_ 1 (aCons (eV 1) aNil)) (aCons (eTup aNil) aNil)))) [1]) aNil)))
noncomputable def first_state_ : FA := runF 2 first_state_B
noncomputable def row_up_B : SF := (sSeq (sIf (eT (eB gEq (eV 2) (eB gIsN (eB gIxA (eV 1) (eC (.int 1))) (eC .non)))) (sRet (eV 1)) sNil)
    (sRet (eTup (aCons (eB gIxA (eV 0) (eC (.int 0))) (aCons (eIf (eT (eV 2)) (eDef own_best_ 1 (aCons (eV 0) aNil)) (eC .non)) (aCons (eTup aNil) aNil))))))
noncomputable def row_up_ : FA := runF 3 row_up_B
noncomputable def state_up_B : SF := (sSeq (sIf (eT (eB (gIn true) (eV 2) (eLc (.nm 4) (iSeq (eB gIxA (eV 0) (eC (.int 0)))) bYes (eB gIxA (eV 4) (eC (.int 0))) [4]))) (sRaise "NoHouse" (aCons (eV 2) aNil)) sNil)
    (sRetN (eCall gTuple (aCons (eLc (.tp [(.nm 4), (.nm 5)]) (iZp (aCons (eB gIxA (eV 0) (eC (.int 0))) (aCons (eV 1) aNil))) bYes (eIf (eT (eB gEq (eB gIxA (eV 5) (eC (.int 0))) (eV 2))) (eDef row_up_ 3 (aCons (eV 4) (aCons (eV 5) (aCons (eV 3) aNil)))) (eV 5)) [4, 5]) aNil))))
noncomputable def state_up_ : FA := runF 6 state_up_B
end K56
namespace OdMin
open PySem PySem.Spec PyProof.Rows L2 SeqAt
open Od (Old)
section
variable {pr : Program} {wd : World} {Ar : Around} {Rs : Result → Shared → Prop} {It ax : Addr} {its : Array Value} {g : Heap}
theorem Old.up {h1 h2 : Heap} {I S : Addr} (o : Old g h1) (gI : ∀ b x, g.get? b = some x → b ≠ I) (k : ∀ b x, b ∉ [I] → h1.get? b = some x → h2.get? b = some x) : Old g h2 := fun b x e => k b x (fun m => gI b x e (List.mem_singleton.mp m)) (o b x e)
end
end OdMin
namespace OdMax
open PySem PySem.Spec PyProof.Rows L2 SeqAt
open Od (Old)
section
variable {pr : Program} {wd : World} {Ar : Around} {Rs : Result → Shared → Prop} {It ax : Addr} {its : Array Value} {g : Heap}
theorem Old.up {h1 h2 : Heap} {I S : Addr} (o : Old g h1) (gI : ∀ b x, g.get? b = some x → b ≠ I) (k : ∀ b x, b ∉ [I] → h1.get? b = some x → h2.get? b = some x) : Old g h2 := fun b x e => k b x (fun m => gI b x e (List.mem_singleton.mp m)) (o b x e)
end
end OdMax
namespace AL
open PySem PySem.Spec PyProof.Rows L2 G Th
variable [TT]
section
variable {X : Cx}
variable {K : PySem.W.Frag}
end
end AL
namespace AL
open PySem PySem.Spec PyProof.Rows L2 G Th Od
variable [TT]
def pdW (p : Str × Str) : PyData := .tuple [.str p.1, .str p.2]
def vW (p : Str × Str) : Val := .tup [.str p.1, .str p.2]
def okW (p : Str × Str) : Bool := PyData.strOk p.1 && PyData.strOk p.2 && decide (p.1.cps.size ≤ 70) && decide (p.2.cps.size ≤ 70)
def wprs : List Val → Option (List (Str × Str))
  | [] => some []
  | .tup [.str a, .str b] :: vs => (wprs vs).map fun r => (a, b) :: r
  | _ => none
omit [TT] in
theorem wprs_map : ∀ ws : List (Str × Str), wprs (ws.map vW) = some ws
  | [] => rfl
  | p :: ws => by
    show ((wprs (ws.map vW)).map fun r => (p.1, p.2) :: r) = _
    rw [wprs_map ws]
    rfl
omit [TT] in
theorem wprs_eq : ∀ {vs : List Val} {ws : List (Str × Str)}, wprs vs = some ws → vs = ws.map vW
  | [], _, h => by cases h; rfl
  | v :: vs, ws, h => by
    unfold wprs at h
    split at h
    · next e => cases e
    · next a b vs' e =>
      cases e
      obtain ⟨r, h1, h2⟩ := Option.map_eq_some_iff.mp h
      subst h2
      rw [wprs_eq h1]
      rfl
    · cases h
section
variable {X : Cx} {K : PySem.W.Frag}
omit [TT] in
theorem same_pdW (p q : Str × Str) : same (pdW q) (pdW p) = decide (p = q) := by
  obtain ⟨a, b⟩ := p
  obtain ⟨c, d⟩ := q
  rw [Bool.eq_iff_iff]
  simp only [pdW, same, sameAll, Bool.and_true, Bool.and_eq_true, beq_iff_eq, decide_eq_true_eq, Prod.mk.injEq]
  exact ⟨fun h => ⟨h.1.symm, h.2.symm⟩, fun h => ⟨h.1.symm, h.2.symm⟩⟩
omit [TT] in
theorem count_nn (d : PyData) : ∀ ws : List PyData, 0 ≤ countIn d ws
  | [] => Int.le_refl 0
  | q :: ws => by
    have ih := count_nn d ws
    simp only [countIn]
    split <;> omega
omit [TT] in
theorem count_pdW (p : Str × Str) : ∀ ws : List (Str × Str), countIn (pdW p) (ws.map pdW) ≠ 0 ↔ p ∈ ws
  | [] => by simp [countIn]
  | q :: ws => by
    have ih := count_pdW p ws
    have nn := count_nn (pdW p) (ws.map pdW)
    rw [List.map_cons, List.mem_cons]
    simp only [countIn, same_pdW]
    by_cases c : p = q
    · simp only [c, decide_true, if_true, true_or, iff_true]
      rw [c] at nn
      omega
    · simp only [c, decide_false, Bool.false_eq_true, if_false, false_or]
      rw [Int.zero_add]
      exact ih
def rInW (K : PySem.W.Frag) (neg : Bool) : R2 := fun x y H Q => ∃ (p : Str × Str) (ws : List (Str × Str)), Dp K H x (pdW p) ∧ Dp K H y (.tuple (ws.map pdW)) ∧ okW p = true ∧ (ws.all okW = true ∧ ws.length ≤ 100) ∧ Q (.bl (if neg then !decide (p ∈ ws) else decide (p ∈ ws))) H
omit [TT] in
theorem lay_pdW {p : Str × Str} (h : okW p = true) : (pdW p).canLay0 = true := by
  unfold okW at h
  simp only [Bool.and_eq_true] at h
  show (PyData.strOk p.1 && (PyData.strOk p.2 && true)) = true
  rw [h.1.1.1, h.1.1.2]
  rfl
omit [TT] in
theorem wt_pdW {p : Str × Str} (h : okW p = true) : (pdW p).weight ≤ 200 := by
  unfold okW at h
  simp only [Bool.and_eq_true, decide_eq_true_eq] at h
  simp only [pdW, PyData.weight, PyData.weightAll]
  omega
omit [TT] in
theorem wts_pdW : ∀ {ws : List (Str × Str)}, ws.all okW = true → PyData.weightAll (ws.map pdW) ≤ 201 * ws.length
  | [], _ => by simp [PyData.weightAll]
  | p :: ws, h => by
    rw [List.all_cons, Bool.and_eq_true] at h
    have h1 := wts_pdW h.2
    have h2 := wt_pdW h.1
    simp only [List.map_cons, PyData.weightAll, List.length_cons]
    omega
omit [TT] in
theorem lays_pdW : ∀ {ws : List (Str × Str)}, ws.all okW = true → PyData.canLayAll0 (ws.map pdW) = true ∧ PyData.depthAll (ws.map pdW) ≤ 3
  | [], _ => ⟨rfl, by simp [PyData.depthAll]⟩
  | p :: ws, h => by
    rw [List.all_cons, Bool.and_eq_true] at h
    obtain ⟨h1, h2⟩ := lays_pdW h.2
    refine ⟨?_, ?_⟩
    · show ((pdW p).canLay0 && PyData.canLayAll0 (ws.map pdW)) = true
      rw [lay_pdW h.1, h1]
      rfl
    · have : (pdW p).depth ≤ 3 := by simp [pdW, PyData.depth, PyData.depthAll]
      simp only [List.map_cons, PyData.depthAll]
      omega
theorem op_notInW (hu : X.A.units + 65 < cLine) : OpR X (compareOp .NotIn) (rInW X.K true) := by
  intro pins s σ H x y v u Q I rx ry h
  obtain ⟨p, ws, h1, h2, h3, h4, q⟩ := h
  obtain ⟨as, r1⟩ := Dp.reads I _ _ _ h1 rx
  obtain ⟨bs, r2⟩ := Dp.reads I _ _ _ h2 ry
  obtain ⟨l1, l2⟩ := lays_pdW h4.1
  have w1 := wt_pdW h3
  have w2 := wts_pdW h4.1
  have w3 := h4.2
  refine notIn_tuple_dataS r2 r1 ?_ ?_ hu (fun y hy => ?_) ⟨.bl _, H, I, rfl, ?_⟩
  · show (PyData.canLayAll0 (ws.map pdW) && decide ((PyData.tuple (ws.map pdW)).depth ≤ 64) && decide ((PyData.tuple (ws.map pdW)).weight ≤ 2 ^ 20)) = true
    rw [l1, decide_eq_true (by simp only [PyData.depth]; omega), decide_eq_true (by simp only [PyData.weight]; omega)]
    rfl
  · show ((pdW p).canLay0 && decide ((pdW p).depth ≤ 64) && decide ((pdW p).weight ≤ 2 ^ 20)) = true
    rw [lay_pdW h3, decide_eq_true (Nat.le_trans w1 (by decide))]
    rfl
  · obtain ⟨q, _, rfl⟩ := List.mem_map.mp hy
    rfl
  · rw [decide_eq_decide.mpr (count_pdW p ws)]
    exact q
def gInW (neg : Bool) : Val → Val → Sto → Option (Val × Sto) := fun x y S => match x, y with
  | .tup [.str a, .str b], .tup vs => match wprs vs with
    | some ws => if okW (a, b) = true ∧ (ws.all okW = true ∧ ws.length ≤ 100) then some (.bl (if neg then !decide ((a, b) ∈ ws) else decide ((a, b) ∈ ws)), S) else none
    | none => none
  | _, _ => none
omit [TT] in
theorem dVs_W : ∀ ws : List (Str × Str), dVs (ws.map vW) = ws.map pdW
  | [] => rfl
  | p :: ws => by
    show dV (vW p) :: dVs (ws.map vW) = _
    rw [dVs_W ws]
    rfl
omit [TT] in
theorem pure_W : ∀ ws : List (Str × Str), pureVs (ws.map vW) = true
  | [] => rfl
  | p :: ws => by
    show (pureV (vW p) && pureVs (ws.map vW)) = true
    rw [pure_W ws]
    rfl
theorem oInW {neg : Bool} : OpA K (rInW K neg) (gInW neg) := by
  intro m S H x y v S' u w Q R ru rw_ e q
  unfold gInW at e
  split at e
  · next a b vs =>
    split at e
    · next ws e1 =>
      split at e
      · next hc =>
        cases e
        have e2 := wprs_eq e1
        subst e2
        refine ⟨(a, b), ws, dV_dp (.tup [.str a, .str b]) _ ru rfl, ?_, hc.1, hc.2, q m _ H (.refl _ _) R (.bl _)⟩
        have := dV_dp (.tup (ws.map vW)) _ rw_ (by rw [pureV]; exact pure_W ws)
        rw [dV, dVs_W] at this
        exact this
      · cases e
    · cases e
  · cases e
theorem vInW {S : Sto} {Q : Val → Sto → Prop} {neg : Bool} {x y : Val} {p : Str × Str} {ws : List (Str × Str)} (hx : x = vW p) (hy : y = .tup (ws.map vW)) (h1 : okW p = true) (h2 : ∀ w ∈ ws, okW w = true) (hl : ws.length ≤ 100) (q : Q (.bl (if neg then !decide (p ∈ ws) else decide (p ∈ ws))) S) : Wp (gInW neg x y S) Q := by
  subst hx hy
  refine ⟨_, S, ?_, q⟩
  obtain ⟨a, b⟩ := p
  show gInW neg (.tup [.str a, .str b]) (.tup (ws.map vW)) S = _
  unfold gInW
  simp only [wprs_map]
  exact if_pos ⟨h1, List.all_eq_true.mpr h2, hl⟩
end
end AL
namespace AL
open PySem PySem.Spec PyProof.Rows L2 G Th
variable [TT]
def putV (f : Str) (v : Val) : List (Str × Val) → List (Str × Val)
  | [] => [(f, v)]
  | (g, x) :: r => if g = f then (g, v) :: r else (g, x) :: putV f v r
section
variable {K : PySem.W.Frag} {H : Hp} {m : List Addr} {f : Str}
omit [TT] in
theorem look_some : ∀ {xs : List (Str × V)} {fs : List (Str × Val)} {v : Val}, xs.map (·.1) = fs.map (·.1) → VRs K H m (xs.map (·.2)) (fs.map (·.2)) → fs.lookup f = some v → ∃ u, xs.lookup f = some u ∧ VR K H m u v
  | [], [], _, _, _, h => by cases h
  | [], _ :: _, _, e, _, _ => by cases e
  | _ :: _, [], _, e, _, _ => by cases e
  | (g, u) :: xs, (g', w) :: fs, v, e, r, h => by
    have e1 : g = g' := (List.cons.inj e).1
    have e2 : xs.map (·.1) = fs.map (·.1) := (List.cons.inj e).2
    subst e1
    cases r with
    | cons a b =>
      by_cases z : f = g
      · subst z
        have h : some w = some v := by rw [← h]; simp [List.lookup]
        cases h
        exact ⟨u, by simp [List.lookup], a⟩
      · have zb : (f == g) = false := by simpa using z
        have h : fs.lookup f = some v := by rw [← h]; simp [List.lookup, zb]
        obtain ⟨u', h1, h2⟩ := look_some e2 b h
        exact ⟨u', by simp [List.lookup, zb]; exact h1, h2⟩
omit [TT] in
theorem look_none : ∀ {xs : List (Str × V)} {fs : List (Str × Val)}, xs.map (·.1) = fs.map (·.1) → fs.lookup f = none → xs.lookup f = none
  | [], _, _, _ => rfl
  | _ :: _, [], e, _ => by cases e
  | (g, u) :: xs, (g', w) :: fs, e, h => by
    have e1 : g = g' := (List.cons.inj e).1
    have e2 : xs.map (·.1) = fs.map (·.1) := (List.cons.inj e).2
    subst e1
    by_cases z : f = g
    · subst z
      simp [List.lookup] at h
    · have zb : (f == g) = false := by simpa using z
      simp only [List.lookup, zb] at h ⊢
      exact look_none e2 h
omit [TT] in
theorem put_rel {u : V} {v : Val} (ru : VR K H m u v) : ∀ {xs : List (Str × V)} {fs : List (Str × Val)}, xs.map (·.1) = fs.map (·.1) → VRs K H m (xs.map (·.2)) (fs.map (·.2)) → (putF f u xs).map (·.1) = (putV f v fs).map (·.1) ∧ VRs K H m ((putF f u xs).map (·.2)) ((putV f v fs).map (·.2))
  | [], [], _, _ => ⟨rfl, .cons ru .nil⟩
  | [], _ :: _, e, _ => by cases e
  | _ :: _, [], e, _ => by cases e
  | (g, x) :: xs, (g', w) :: fs, e, r => by
    have e1 : g = g' := (List.cons.inj e).1
    have e2 : xs.map (·.1) = fs.map (·.1) := (List.cons.inj e).2
    subst e1
    cases r with
    | cons a b =>
      by_cases z : g = f
      · simp only [putF, putV, if_pos z]
        exact ⟨congrArg (g :: ·) e2, .cons ru b⟩
      · obtain ⟨p, q⟩ := put_rel ru e2 b
        simp only [putF, putV, if_neg z]
        exact ⟨congrArg (g :: ·) p, .cons a q⟩
end

def objAt (C : Str) (v : Val) (S : Sto) : Option (Nat × List (Str × Val)) := match v with
  | .ref n => match S[n]? with
    | some (.obj D fs) => if D = C then some (n, fs) else none
    | _ => none
  | _ => none
omit [TT] in
theorem objAt_some {C : Str} {v : Val} {S : Sto} {n : Nat} {fs : List (Str × Val)} (h : objAt C v S = some (n, fs)) : v = .ref n ∧ S[n]? = some (.obj C fs) := by
  unfold objAt at h
  split at h
  · split at h
    · split at h
      · next e =>
        cases h
        subst e
        exact ⟨rfl, by assumption⟩
      · cases h
    · cases h
  · cases h
omit [TT] in
theorem objAt_of {C : Str} {S : Sto} {n : Nat} {fs : List (Str × Val)} (h : S[n]? = some (.obj C fs)) : objAt C (.ref n) S = some (n, fs) := by
  unfold objAt
  simp only [h, if_true]
theorem Rel.objR {K : PySem.W.Frag} {H : Hp} {m : List Addr} {S : Sto} {C : Str} {n : Nat} {fs : List (Str × Val)} {u : V} (R : Rel K m S H) (h : S[n]? = some (.obj C fs)) (r : VR K H m u (.ref n)) :
    ∃ (a dx : Addr) (xs : List (Str × V)), u = .ref a ∧ m[n]? = some a ∧ H a = some (.ins (TT.cls C) dx xs) ∧ xs.map (·.1) = fs.map (·.1) ∧ VRs K H m (xs.map (·.2)) (fs.map (·.2)) := by
  cases r with
  | ref hm =>
    obtain ⟨dx, xs, h1, h2, h3⟩ := R.ob n _ _ h hm
    exact ⟨_, dx, xs, rfl, hm, h1, h2, h3⟩
def eFld (C f : Str) (g : EF) : EF := fun ρ S => (g ρ S).bind fun p => (objAt C p.1 p.2).bind fun q => (q.2.lookup f).map fun v => (v, p.2)

def sFldS (C f : Str) (o v : EF) : SF := fun ρ S => match v ρ S with
  | some (y, S1) => match o ρ S1 with
    | some (x, S2) => match objAt C x S2 with
      | some (n, fs) => if fs.length < 900 then .nx ρ (S2.set n (.obj C (putV f y fs))) else .stuck
      | none => .stuck
    | none => .stuck
  | none => .stuck
section
variable {X : Cx} {e o value : Expr} {f C : Str} {g go gv : EF} {pos pos' : Pos}
theorem aFld (c : Cls X.K (TT.cls C)) (n : NoAttr X.K (TT.cls C) f) (he : AE X e g) (hb : attributeBase e f X.env (eval e X.env) = eval e X.env := by rfl) : AE X (.Attribute e f pos) (eFld C f g) := by
  refine pe_w (pe_fld he hb) fun σ H Q h => ?_
  obtain ⟨m, ρ, S, v, S', R, r, e, q⟩ := h
  obtain ⟨⟨x, S1⟩, e1, e⟩ := Option.bind_eq_some_iff.mp e
  obtain ⟨⟨k, fs⟩, e2, e⟩ := Option.bind_eq_some_iff.mp e
  obtain ⟨w, e3, e4⟩ := Option.map_eq_some_iff.mp e
  cases e4
  obtain ⟨rfl, e2⟩ := objAt_some e2
  refine ⟨m, ρ, S, .ref k, S1, R, r, e1, fun m1 u H1 E1 R1 r1 => ?_⟩
  obtain ⟨a, dx, xs, rfl, hm, hH, hk, hr⟩ := R1.objR e2 r1
  obtain ⟨u', l, ru⟩ := look_some hk hr e3
  exact ⟨a, _, dx, xs, u', rfl, hH, c, n, l, q m1 u' H1 E1 R1 ru⟩
theorem asFld (c : Cls X.K (TT.cls C)) (n : NoAttr X.K (TT.cls C) f) (ho : AE X o go) (hv : AE X value gv) (hs : swapsWith value (some (.Attribute o f pos')) pos.line X.env = pure false := by rfl) : AS X (.Assign [.Attribute o f pos'] value pos) (sFldS C f go gv) := by
  refine ps_w (ps_fld ho hv hs) fun D σ H h => ?_
  obtain ⟨m, ρ, S, R, r, p⟩ := h
  unfold sFldS at p
  split at p
  · next y S1 e1 =>
    split at p
    · next x S2 e2 =>
      split at p
      · next k fs e3 =>
        split at p
        · next hl =>
          obtain ⟨rfl, e4⟩ := objAt_some e3
          refine ⟨m, ρ, S, y, S1, R, r, e1, fun m1 u H1 E1 R1 r1 => ⟨m1, ρ, S1, .ref k, S2, R1, r.kp (E1.kp R), e2, fun m2 u2 H2 E2 R2 r2 => ?_⟩⟩
          obtain ⟨a, dx, xs, rfl, hm, hH, hk, hr⟩ := R2.objR e4 r2
          have lx : xs.length = fs.length := by have := congrArg List.length hk; simpa using this
          refine ⟨a, _, dx, xs, rfl, hH, c, n, by omega, ?_⟩
          have ru := r1.kp (E2.kp R1)
          obtain ⟨p1, p2⟩ := put_rel (f := f) ru hk hr
          obtain ⟨R3, E3⟩ := R2.put (o := .ins (TT.cls C) dx (putF f u xs)) (b := .obj C (putV f y fs)) hm ⟨dx, _, upd_same, p1, p2.kp (R2.kput (List.mem_of_getElem? hm))⟩
          exact p _ σ _ ((E1.trans E2).trans E3) R3 (r.kp (((E1.trans E2).trans E3).kp R))
        · exact p.elim
      · exact p.elim
    · exact p.elim
  · exact p.elim
end

structure Met (P : Program) (w : World) (K : PySem.W.Frag) (mg : Str → Option Value) (base : Heap) (k : Nat) (C m : Str) (ps : List Str) (F : FA) : Prop where
  ex : ∃ f fd, FnG P w K mg base k f fd ps (spA K ps.length F) ∧ Binds K fd ps [] ∧ Meth K (TT.cls C) m f ∧ Cls K (TT.cls C)
structure MetX (P : Program) (w : World) (K : PySem.W.Frag) (mg : Str → Option Value) (base : Heap) (k : Nat) (C m : Str) (ps : List Str) (F : FA) : Prop where
  ex : ∃ f fd, FnX P w K mg base k f fd ps (spX K mg ps.length F) ∧ Binds K fd ps [] ∧ Meth K (TT.cls C) m f ∧ Cls K (TT.cls C)
omit [TT] in
theorem nr_fld {C f : Str} {o v : EF} : ∀ ρ S w S', sFldS C f o v ρ S = .rt w S' → isX w = none := fun ρ S w S' h => by
  unfold sFldS at h
  split at h
  · split at h
    · split at h
      · split at h <;> cases h
      · cases h
    · cases h
  · cases h
theorem MetX.no {P : Program} {w : World} {K : PySem.W.Frag} {mg : Str → Option Value} {base : Heap} {k : Nat} {C m : Str} {ps : List Str} {F : FA} (D : MetX P w K mg base k C m ps F) : Met P w K mg base k C m ps (noX F) := by
  obtain ⟨f, fd, h1, h2, h3, h4⟩ := D.ex
  exact ⟨f, fd, fnx_g h1, h2, h3, h4⟩
section
variable {X : Cx} {W : WX} {k : Nat} {C f : Addr} {fd : FuncData} {ps : List Str} {sp : Sp} {x m : Str} {p pos apos : Pos} {o e : Expr} {es : List Expr} {ta : TE} {t : TA} {ga : AF} {go : EF}
theorem pe_methG {pl : Sem Bool} (he : PE X o ta) (c : Cls X.K C) (hm : Meth X.K C m f) (F : FnG X.prog X.w X.K X.mg X.base k f fd ps sp) (g : X.A.guards = some []) (hr : Room k X.A) (hb : Binds X.K fd ps []) (ha : PA X (e :: es) t)
    (hst : starEach (e :: es) X.env = (false, eval e X.env) :: starEach es X.env := by rfl) (hpl : (backTo pos (starEach es X.env)).any (·.1) = false := by rfl)
    (ht : eval (.Call (.Attribute o m apos) (e :: es) [] pos) X.env = (do
      let ov ← eval o X.env
      standAt apos.atName
      let (f, first) ← holding [ov] (getMethod ov m pl)
      callWith pos f first (backTo pos (starEach (e :: es) X.env)) (backToKw pos (keywordEach [] X.env))) := by rfl) :
    PE X (.Call (.Attribute o m apos) (e :: es) [] pos) (fun σ H Q => ta σ H fun x H1 => ∃ a dx fs, x = .ref a ∧ H1 a = some (.ins C dx fs) ∧ fs.lookup m = none ∧ t σ H1 fun vs H2 => sp (.ref a :: vs) H2 Q E0) := by
  constructor
  intro pins s σ H Q I h
  refine PySem.W.methodCall_KW (pl := pl) (thn (he.run pins s σ H _ I h) ?_) ht
  rintro u s1 ⟨x, H1, I1, rx, a, dx, fs, rfl, at_, no, q⟩
  obtain rfl : u = Value.ref a := rx
  refine getmeth_ok I1 at_ c hm no (PySem.W.callWith_K (first := [.ref a]) (h₀ := X.base) I.ok.mod.kin hm.kp (thn (ha.run pos pins s1 σ H1 _ I1 q) ?_) hst hpl)
  rintro us s2 ⟨vs, H2, I2, r, q2⟩
  exact ⟨I2.kIn, run_g (E := E0) (us := .ref a :: us) (vs := .ref a :: vs) F g hr hb I2 (.cons rfl r) q2⟩
theorem pe_methG0 {pl : Sem Bool} (he : PE X o ta) (c : Cls X.K C) (hm : Meth X.K C m f) (F : FnG X.prog X.w X.K X.mg X.base k f fd ps sp) (g : X.A.guards = some []) (hr : Room k X.A) (hb : Binds X.K fd ps [])
    (ht : eval (.Call (.Attribute o m apos) [] [] pos) X.env = (do
      let ov ← eval o X.env
      standAt apos.atName
      let (f, first) ← holding [ov] (getMethod ov m pl)
      callWith pos f first (backTo pos (starEach [] X.env)) (backToKw pos (keywordEach [] X.env))) := by rfl) :
    PE X (.Call (.Attribute o m apos) [] [] pos) (fun σ H Q => ta σ H fun x H1 => ∃ a dx fs, x = .ref a ∧ H1 a = some (.ins C dx fs) ∧ fs.lookup m = none ∧ sp [.ref a] H1 Q E0) := by
  constructor
  intro pins s σ H Q I h
  refine PySem.W.methodCall_KW (pl := pl) (thn (he.run pins s σ H _ I h) ?_) ht
  rintro u s1 ⟨x, H1, I1, rx, a, dx, fs, rfl, at_, no, q⟩
  obtain rfl : u = Value.ref a := rx
  exact getmeth_ok I1 at_ c hm no (PySem.W.callWith_K0 (first := [.ref a]) I1.kIn hm.kp (run_g (E := E0) (us := [.ref a]) (vs := [.ref a]) F g hr hb I1 (.cons rfl .nil) q))

def eMe (C m : Str) (F : FA) (n : Nat) (o : EF) (ga : AF) : EF := fun ρ S => (o ρ S).bind fun p => (objAt C p.1 p.2).bind fun q => if q.2.lookup m = none then (ga ρ p.2).bind fun r => if r.1.length + 1 = n then F (.ref q.1 :: r.1) r.2 else none else none
theorem aMe {C m : Str} {F : FA} (D : Met X.prog X.w X.K X.mg X.base k C m ps F) (g : X.A.guards = some []) (hr : Room k X.A) (ho : AE X o go) (ha : AA X (e :: es) ga)
    {pl : Sem Bool} (hst : starEach (e :: es) X.env = (false, eval e X.env) :: starEach es X.env := by rfl) (hpl : (backTo pos (starEach es X.env)).any (·.1) = false := by rfl)
    (ht : eval (.Call (.Attribute o m apos) (e :: es) [] pos) X.env = (do
      let ov ← eval o X.env
      standAt apos.atName
      let (f, first) ← holding [ov] (getMethod ov m pl)
      callWith pos f first (backTo pos (starEach (e :: es) X.env)) (backToKw pos (keywordEach [] X.env))) := by rfl) {n : Nat} (hn : ps.length = n := by rfl) : AE X (.Call (.Attribute o m apos) (e :: es) [] pos) (eMe C m F n go ga) := by
  subst hn
  obtain ⟨f, fd, hF, hb, hm, hc⟩ := D.ex
  refine pe_w (pe_methG (pl := pl) ho hc hm hF g hr hb ha hst hpl ht) fun σ H Q h => ?_
  obtain ⟨m0, ρ, S, v, S', R, r, e, q⟩ := h
  obtain ⟨⟨x, S1⟩, e1, e⟩ := Option.bind_eq_some_iff.mp e
  obtain ⟨⟨j, fs⟩, e2, e⟩ := Option.bind_eq_some_iff.mp e
  dsimp only at e
  split at e
  · next hl =>
    obtain ⟨⟨vs, S2⟩, e3, e⟩ := Option.bind_eq_some_iff.mp e
    dsimp only at e
    split at e
    · next hn =>
      have ez := e
      obtain ⟨rfl, e4⟩ := objAt_some e2
      refine ⟨m0, ρ, S, .ref j, S1, R, r, e1, fun m1 u H1 E1 R1 r1 => ?_⟩
      obtain ⟨a, dx, xs, rfl, hm, hH, hk, hrr⟩ := R1.objR e4 r1
      refine ⟨a, dx, xs, rfl, hH, look_none hk hl, m1, ρ, S1, vs, S2, R1, r.kp (E1.kp R), e3, fun m2 us H2 E2 R2 r2 => ?_⟩
      refine ⟨by rw [List.length_cons, r2.len]; exact hn, m2, S2, .ref j :: vs, v, S', R2, .cons (r1.kp (E2.kp R1)) r2, ez, fun m3 z H3 E3 R3 r3 => q m3 z H3 ((E1.trans E2).trans E3) R3 r3⟩
    · cases e
  · cases e
theorem aMe0 {C m : Str} {F : FA} (D : Met X.prog X.w X.K X.mg X.base k C m ps F) (g : X.A.guards = some []) (hr : Room k X.A) (ho : AE X o go) {pl : Sem Bool}
    (ht : eval (.Call (.Attribute o m apos) [] [] pos) X.env = (do
      let ov ← eval o X.env
      standAt apos.atName
      let (f, first) ← holding [ov] (getMethod ov m pl)
      callWith pos f first (backTo pos (starEach [] X.env)) (backToKw pos (keywordEach [] X.env))) := by rfl) (hn : ps.length = 1 := by rfl) : AE X (.Call (.Attribute o m apos) [] [] pos) (eMe C m F 1 go aNil) := by
  obtain ⟨f, fd, hF, hb, hm, hc⟩ := D.ex
  rw [hn] at hF
  refine pe_w (pe_methG0 (pl := pl) ho hc hm hF g hr hb ht) fun σ H Q h => ?_
  obtain ⟨m0, ρ, S, v, S', R, r, e, q⟩ := h
  obtain ⟨⟨x, S1⟩, e1, e⟩ := Option.bind_eq_some_iff.mp e
  obtain ⟨⟨j, fs⟩, e2, e⟩ := Option.bind_eq_some_iff.mp e
  dsimp only at e
  split at e
  · next hl =>
    obtain ⟨⟨vs, S2⟩, e3, e⟩ := Option.bind_eq_some_iff.mp e
    cases e3
    dsimp only at e
    have ez := e
    obtain ⟨rfl, e4⟩ := objAt_some e2
    refine ⟨m0, ρ, S, .ref j, S1, R, r, e1, fun m1 u H1 E1 R1 r1 => ?_⟩
    obtain ⟨a, dx, xs, rfl, hm, hH, hk, hrr⟩ := R1.objR e4 r1
    exact ⟨a, dx, xs, rfl, hH, look_none hk hl, rfl, m1, S1, [.ref j], v, S', R1, .cons r1 .nil, ez, fun m3 z H3 E3 R3 r3 => q m3 z H3 (E1.trans E3) R3 r3⟩
  · cases e
end
section
variable {X : Cx} {K : PySem.W.Frag} {k : Nat} {C : Str} {F : FA}
end
end AL
namespace AL
open PySem PySem.Spec PyProof.Rows L2 G Th
variable [TT]

def sFldX (C f : Str) (o v : EF) : SF := fun ρ S => match v ρ S with
  | some (y, S1) => match isX y with
    | none => match o ρ S1 with
      | some (x, S2) => match objAt C x S2 with
        | some (n, fs) => if fs.length < 900 then .nx ρ (S2.set n (.obj C (putV f y fs))) else .stuck
        | none => .stuck
      | none => .stuck
    | some _ => .rt y S1
  | none => .stuck
section
variable {X : Cx} {W : WX} {e o value c : Expr} {st st1 st2 : Stmt} {f C : Str} {g g1 g2 : SF} {go gv : EF} {tb : BF} {pos pos' : Pos}
theorem xsfld (c : Cls X.K (TT.cls C)) (n : NoAttr X.K (TT.cls C) f) (ho : AE X o go) (hv : AEX X W value gv) (hs : swapsWith value (some (.Attribute o f pos')) pos.line X.env = pure false := by rfl) : AXw X W (.Assign [.Attribute o f pos'] value pos) (sFldX C f go gv) := ps_w (ps_fld ho hv hs) fun D σ H h => by
  obtain ⟨m, ρ, S, R, r, p⟩ := h
  unfold sFldX at p
  split at p
  · next y S1 e1 =>
    refine ⟨m, ρ, S, y, S1, R, r, e1, ?_⟩
    split at p
    · next hx =>
      split at p
      · next x S2 e2 =>
        split at p
        · next k fs e3 =>
          split at p
          · next hl =>
            obtain ⟨rfl, e4⟩ := objAt_some e3
            refine (PX.no hx).mpr fun m1 u H1 E1 R1 r1 => ⟨m1, ρ, S1, .ref k, S2, R1, r.kp (E1.kp R), e2, fun m2 u2 H2 E2 R2 r2 => ?_⟩
            obtain ⟨a, dx, xs, rfl, hm, hH, hk, hr⟩ := R2.objR e4 r2
            have lx : xs.length = fs.length := by have := congrArg List.length hk; simpa using this
            refine ⟨a, _, dx, xs, rfl, hH, c, n, by omega, ?_⟩
            have ru := r1.kp (E2.kp R1)
            obtain ⟨p1, p2⟩ := put_rel (f := f) ru hk hr
            obtain ⟨R3, E3⟩ := R2.put (o := .ins (TT.cls C) dx (putF f u xs)) (b := .obj C (putV f y fs)) hm ⟨dx, _, upd_same, p1, p2.kp (R2.kput (List.mem_of_getElem? hm))⟩
            exact p _ σ _ ((E1.trans E2).trans E3) R3 (r.kp (((E1.trans E2).trans E3).kp R))
          · exact p.elim
        · exact p.elim
      · exact p.elim
    · next hx => exact (PX.yes hx).mpr ((PX.yes hx).mp p)
  · exact p.elim
end
section
variable {X : Cx} {k n : Nat} {f CA : Addr} {fd : FuncData} {ps ks : List Str} {sp : Sp} {x C : Str} {p pos : Pos} {e : Expr} {es : List Expr} {kws : List Keyword} {t tk : TA} {ga gk : AF} {g : List Value → List Value → List Value} {gV : List V → List V → List V}
theorem run_makeKG {pins : List (Addr × Obj)} {σ : L2.St} {H : Hp} {s : Shared} {Q : VK} {us ws : List Value} {vs zs : List V} (M : Mk X.K CA f) (F : FnG X.prog X.w X.K X.mg X.base k f fd ps sp) (gd : X.A.guards = some []) (hr : Room (k + 1) X.A) (hb : KBn X.K fd ps (n + 1) ks g gV)
    (I : Inv X pins σ H s) (r : Vals vs us) (rz : Vals zs ws) (l1 : vs.length = n) (l2 : zs.length = ks.length)
    (h : ∀ x dx, H x = none → H dx = none → dx ≠ x → sp (gV (.ref x :: vs) zs) (upd (upd H dx (.own x)) x (.ins CA dx [])) (fun v H2 => v = .non ∧ Q (.ref x) H2) E0) :
    wpAny (model X.prog X.w) X.A (call (.ref CA) us (ks.zip ws)) (EP X pins σ Q) X.xe s := by
  have want := h (s.heap.objs.size + 1) s.heap.objs.size (I.hok.fresh (Nat.le_succ _)) (I.hok.fresh (Nat.le_refl _)) (Nat.ne_of_lt (Nat.lt_succ_self _))
  have I2 := Inv.made (C := CA) I
  have rr : Vals (V.ref (s.heap.objs.size + 1) :: vs) (Value.ref (s.heap.objs.size + 1) :: us) := .cons rfl r
  have b1 := hb.to _ (Value.ref (s.heap.objs.size + 1) :: us) ws I2.kIn (by rw [List.length_cons, ← r.length, l1]) (rz.length.symm.trans l2)
  have gu : (X.A.under (.builtin "type.__call__" ⟨.ref CA :: us, ks.zip ws⟩)).guards = some [] := gd
  refine wpAny_call (make_map (f := f) I.kIn M.makes M.init (beq_iff_eq.mp M.fn) (codeAny_mono (F.run _ X.stack _ _ ⟨Value.ref (s.heap.objs.size + 1) :: us, ks.zip ws⟩ _ _ _ E0 gu (hr.make CA us (ks.zip ws)) (I2.env0.make CA us (ks.zip ws)) b1 (hb.rel rr rz) want) ?_))
  intro res s' c
  match res, c with
  | .error _, c => exact False.elim c
  | .ok (.ret u), c =>
    obtain ⟨v, H', I3, rv, rfl, q3⟩ := I2.after c
    exact ⟨rv, ⟨V.ref (s.heap.objs.size + 1), H', I3, rfl, q3⟩⟩
  | .ok .next, c => exact False.elim c
  | .ok .brk, c => exact False.elim c
  | .ok .cont, c => exact False.elim c
theorem pe_makeKG (M : Mk X.K CA f) (F : FnG X.prog X.w X.K X.mg X.base k f fd ps sp) (gd : X.A.guards = some []) (hr : Room (k + 1) X.A) (hg : Gl X x) (hm : X.mg x = some (.ref CA)) (hb : KBn X.K fd ps (n + 1) ks g gV)
    (ha : PA X (e :: es) t) (hkw : PK X kws tk) (hall : (backToKw pos (keywordEach kws X.env)).all (·.1.isSome) = true) (hks : (backToKw pos (keywordEach kws X.env)).filterMap (·.1) = ks)
    (hdb : (x == ("__debug__" : Str)) = false) (he : starEach (e :: es) X.env = (false, eval e X.env) :: starEach es X.env)
    (hpl : ((backTo pos (starEach (e :: es) X.env)).any (·.1) || (backToKw pos (keywordEach kws X.env)).any (·.1.isNone)) = false) :
    PE X (.Call (.Name x p) (e :: es) kws pos) (fun σ H Q => t σ H fun vs H1 => tk σ H1 fun zs H2 => vs.length = n ∧ zs.length = ks.length ∧ ∀ y dx, H2 y = none → H2 dx = none → dx ≠ y → sp (gV (.ref y :: vs) zs) (upd (upd H2 dx (.own y)) y (.ins CA dx [])) (fun v H3 => v = .non ∧ Q (.ref y) H3) E0) := by
  refine ⟨fun pins s σ H Q I h => ?_⟩
  refine wpAny_Call_Name_kw (ld_glob I hg hm ?_ hdb)
  refine PySem.W.callWith_KW (h₀ := X.base) I.ok.mod.kin M.kp hall (thn (ha.run pos pins s σ H _ I h) fun us s1 ⟨vs, H1, I1, r, q⟩ => ?_) hpl he
  refine thn (hkw.run pos pins s1 σ H1 _ I1 q) fun ws s2 ⟨zs, H2, I2, rz, l1, l2, q2⟩ => ⟨I2.kIn, ?_⟩
  rw [hks]
  exact run_makeKG M F gd hr hb I2 r rz l1 l2 q2

structure MadeK (P : Program) (w : World) (K : PySem.W.Frag) (mg : Str → Option Value) (base : Heap) (k : Nat) (C : Str) (n : Nat) (ks : List Str) (gA : List Val → List Val → List Val) (F : FA) : Prop where
  ex : ∃ (f : Addr) (fd : FuncData) (ps : List Str) (g : List Value → List Value → List Value) (gV : List V → List V → List V), FnG P w K mg base k f fd ps (spA K ps.length F) ∧ KBn K fd ps (n + 1) ks g gV ∧ Mk K (TT.cls C) f ∧ mg C = some (.ref (TT.cls C)) ∧
    ∀ (H : Hp) (m : List Addr) (vs zs : List V) (as bs : List Val), VRs K H m vs as → VRs K H m zs bs → as.length = n + 1 → bs.length = ks.length → VRs K H m (gV vs zs) (gA as bs) ∧ (gA as bs).length = ps.length
def eMkK (C : Str) (F : FA) (n m : Nat) (gA : List Val → List Val → List Val) (ga gk : AF) : EF := fun ρ S => (ga ρ S).bind fun p => (gk ρ p.2).bind fun q => if p.1.length = n ∧ q.1.length = m then (F (gA (.ref q.2.length :: p.1) q.1) (q.2 ++ [.obj C []])).bind fun r => match r.1 with
  | .non => some (.ref q.2.length, r.2)
  | _ => none
  else none
theorem aMkK {F : FA} {gA : List Val → List Val → List Val} (D : MadeK X.prog X.w X.K X.mg X.base k C n ks gA F) (gd : X.A.guards = some []) (hr : Room (k + 1) X.A) (hgl : Gl X C) (ha : AA X (e :: es) ga) (hkw : PK X kws (tFa X.K gk))
    (hall : (backToKw pos (keywordEach kws X.env)).all (·.1.isSome) = true := by rfl) (hks : (backToKw pos (keywordEach kws X.env)).filterMap (·.1) = ks := by rfl)
    (hdb : (C == ("__debug__" : Str)) = false := by decide) (he : starEach (e :: es) X.env = (false, eval e X.env) :: starEach es X.env := by rfl)
    (hpl : ((backTo pos (starEach (e :: es) X.env)).any (·.1) || (backToKw pos (keywordEach kws X.env)).any (·.1.isNone)) = false := by rfl) {m : Nat} (hm : ks.length = m := by rfl) : AE X (.Call (.Name C p) (e :: es) kws pos) (eMkK C F n m gA ga gk) := by
  subst hm
  obtain ⟨f, fd, ps, g', gV, hF, hb, hM, hmC, rel⟩ := D.ex
  refine pe_w (pe_makeKG hM hF gd hr hgl hmC hb ha hkw hall hks hdb he hpl) fun σ H Q h => ?_
  obtain ⟨m, ρ, S, v, S', R, r, e, q⟩ := h
  obtain ⟨⟨x1, S1⟩, e1, e⟩ := Option.bind_eq_some_iff.mp e
  obtain ⟨⟨x2, S2⟩, e2, e⟩ := Option.bind_eq_some_iff.mp e
  dsimp only at e
  split at e
  · next hl =>
    obtain ⟨⟨w, S3⟩, e3, e⟩ := Option.bind_eq_some_iff.mp e
    dsimp only at e
    split at e
    · cases e
      refine ⟨m, ρ, S, x1, S1, R, r, e1, fun m1 us H1 E1 R1 r1 => ⟨m1, ρ, S1, x2, S2, R1, r.kp (E1.kp R), e2, fun m2 ws H2 E2 R2 r2 => ?_⟩⟩
      have r1' := r1.kp (E2.kp R1)
      refine ⟨by rw [r1'.len]; exact hl.1, by rw [r2.len]; exact hl.2, fun y dx hy hdx ne => ?_⟩
      obtain ⟨Ra, Ea⟩ := R2.tmp (o := .own y) hdx
      have hy' : upd H2 dx (.own y) y = none := by rw [upd_ne (Ne.symm ne)]; exact hy
      obtain ⟨Rb, Eb⟩ := Ra.alloc (o := .ins (TT.cls C) dx []) (b := .obj C []) hy' ⟨dx, [], upd_same, rfl, .nil⟩
      have r3 := (r1'.kp (Ea.kp R2)).kp (Eb.kp Ra)
      have r4 := (r2.kp (Ea.kp R2)).kp (Eb.kp Ra)
      have ry : VR X.K (upd (upd H2 dx (.own y)) y (.ins (TT.cls C) dx [])) (m2 ++ [y]) (.ref y) (.ref S2.length) := .ref (by rw [← R2.len, List.getElem?_concat_length])
      obtain ⟨rg, lg⟩ := rel _ _ (.ref y :: us) ws (.ref S2.length :: x1) x2 (.cons ry r3) r4 (by rw [List.length_cons, hl.1]) hl.2
      refine ⟨by rw [rg.len]; exact lg, m2 ++ [y], S2 ++ [.obj C []], _, .non, _, Rb, rg, e3, fun m' z H' E' R' rz => ?_⟩
      cases rz
      refine ⟨rfl, q m' (.ref y) H' (((E1.trans E2).trans (Ea.trans Eb)).trans E') R' (.ref ?_)⟩
      refine (E'.kp Rb).get ?_
      rw [← R2.len, List.getElem?_concat_length]
    · cases e
  · cases e
end
section
variable {P : Program} {w : World} {K : PySem.W.Frag} {mg : Str → Option Value} {base : Heap} {k n : Nat} {C qual : Str} {st : Stmt} {f : Addr} {fd : FuncData} {ps : List Str} {F : FA} {kws : List (Str × V)} {ks : List Str}
theorem madek_in (G : FnG P w K mg base k f fd ps (spA K ps.length F)) (M : Mk K (TT.cls C) f) (hm : mg C = some (.ref (TT.cls C))) (FD : FunD K "__init__" qual (defArgs st) (defBody st) (defScope st) [] kws f fd) (hk : kws ≠ []) (hl : n + 1 + ks.length = ps.length)
    (h : ∀ (D : Addr) (doc pm : Value) (an : Option Addr) (cdv ct : Value) (us mv ws : List Value), us.length = n + 1 → mv.length = ([] : List (Str × V)).length → ws.length = ks.length →
      KwChain D ((([] : List (Str × V)).map (·.1)).zip mv) (bindArgs (PySem.W.fnOf "__init__" qual (defArgs st) (defBody st) (defScope st) .none (.ref D) doc pm an cdv ct) ⟨us, ks.zip ws⟩) (ps.zip (us ++ ws))) :
    MadeK P w K mg base k C n ks (fun as bs => as ++ bs) F := by
  obtain ⟨mv, hb⟩ := FD.kbinds0 (ps := ps) (n + 1) ks [] (fun us _ ws => us ++ ws) hk (fun q hq => by cases hq) (fun r1 _ r3 => r1.append r3) h
  refine ⟨f, fd, ps, _, _, G, hb, M, hm, fun H m vs zs as bs r1 r2 l1 l2 => ⟨r1.app r2, ?_⟩⟩
  rw [List.length_append, l1, l2]
  exact hl
end
end AL
namespace AL
open PySem PySem.Spec PyProof.Rows L2 G Th
end AL
namespace AL
open PySem PySem.Spec PyProof.Rows L2 G Th
variable [TT]
section
variable {X : Cx} {K : PySem.W.Frag} {pos : Pos} {e : Expr} {f : EF}
def gRevT : Val → Sto → Option (Val × Sto) := fun x S => match x with
  | .tup vs => some (.tup vs.reverse, S)
  | _ => none

def gAddT : Val → Val → Sto → Option (Val × Sto) := fun x y S => match x, y with
  | .tup a, .tup b => if a.length + b.length ≤ sizeLine then some (.tup (a ++ b), S) else none
  | x, y => gAdd x y S
def rAddT (K : PySem.W.Frag) : R2 := fun x y H Q => rCatA K x y H Q ∨ rAddA K x y H Q
theorem op_addT : OpR X (binaryOp .Add) (rAddT X.K) := op_catA.or op_addA
theorem oAddT : OpA K (rAddT K) gAddT := by
  intro m S H x y v S' u w Q R ru rw_ e q
  unfold gAddT at e
  split at e
  · next a b =>
    split at e
    · next h =>
      cases e
      cases ru with
      | tup ha ra =>
        rename_i ad xs
        cases rw_ with
        | tup hb rb =>
          rename_i bd ys
          have l1 := ra.len
          have l2 := rb.len
          refine .inl ⟨ad, bd, xs, ys, rfl, rfl, ha.sq, hb.sq, by omega, fun z => ?_, fun z1 z => ?_, fun z1 z2 p hp => ?_⟩
          · subst z
            have : a = [] := by
              cases a with
              | nil => rfl
              | cons _ _ => simp at l1
            subst this
            exact q m _ H (.refl _ _) R (.tup hb rb)
          · subst z
            have : b = [] := by
              cases b with
              | nil => rfl
              | cons _ _ => simp at l2
            subst this
            rw [List.append_nil] at q
            exact q m _ H (.refl _ _) R (.tup ha ra)
          · obtain ⟨R2, E2⟩ := R.tmp (o := .tup (xs ++ ys)) hp
            exact q m _ _ E2 R2 (.tup (.inl upd_same) ((ra.app rb).kp (E2.kp R)))
    · cases e
  · exact .inr (oAdd m S H _ _ v S' u w Q R ru rw_ e q)
theorem vAddT {S : Sto} {Q : Val → Sto → Prop} {x y : Val} {a b : List Val} (hx : x = .tup a) (hy : y = .tup b) (hl : a.length + b.length ≤ 1000000) (q : Q (.tup (a ++ b)) S) : Wp (gAddT x y S) Q := by
  subst hx hy
  exact ⟨_, _, if_pos (mill hl), q⟩
end
end AL
namespace AL
open PySem PySem.Spec PyProof.Rows L2 G Th
end AL
namespace K58
open PySem PySem.Spec PyProof.Rows L2 G Th AL
open K57 (other_ends_ other_ends_B own_best_ own_best_B row_behind_ row_behind_B state_round_ state_round_B feedL_ feedL_B drawL_ drawL_B keyL_ keyL_B endsL_ endsL_B turnedL_ turnedL_B)
open K56 (first_state_ first_state_B row_up_ row_up_B state_up_ state_up_B)
noncomputable def NetRun_go_round_B : SF := (sSeq (sAsg (.nm 1) (eDefK state_round_ 3 2 (fun as bs => as ++ ([] ++ ([] ++ bs))) (aCons (eFld "NetRun" "net" (eV 0)) (aCons (eFld "NetRun" "state" (eV 0)) (aCons (eFld "NetRun" "wires_up" (eV 0)) aNil))) (aCons (eFld "NetRun" "most" (eV 0)) (aCons (eFld "NetRun" "age" (eV 0)) aNil))))
    (sSeq (sAsg (.nm 2) (eCall gLen (aCons (eLc (.tp [(.nm 3), (.nm 4)]) (iZp (aCons (eV 1) (aCons (eFld "NetRun" "state" (eV 0)) aNil))) (eT (eB gNe (eB gIxA (eV 3) (eC (.int 1))) (eB gIxA (eV 4) (eC (.int 1))))) (eV 3) [3, 4]) aNil)))
    (sSeq (sFldS "NetRun" "state" (eV 0) (eV 1))
    (sSeq (sExpr (eMt isL gApp (eFld "NetRun" "turns" (eV 0)) (aCons (eV 2) aNil)))
    (sRet (eV 2))))))
noncomputable def NetRun_go_round_ : FA := runF 5 NetRun_go_round_B
noncomputable def NetRun_set_up_B : SF := (sFldX "NetRun" "state" (eV 0) (eDef state_up_ 4 (aCons (eFld "NetRun" "net" (eV 0)) (aCons (eFld "NetRun" "state" (eV 0)) (aCons (eV 1) (aCons (eV 2) aNil))))))
noncomputable def NetRun_set_up_ : FA := runF 3 NetRun_set_up_B
noncomputable def NetRun_set_wire_B : SF := (sSeq (sAsg (.nm 4) (eTup (aCons (eCall gMinG (aCons (eV 1) (aCons (eV 2) aNil))) (aCons (eCall gMaxB (aCons (eV 1) (aCons (eV 2) aNil))) aNil))))
    (sSeq (sIf (eT (eB (gInW true) (eV 4) (eB gIxA (eFld "NetRun" "net" (eV 0)) (eC (.int 1))))) (sRaise "NoLink" (aCons (eTup (aCons (eV 1) (aCons (eV 2) aNil))) aNil)) sNil)
    (sSeq (sAsg (.nm 5) (eLc (.nm 6) (iSeq (eFld "NetRun" "wires_up" (eV 0))) (eT (eB gNe (eV 6) (eV 4))) (eV 6) [6]))
    (sSeq (sIf (eT (eV 3)) (sExpr (eMt isL gApp (eV 5) (aCons (eV 4) aNil))) sNil)
    (sFldS "NetRun" "wires_up" (eV 0) (eCall gTuple (aCons (eCall gSortedG (aCons (eV 5) aNil)) aNil)))))))
noncomputable def NetRun_set_wire_ : FA := runF 7 NetRun_set_wire_B
noncomputable def NetRun_state_now_B : SF := (sRet (eFld "NetRun" "state" (eV 0)))
noncomputable def NetRun_state_now_ : FA := runF 1 NetRun_state_now_B
noncomputable def NetRun_init_B : SF := (sSeq (sFldS "NetRun" "net" (eV 0) (eV 1))
    (sSeq (sFldS "NetRun" "most" (eV 0) (eV 2))
    (sSeq (sFldS "NetRun" "age" (eV 0) (eV 3))
    (sSeq (sFldS "NetRun" "state" (eV 0) (eDef first_state_ 1 (aCons (eV 1) aNil)))
    (sSeq (sFldS "NetRun" "wires_up" (eV 0) (eB gIxA (eV 1) (eC (.int 1))))
    (sFldS "NetRun" "turns" (eV 0) (eLst aNil)))))))
noncomputable def NetRun_init_ : FA := runF 4 NetRun_init_B
end K58
namespace AL
open PySem PySem.Spec PyProof.Rows L2 G Th
variable [TT]
section
variable {X : Cx} {K : PySem.W.Frag}
def rDUpd : V → List V → Hp → VK → Prop := fun x vs H Q => ∃ d b kvs more, x = .ref d ∧ vs = [.ref b] ∧ d ≠ b ∧ H d = some (.dK kvs) ∧ H b = some (.dK more) ∧ kvs.length + more.length ≤ sizeLine ∧ Q .non (upd H d (.dK (mergeK kvs more)))
omit [TT] in
theorem mt_dupd : MtR X "dict.update" rDUpd := by
  intro pins s σ H x vs v us Q I rx rv h
  obtain ⟨d, b, kvs, more, rfl, rfl, hdb, e, eb, hz, q⟩ := h
  cases rx
  obtain ⟨u, rfl, ru⟩ := rv.one
  cases ru
  obtain ⟨z, hd, ws, rel, dd⟩ := dk_of I.hok e
  obtain ⟨z2, hd2, ws2, rel2, dd2⟩ := dk_of I.hok eb
  refine call_meetsIn PySem.F.slot_dict_update dd.typeIs PySem.F.entry_dict_update (PySem.F.args_dict_update_2 _ _) (meets_dict_update (mixKind X.prog X.w) d b hdb hd2) ⟨ws, ws2, dd, dd2, by rw [← rel.length, ← rel2.length]; exact hz, fun h' dd' db' hs => ?_⟩
  have he : ∃ q, h'.get? d = some q := let ⟨q, _, _, hq, _⟩ := dd'; ⟨q, hq⟩
  have hl : (mergeK kvs more).length ≤ sizeLine := Nat.le_trans (length_mergeK more kvs) hz
  exact ⟨.non, _, d_write (t' := s.toks) I (by rw [e]; exact True.intro) hs he (dk_new hl hd (KV.merge rel2 rel) dd'), rfl, q⟩

def gUpd : Val → List Val → Sto → Option (Val × Sto) := fun x xs S => match x, xs with
  | .ref n, [.ref b] => match S[n]?, S[b]? with
    | some (.dic vs), some (.dic ws) => if n ≠ b ∧ vs.length + ws.length ≤ sizeLine then some (.non, S.set n (.dic (mergeA vs ws))) else none
    | _, _ => none
  | _, _ => none
theorem mUpd : MtA K rDUpd gUpd := by
  intro m S H x xs v S' u us Q R ru rus e q
  unfold gUpd at e
  split at e
  · split at e
    · next n b _ _ vs ws en eb =>
      split at e
      · next hl =>
        cases e
        cases ru with
        | ref ha =>
          obtain ⟨y, rfl, r1⟩ := rus.one_of
          cases r1 with
          | ref hb =>
            obtain ⟨xs, hx, rx⟩ := R.ob _ _ _ en ha
            obtain ⟨zs, hz, rz⟩ := R.ob _ _ _ eb hb
            have rx : KR K H m xs vs := rx
            have rz : KR K H m zs ws := rz
            have nab : ∀ p q, m[n]? = some p → m[b]? = some q → p ≠ q := fun p q h1 h2 z => by
              obtain ⟨l1, e1⟩ := List.getElem?_eq_some_iff.mp h1
              obtain ⟨l2, e2⟩ := List.getElem?_eq_some_iff.mp h2
              exact hl.1 ((List.getElem_inj R.nd).mp (e1.trans (z.trans e2.symm)))
            refine ⟨_, _, xs, zs, rfl, rfl, nab _ _ ha hb, hx, hz, by rw [rx.len, rz.len]; exact hl.2, ?_⟩
            have hm := List.mem_of_getElem? ha
            have k : Kp m H m (upd H _ (.dK (mergeK xs zs))) := R.kput hm
            obtain ⟨R2, E2⟩ := R.put (o := .dK (mergeK xs zs)) (b := .dic (mergeA vs ws)) ha ⟨_, upd_same, ((rz.merge rx).kp k)⟩
            exact q m _ _ E2 R2 .non
      · cases e
    · cases e
  · cases e
def isD : Val → Sto → Bool := fun v S => match v with
  | .ref n => match S[n]? with
    | some (.dic _) => true
    | _ => false
  | _ => false
theorem tyD : TyA K "dict" isD := by
  intro m S H u v R r h
  unfold isD at h
  split at h
  · split at h
    · next n _ vs en =>
      cases r with
      | ref ha =>
        obtain ⟨xs, hx, rx⟩ := R.ob _ _ _ en ha
        exact .inr (.inr (.inl ⟨rfl, .inl ⟨xs, hx⟩⟩))
    · cases h
  · cases h

def gListD : List Val → Sto → Option (Val × Sto) := fun xs S => match xs with
  | [.ref n] => match S[n]? with
    | some (.dic kvs) => some (.ref S.length, S ++ [.lst (kvs.map fun kv => kA kv.1)])
    | _ => none
  | _ => none
def rListD : List V → Hp → VK → Prop := fun xs H Q => ∃ (a : Addr) (kvs : List (Key × V)), xs = [.ref a] ∧ Rd H a (.dK kvs) ∧ ∀ p, H p = none → Q (.ref p) (upd H p (.lst (kvs.map fun kv => kV kv.1)))
theorem keysR {m : List Addr} {H : Hp} {xs : List (Key × V)} {kvs : List (Key × Val)} (r : KR K H m xs kvs) : VRs K H m (xs.map fun kv => kV kv.1) (kvs.map fun kv => kA kv.1) := by
  induction kvs generalizing xs with
  | nil => rw [r.nil_of]; exact .nil
  | cons y kvs ih =>
    obtain ⟨x, xs', rfl, e, _, r'⟩ := r.uncons
    rw [List.map_cons, List.map_cons]
    refine .cons ?_ (ih r')
    rw [e]
    cases y.1 with
    | inl i => exact .int i
    | inr z => exact .str z
theorem cListD : CaA K rListD gListD := by
  intro m S H xs v S' us Q R ru e q
  unfold gListD at e
  split at e
  · split at e
    · next kvs en =>
      cases e
      obtain ⟨u, rfl, r1⟩ := ru.one_of
      cases r1 with
      | ref ha =>
        obtain ⟨xs, hx, rx⟩ := R.ob _ _ _ en ha
        have rx : KR K H m xs kvs := rx
        exact ⟨_, xs, rfl, .inl hx, newList R (keysR rx) q⟩
    · cases e
  · cases e
def gListB : List Val → Sto → Option (Val × Sto) := fun xs S => (gList xs S).or (gListD xs S)
omit [TT] in
theorem call_listB (hc : X.calm = true) : CallR X (.type "list") (fun xs H Q => (∃ p ys, xs = [.ref p] ∧ (SqL X.K H p ys ∨ SqT X.K H p ys) ∧ ∀ l, H l = none → Q (.ref l) (upd H l (.lst ys))) ∨ rListD xs H Q) := CallR.or call_list_of (call_listD hc)
theorem cListB : CaA K (fun xs H Q => (∃ p ys, xs = [.ref p] ∧ (SqL K H p ys ∨ SqT K H p ys) ∧ ∀ l, H l = none → Q (.ref l) (upd H l (.lst ys))) ∨ rListD xs H Q) gListB := cList.or cListD
end
section
variable {X : Cx} {K : PySem.W.Frag}
def iKeysL (td : TE) : TI := fun σ H R => td σ H fun x H1 => ∃ d kvs, x = .ref d ∧ H1 d = some (.dK kvs) ∧ ∀ o, R (Itk d o kvs) (upd H1 d (.frz o (.dK kvs)))
omit [TT] in
theorem pi_keysL {tg e : Expr} {td : TE} (he : PE X e td) : PI X tg e (iKeysL td) := by
  refine ⟨fun pins s σ H R I h => ?_⟩
  refine thn (he.run pins s σ H _ I h) fun u s1 ⟨x, H1, I1, rx, d, kvs, ex, hd, q⟩ => ?_
  subst ex
  obtain rfl : u = Value.ref d := rx
  obtain ⟨od, I2⟩ := I1.lock hd True.intro
  obtain ⟨hs, hgd, hx, es, ep, vs, hdt, hsz, kv, hm⟩ := I2.frzK upd_same
  refine iter_keys hs hgd hx hdt (pi_one (tk := s1.toks) I2 _ (turn_keys _ hdt) ⟨_, Heap.get?_push_size _ rfl, rfl, ?_⟩ (q od))
  rw [hsz] <;> rfl
mutual
theorem VR.backA {H H' : Hp} {m m1 : List Addr} {r : List Addr} (hp : m1 = m ++ r) : ∀ (v : Val) (u w : V), VR K H m u v → VR K H' m1 w v → VR K H' m w v
  | .non, _, _, _, h => by cases h; exact .non
  | .bl b, _, _, _, h => by cases h; exact .bl _
  | .int i, _, _, _, h => by cases h; exact .int _
  | .str x, _, _, _, h => by cases h; exact .str _
  | .ref n, _, _, g, h => by
    cases g with
    | ref e0 =>
      cases h with
      | ref e =>
        refine .ref ?_
        rw [hp, List.getElem?_append_left (List.getElem?_eq_some_iff.mp e0).1] at e
        exact e
  | .scr ns, _, _, _, h => by
    cases h with
    | scr e => exact .scr e
  | .lam f c q us vs, _, _, g, h => by
    cases g with
    | lam e0 r0 =>
      cases h with
      | lam e r1 => exact .lam e (VRs.backA hp vs _ _ r0 r1)
  | .exc a dd c vs, _, _, g, h => by
    cases g with
    | exc e0 l0 r0 =>
      cases h with
      | exc e l r1 => exact .exc e l (VRs.backA hp vs _ _ r0 r1)
  | .ptu vs, _, _, g, h => by
    cases g with
    | ptu e0 d0 r0 =>
      cases h with
      | ptu e d r1 => exact .ptu e d (VRs.backA hp vs _ _ r0 r1)
  | .tup vs, _, _, g, h => by
    cases g with
    | tup e0 r0 =>
      cases h with
      | tup e r1 => exact .tup e (VRs.backA hp vs _ _ r0 r1)
theorem VRs.backA {H H' : Hp} {m m1 : List Addr} {r : List Addr} (hp : m1 = m ++ r) : ∀ (vs : List Val) (us ws : List V), VRs K H m us vs → VRs K H' m1 ws vs → VRs K H' m ws vs
  | [], _, _, _, h => by cases h; exact .nil
  | v :: vs, _, _, g, h => by
    cases g with
    | cons a0 r0 =>
      cases h with
      | cons a r1 => exact .cons (VR.backA hp v _ _ a0 a) (VRs.backA hp vs _ _ r0 r1)
end
theorem OR.back {H H' : Hp} {m m1 r : List Addr} {a : Addr} {o : Ob} (hp : m1 = m ++ r) (g : OR K H m a o) (h : OR K H' m1 a o) : OR K H' m a o := by
  cases o with
  | lst vs =>
    obtain ⟨xs, _, r0⟩ := g
    obtain ⟨ys, e, r1⟩ := h
    exact ⟨ys, e, VRs.backA hp _ _ _ r0 r1⟩
  | dic kvs =>
    obtain ⟨xs, _, _, r0⟩ := g
    obtain ⟨ys, e, e2, r1⟩ := h
    exact ⟨ys, e, e2, VRs.backA hp _ _ _ r0 r1⟩
  | set w f n => exact h
  | obj C fs =>
    obtain ⟨_, xs, _, _, r0⟩ := g
    obtain ⟨dx, ys, e, e2, r1⟩ := h
    exact ⟨dx, ys, e, e2, VRs.backA hp _ _ _ r0 r1⟩
open Classical in
noncomputable def iDic (f : EF) : IF := fun ρ S => (f ρ S).bind fun p => match p.1 with
  | .ref n => match p.2[n]? with
    | some (.dic kvs) => if S.length ≤ n ∧ Kn S p.2 then some (kvs.map fun kv => kA kv.1, fun _ => True, S) else none
    | _ => none
  | _ => none
theorem aid {tg e : Expr} {f : EF} (he : AE X e f) : AI X tg e (iDic f) := pi_w (pi_keysL he) fun σ H W h => by
  obtain ⟨m, ρ, S, vs, ok, S', R, r, e, q⟩ := h
  obtain ⟨⟨x, S1⟩, e1, e⟩ := Option.bind_eq_some_iff.mp e
  dsimp only at e
  split at e
  · next n =>
    split at e
    · next kvs en =>
      split at e
      · next hc =>
        cases e
        refine ⟨m, ρ, S, _, _, R, r, e1, fun m1 u H1 E1 R1 r1 => ?_⟩
        cases r1 with
        | @ref d _ hd =>
          obtain ⟨xs, hx, hk, rk⟩ := R1.ob _ _ _ en hd
          refine ⟨d, xs, rfl, hx, fun o => ?_⟩
          obtain ⟨rr, hp⟩ := E1.pre
          have dm : d ∉ m := fun z => by
            obtain ⟨i, hi⟩ := List.getElem?_of_mem z
            have li := (List.getElem?_eq_some_iff.mp hi).1
            have h1 : m1[i]? = some d := by rw [hp, List.getElem?_append_left li]; exact hi
            obtain ⟨l1, e1'⟩ := List.getElem?_eq_some_iff.mp h1
            obtain ⟨l2, e2'⟩ := List.getElem?_eq_some_iff.mp hd
            have := (List.getElem_inj R1.nd).mp (e1'.trans e2'.symm)
            have := R.len
            omega
          have k1 : Kp m1 H1 m1 (upd H1 d (.frz o (.dK xs))) := R1.kput (List.mem_of_getElem? hd)
          have R2 : Rel X.K m S (upd H1 d (.frz o (.dK xs))) := by
            refine ⟨R.len, R.nd, fun i ob a h1 h2 => ?_, tabs_kp R1.tb k1 fun P ps hP => tbl_at hx (fun _ z => by cases z) hP⟩
            have li := (List.getElem?_eq_some_iff.mp h2).1
            have h3 : m1[i]? = some a := by rw [hp, List.getElem?_append_left li]; exact h2
            have h4 := R1.ob i ob a (hc.2 i ob h1) h3
            have h5 : OR X.K (upd H1 d (.frz o (.dK xs))) m1 a ob := h4.kp k1 (upd_ne fun z => dm (z ▸ List.mem_of_getElem? h2))
            exact OR.back hp (R.ob i ob a h1 h2) h5
          have E2 : Ext m H m (upd H1 d (.frz o (.dK xs))) := by
            refine ⟨⟨[], (List.append_nil m).symm⟩, fun a u h n t => ?_, fun _ _ h n => absurd h n⟩
            have h1 := E1.fr' a u h n t
            rw [upd_ne fun z => ?_]
            · exact h1
            · subst z
              obtain ⟨ps, hps⟩ := E1.nw' _ _ (List.mem_of_getElem? hd) n h
              exact t ps hps
          refine q m _ _ E2 R2 ⟨fun i m2 S2 H2 E3 R3 _ v hv => ?_, fun m2 S2 H2 E3 R3 _ => ?_⟩
          · have hd2 : H2 d = some (.frz o (.dK xs)) := E3.fr d _ upd_same dm
            have hv' := hv
            rw [List.getElem?_map] at hv'
            obtain ⟨kv, hkv, rfl⟩ := Option.map_eq_some_iff.mp hv'
            have hkl : xs.length = kvs.length := KR.len (show KR X.K _ _ xs kvs from ⟨hk, rk⟩)
            refine ⟨⟨hd2, by rw [hkl]; exact (List.getElem?_eq_some_iff.mp hkv).1⟩, fun y H' hy => ?_⟩
            obtain ⟨rfl, k, z, hz, rfl⟩ := hy
            refine ⟨R3, .refl _ _, ?_⟩
            have e2 : k = kv.1 := by
              have e3 : (xs.map (·.1))[i]? = some k := by rw [List.getElem?_map, hz]; rfl
              rw [hk, List.getElem?_map, hkv] at e3
              exact (Option.some.inj e3).symm
            subst e2
            cases kv.1 with
            | inl i => exact .int i
            | inr z => exact .str z
          · have hd2 : H2 d = some (.frz o (.dK xs)) := E3.fr d _ upd_same dm
            have hkl : xs.length = kvs.length := KR.len (show KR X.K _ _ xs kvs from ⟨hk, rk⟩)
            exact ⟨hd2, by rw [List.length_map, hkl]; exact Nat.le_refl _⟩
      · cases e
    · cases e
  · cases e
theorem wiD {S : Sto} {ρ : Rho} {Y : List Val → (Sto → Prop) → Sto → Prop} {f : EF} (h : Wp (f ρ S) fun v S1 => ∃ n kvs, v = .ref n ∧ S1[n]? = some (.dic kvs) ∧ S.length ≤ n ∧ Kn S S1 ∧ Y (kvs.map fun kv => kA kv.1) (fun _ => True) S) : Wi (iDic f ρ S) Y := by
  obtain ⟨v, S1, e, n, kvs, rfl, h1, h2, h3, q⟩ := h
  exact ⟨_, _, _, by unfold iDic; rw [e]; simp only [Option.bind_some, h1]; rw [if_pos ⟨h2, h3⟩], q⟩
end
section
variable {S : Sto} {N : Sto → Prop} {Q : Val → Sto → Prop}
theorem vUpd {n b : Nat} {x y : Val} {vs ws : List (Key × Val)} (hx : x = .ref n) (hy : y = .ref b) (h : S[n]? = some (.dic vs)) (hb : S[b]? = some (.dic ws)) (hn : n ≠ b) (hl : vs.length + ws.length ≤ sizeLine) (q : Pt S n (.dic (mergeA vs ws)) (Q .non)) : Wp (gUpd x [y] S) Q := by
  subst hx hy
  exact ⟨_, _, by simp only [gUpd, h, hb, if_pos (And.intro hn hl)], q.use h⟩
theorem vListD {n : Nat} {x : Val} {kvs : List (Key × Val)} (hx : x = .ref n) (h : S[n]? = some (.dic kvs)) (q : Nw S (.lst (kvs.map fun kv => kA kv.1)) Q) : Wp (gListB [x] S) Q := by
  subst hx
  exact ⟨.ref S.length, S ++ [.lst (kvs.map fun kv => kA kv.1)], by simp only [gListB, gList, gListD, h, Option.none_or], q.use⟩
end
end AL
namespace K60
open PySem PySem.Spec PyProof.Rows L2 G Th AL
open K57 (other_ends_ other_ends_B own_best_ own_best_B feedL_ feedL_B drawL_ drawL_B keyL_ keyL_B endsL_ endsL_B)
noncomputable def near_names_B : SF := (sSeq (sAsg (.nm 3) (eIf (eT (eB gIs (eV 2) (eC .non))) (eB gIxA (eV 0) (eC (.int 1))) (eV 2)))
    (sSeq (sAsg (.nm 4) eDic)
    (sSeq (sFor (.nm 5) (iSeq (eV 1)) (sSub gSetA (eV 4) (eV 5) (eLc (.nm 6) (iSeq (eDef other_ends_ 2 (aCons (eV 3) (aCons (eV 5) aNil)))) (eT (eB (gIn false) (eV 6) (eV 1))) (eV 6) [6])))
    (sRet (eV 4)))))
noncomputable def near_names_ : FA := runF 7 near_names_B
noncomputable def own_keys_B : SF := (sRet (eDc (.nm 1) (iSeq (eB gIxA (eV 0) (eC (.int 0)))) bYes (eB gIxA (eV 1) (eC (.int 0))) (eB gIxA (eDef own_best_ 1 (aCons (eV 1) aNil)) (eC (.int 0))) [1]))
noncomputable def own_keys_ : FA := runF 2 own_keys_B
noncomputable def steps_from_B : SF := (sSeq (sAsg (.nm 2) (eDsp (aCons (eV 1) (aCons (eC (.int 0)) aNil))))
    (sSeq (sAsg (.nm 3) (eLst (aCons (eV 1) aNil)))
    (sSeq (sWhile (eT (eB gGt (eCall gLen (aCons (eV 3) aNil)) (eC (.int 0)))) (sSeq (sAsg (.nm 4) (eMt isL gPop (eV 3) (aCons (eC (.int 0)) aNil)))
    (sFor (.nm 5) (iSeq (eB gIxA (eV 0) (eV 4))) (sIf (eT (eB (gIn true) (eV 5) (eV 2))) (sSeq (sSub gSetA (eV 2) (eV 5) (eB gAdd (eB gIxA (eV 2) (eV 4)) (eC (.int 1))))
    (sExpr (eMt isL gApp (eV 3) (aCons (eV 5) aNil)))) sNil))))
    (sRet (eV 2)))))
noncomputable def steps_from_ : FA := runF 6 steps_from_B
noncomputable def pieces_of_B : SF := (sSeq (sAsg (.nm 3) (eDef near_names_ 3 (aCons (eV 0) (aCons (eV 1) (aCons (eV 2) aNil)))))
    (sSeq (sAsg (.nm 4) eDic)
    (sSeq (sAsg (.nm 5) (eLst aNil))
    (sSeq (sFor (.nm 6) (iSeq (eV 1)) (sIf (eT (eB (gIn true) (eV 6) (eV 4))) (sSeq (sAsg (.nm 7) (eCall gTuple (aCons (eCall gSortedG (aCons (eCall gListB (aCons (eDef steps_from_ 2 (aCons (eV 3) (aCons (eV 6) aNil))) aNil)) aNil)) aNil)))
    (sSeq (sExpr (eMt isL gApp (eV 5) (aCons (eV 7) aNil)))
    (sExpr (eMt isD gUpd (eV 4) (aCons (eDc (.nm 8) (iSeq (eV 7)) bYes (eV 8) (eC (.bl true)) [8]) aNil))))) sNil))
    (sRet (eCall gTuple (aCons (eV 5) aNil)))))))
noncomputable def pieces_of_ : FA := runF 9 pieces_of_B
noncomputable def nearer_B : SF := (sSeq (sIf (eT (eB gEq (eB gIxA (eV 1) (eV 2)) (eC (.int 0)))) (sRet (eV 2)) sNil)
    (sRet (eCall gMinG (aCons (eLc (.nm 3) (iSeq (eB gIxA (eV 0) (eV 2))) (eT (eB gEq (eB gIxA (eV 1) (eV 3)) (eB gSub (eB gIxA (eV 1) (eV 2)) (eC (.int 1))))) (eV 3) [3]) aNil))))
noncomputable def nearer_ : FA := runF 4 nearer_B
noncomputable def tree_paper_B : SF := (sSeq (sAsg (.nm 3) (eDef own_keys_ 1 (aCons (eV 0) aNil)))
    (sSeq (sAsg (.nm 4) (eDef near_names_ 3 (aCons (eV 0) (aCons (eV 1) (aCons (eV 2) aNil)))))
    (sSeq (sAsg (.nm 5) (eLst aNil))
    (sSeq (sFor (.nm 6) (iSeq (eDef pieces_of_ 3 (aCons (eV 0) (aCons (eV 1) (aCons (eV 2) aNil))))) (sSeq (sAsg (.nm 7) (eCall gMinG (aCons (eLc (.nm 9) (iSeq (eV 6)) bYes (eB gIxA (eV 3) (eV 9)) [9]) aNil)))
    (sSeq (sAsg (.nm 8) (eDef steps_from_ 2 (aCons (eV 4) (aCons (eB gIxA (eV 7) (eC (.int 2))) aNil))))
    (sExpr (eMt isL gExt (eV 5) (aCons (eLc (.nm 9) (iSeq (eV 6)) bYes (eTup (aCons (eV 9) (aCons (eV 7) (aCons (eB gIxA (eV 8) (eV 9)) (aCons (eDef nearer_ 3 (aCons (eV 4) (aCons (eV 8) (aCons (eV 9) aNil)))) aNil))))) [9]) aNil))))))
    (sRet (eCall gTuple (aCons (eCall gSortedG (aCons (eV 5) aNil)) aNil)))))))
noncomputable def tree_paper_ : FA := runF 10 tree_paper_B
noncomputable def farL_B : SF := (sSeq (sPar [3, 4, 5] (aCons (eDsp (aCons (eV 2) (aCons (eC (.int 0)) aNil))) (aCons (eLst (aCons (eV 2) aNil)) (aCons (eC (.int 0)) aNil))))
    (sSeq (sWhile (eT (eB gNe (eV 4) (eLst aNil))) (sSeq (sPar [5, 7] (aCons (eB gAdd (eV 5) (eC (.int 1))) (aCons (eLst aNil) aNil)))
    (sSeq (sFor (.nm 6) (iSeq (eV 4)) (sFor (.nm 8) (iSeq (eDef endsL_ 2 (aCons (eV 1) (aCons (eV 6) aNil)))) (sIf (bAnd (eT (eB (gIn false) (eV 8) (eV 0))) (eT (eB (gIn true) (eV 8) (eV 3)))) (sSeq (sSub gSetA (eV 3) (eV 8) (eV 5))
    (sExpr (eMt isL gApp (eV 7) (aCons (eV 8) aNil)))) sNil)))
    (sAsg (.nm 4) (eV 7)))))
    (sRet (eV 3))))
noncomputable def farL_ : FA := runF 9 farL_B
end K60
namespace Od
open PySem PySem.Spec PyProof.Rows L2 SeqAt
end Od
namespace AL
open PySem PySem.Spec PyProof.Rows L2 G Th Od
variable [TT]
section
variable {X : Cx} {K : PySem.W.Frag}
end
end AL
namespace K62
open PySem PySem.Spec PyProof.Rows L2 G Th AL
open K57 (other_ends_ other_ends_B own_best_ own_best_B feedL_ feedL_B drawL_ drawL_B keyL_ keyL_B endsL_ endsL_B)
open K60 (near_names_ near_names_B own_keys_ own_keys_B steps_from_ steps_from_B pieces_of_ pieces_of_B nearer_ nearer_B tree_paper_ tree_paper_B)
noncomputable def ring_from_B : SF := (sSeq (sAsg (.nm 2) (eLst (aCons (eV 1) aNil)))
    (sSeq (sWhile (eT (eB gLe (eCall gLen (aCons (eV 2) aNil)) (eCall gLen (aCons (eV 0) aNil)))) (sSeq (sAsg (.nm 3) (eGet1 (eV 0) (eB gIxA (eV 2) (eU gNeg (eC (.int 1))))))
    (sSeq (sIf (eT (eB gIs (eV 3) (eC .non))) (sRet (eC .non)) sNil)
    (sSeq (sIf (eT (eB gEq (eV 3) (eV 1))) (sRet (eCall gTuple (aCons (eV 2) aNil))) sNil)
    (sExpr (eMt isL gApp (eV 2) (aCons (eV 3) aNil)))))))
    (sRet (eC .non))))
noncomputable def ring_from_ : FA := runF 4 ring_from_B
noncomputable def follow_ring_B : SF := (sSeq (sAsg (.nm 1) (eDc (.tp [(.nm 2), (.nm 3)]) (iSeq (eV 0)) bYes (eV 2) (eV 3) [2, 3]))
    (sSeq (sFor (.tp [(.nm 2), (.nm 3)]) (iSeq (eV 0)) (sSeq (sAsg (.nm 4) (eDef ring_from_ 2 (aCons (eV 1) (aCons (eV 2) aNil))))
    (sIf (eT (eB gIsN (eV 4) (eC .non))) (sRet (eV 4)) sNil)))
    (sRet (eC .non))))
noncomputable def follow_ring_ : FA := runF 5 follow_ring_B
end K62
namespace K65
open PySem PySem.Spec PyProof.Rows L2 G Th AL
open K57 (other_ends_ other_ends_B own_best_ own_best_B feedL_ feedL_B drawL_ drawL_B keyL_ keyL_B endsL_ endsL_B)
open K60 (near_names_ near_names_B own_keys_ own_keys_B steps_from_ steps_from_B pieces_of_ pieces_of_B nearer_ nearer_B tree_paper_ tree_paper_B farL_ farL_B)
noncomputable def ghosts_of_B : SF := (sSeq (sAsg (.nm 3) (eDc (.tp [(.nm 8), (.nm 9), (.nm 10)]) (iSeq (eV 1)) (eT (eB gIsN (eV 9) (eC .non))) (eV 8) (eV 9) [8, 9, 10]))
    (sSeq (sAsg (.nm 4) (eDef own_keys_ 1 (aCons (eV 0) aNil)))
    (sSeq (sAsg (.nm 5) (eLst aNil))
    (sSeq (sFor (.nm 6) (iSeq (eDef pieces_of_ 3 (aCons (eV 0) (aCons (eCall gTuple (aCons (eCall gSortedG (aCons (eCall gListB (aCons (eV 3) aNil)) aNil)) aNil)) (aCons (eV 2) aNil))))) (sSeq (sAsg (.nm 7) (eLc (.nm 8) (iSeq (eV 6)) bYes (eB gIxA (eV 4) (eV 8)) [8]))
    (sExpr (eMt isL gExt (eV 5) (aCons (eLc (.nm 8) (iSeq (eV 6)) (eT (eB (gInD true) (eB gIxA (eB gIxA (eV 3) (eV 8)) (eC (.int 0))) (eV 7))) (eTup (aCons (eV 8) (aCons (eB gIxA (eB gIxA (eV 3) (eV 8)) (eC (.int 0))) aNil))) [8]) aNil)))))
    (sRet (eCall gTuple (aCons (eCall gSortedG (aCons (eV 5) aNil)) aNil)))))))
noncomputable def ghosts_of_ : FA := runF 11 ghosts_of_B
noncomputable def rounds_to_halt_B : SF := (sSeq (sAsg (.nm 5) (eLc (.nm 6) (iSeq (eDef tree_paper_ 3 (aCons (eV 0) (aCons (eV 1) (aCons (eV 2) aNil))))) bYes (eB gIxA (eV 6) (eC (.int 2))) [6]))
    (sRet (eB gAdd (eB gAdd (eB gAdd (eV 3) (eV 4)) (eC (.int 1))) (eCall gMaxB (aCons (eB gAdd (eLc (.nm 7) (iSeq (eV 5)) (eT (eB gLe (eV 7) (eV 3))) (eV 7) [7]) (eLst (aCons (eC (.int 0)) aNil))) aNil)))))
noncomputable def rounds_to_halt_ : FA := runF 8 rounds_to_halt_B
end K65
namespace K67
open PySem PySem.Spec PyProof.Rows L2 G Th AL
open K57 (other_ends_ other_ends_B own_best_ own_best_B row_behind_ row_behind_B state_round_ state_round_B feedL_ feedL_B drawL_ drawL_B keyL_ keyL_B endsL_ endsL_B)
open K60 (near_names_ near_names_B own_keys_ own_keys_B steps_from_ steps_from_B pieces_of_ pieces_of_B nearer_ nearer_B tree_paper_ tree_paper_B)
open K62 (ring_from_ ring_from_B follow_ring_ follow_ring_B)
open K65 (rounds_to_halt_ rounds_to_halt_B)
noncomputable def follows_of_B : SF := (sRet (eCall gTuple (aCons (eLc (.tp [(.nm 1), (.nm 2), (.nm 3)]) (iSeq (eV 0)) (bAnd (eT (eB gIsN (eV 2) (eC .non))) (eT (eB gNe (eB gIxA (eV 2) (eC (.int 2))) (eV 1)))) (eTup (aCons (eV 1) (aCons (eB gIxA (eV 2) (eC (.int 2))) aNil))) [1, 2, 3]) aNil)))
noncomputable def follows_of_ : FA := runF 4 follows_of_B
end K67
namespace AL
open PySem PySem.Spec PyProof.Rows L2 G Th
variable [TT]
def unp : Val → Val
  | .ptu vs => .tup vs
  | v => v
theorem VR.unp {K : PySem.W.Frag} {H : Hp} {m : List Addr} {u : V} {v : Val} (r : VR K H m u v) : VR K H m u (unp v) := by
  cases r with
  | ptu e d q => exact .tup (.inr (.inr ⟨_, e⟩)) q
  | non => exact .non
  | bl b => exact .bl _
  | int i => exact .int _
  | str x => exact .str _
  | tup h q => exact .tup h q
  | ref h => exact .ref h
  | scr h => exact .scr h
  | lam h q => exact .lam h q
  | exc h l q => exact .exc h l q

def eUnp (f : EF) : EF := fun ρ S => (f ρ S).map fun p => (unp p.1, p.2)

def gTupP : List Val → Sto → Option (Val × Sto) := fun xs S => match xs with
  | [.ref n] => match S[n]? with
    | some (.lst vs) => some (.ptu vs, S)
    | _ => none
  | _ => none

def gDictP : List Val → Sto → Option (Val × Sto) := fun xs S => match xs with
  | [.ptu vs] => match pairsK vs with
    | some kvs => some (.ref S.length, S ++ [.dic (mergeA [] kvs)])
    | none => none
  | _ => none
section
variable {X : Cx} {K : PySem.W.Frag} {es : List Expr} {ga : AF} {pos : Pos} {f : EF} {e : Expr}
theorem aUnp (h : AE X e f) : AE X e (eUnp f) := pe_w h fun σ H Q ⟨m, ρ, S, v, S', R, r, e, q⟩ => by
  obtain ⟨⟨x, S1⟩, e1, e⟩ := Option.map_eq_some_iff.mp e
  cases e
  exact ⟨m, ρ, S, x, S1, R, r, e1, fun m1 u H1 E1 R1 r1 => q m1 u H1 E1 R1 r1.unp⟩
omit [TT] in
theorem call_tupleP : CallR X (.type "tuple") (fun xs H Q => ∃ p ys, xs = [.ref p] ∧ SqL X.K H p ys ∧ ∀ l o, H l = none → o.dict = none → Q (.ref l) (upd H l (.frz o (.tup ys)))) := by
  intro pins s σ H xs us Q I r h
  obtain ⟨p, ys, rfl, hq, q⟩ := h
  obtain ⟨u, rfl, rx⟩ := vals1 r
  cases rx
  obtain ⟨its, r', pl, hz⟩ := I.list hq
  have hlen := r'.length
  refine call_tuple_list pl.isList (fun h' kp => ?_) (by simp only [List.size_toArray] <;> omega)
  have I1 : Inv X pins σ H { s with heap := h' } := I.kept (t' := s.toks) kp
  have I2 : Inv X pins σ (upd H h'.objs.size (.frz { cls := .type "tuple", data := .seq its.toArray } (.tup ys))) { s with heap := h'.push { cls := .type "tuple", data := .seq its.toArray } } :=
    I1.laid (t' := s.toks) (fun b o e => Heap.get?_push_of_some _ e) (Nat.le_refl _) (show ObjOk X.prog X.w _ _ _ (.frz _ (.tup ys)) from ⟨Heap.get?_push_size _ rfl, hz, its, r', IsTup.new _ _⟩)
  exact ⟨.ref h'.objs.size, _, I2, rfl, q _ _ (I1.hok.fresh (Nat.le_refl _)) rfl⟩
theorem cTupP : CaA K (fun xs H Q => ∃ p ys, xs = [.ref p] ∧ SqL K H p ys ∧ ∀ l o, H l = none → o.dict = none → Q (.ref l) (upd H l (.frz o (.tup ys)))) gTupP := by
  intro m S H xs v S' us Q R ru e q
  unfold gTupP at e
  split at e
  · split at e
    · next vs en =>
      cases e
      obtain ⟨u, rfl, r1⟩ := ru.one_of
      cases r1 with
      | ref ha =>
        obtain ⟨xs, hx, rx⟩ := R.ob _ _ _ en ha
        refine ⟨_, _, rfl, SqL.of hx, fun l o hl hd => ?_⟩
        obtain ⟨R2, E2⟩ := R.tmp (o := .frz o (.tup xs)) hl
        exact q m _ _ E2 R2 (.ptu upd_same hd (rx.kp (E2.kp R)))
    · cases e
  · cases e
omit [TT] in
theorem pairs_ofU {pins : List (Addr × Obj)} {σ : L2.St} {H : Hp} {s : Shared} (I : Inv X pins σ H s) : ∀ {ps : List Addr} {kvs : List (Key × V)}, Paired (fun p kv => SqT X.K H p [kV kv.1, kv.2]) ps kvs →
    ∃ (prs : List (Key × Value)) (vv : List (Value × Value)), KV kvs prs ∧ prs.length = ps.length ∧ vv.length = ps.length ∧ ∀ (j : Nat) (k v : Value), vv[j]? = some (k, v) → ∃ (b : Addr) (q : Key × Value), ps[j]? = some b ∧ prs[j]? = some q ∧ q.2 = v ∧ IsTup s.heap b #[k, v] ∧ keyIs q.1 k = true
  | _, _, .nil => ⟨[], [], .nil, rfl, rfl, fun j k v e => by simp at e⟩
  | _, _, .cons (a := p) (b := kv) h t => by
    obtain ⟨prs, vv, r, hl, hl2, hp⟩ := pairs_ofU I t
    obtain ⟨its, rv, ht, _⟩ := I.tuple h
    obtain ⟨u, y, ei, ru, ry⟩ := vals2 rv
    subst ei
    refine ⟨(kv.1, y) :: prs, (u, y) :: vv, .cons ⟨rfl, ry⟩ r, by rw [List.length_cons, List.length_cons, hl], by rw [List.length_cons, List.length_cons, hl2], fun j k v e => ?_⟩
    cases j with
    | zero =>
      have e' : (u, y) = (k, v) := Option.some.inj e
      cases e'
      exact ⟨p, _, rfl, rfl, rfl, ht, kV_is (P := X.prog) (w := X.w) ru⟩
    | succ j =>
      obtain ⟨b, q, e1, e2, e3⟩ := hp j k v (by simpa using e)
      exact ⟨b, q, by simpa using e1, by simpa using e2, e3⟩
def rDictP : List V → Hp → VK → Prop := fun xs H Q => ∃ (a : Addr) (o : Obj) (ps : List Addr) (kvs : List (Key × V)), xs = [.ref a] ∧ H a = some (.frz o (.tup (ps.map V.ref))) ∧ o.dict = none ∧ Paired (fun p kv => SqT K H p [kV kv.1, kv.2]) ps kvs ∧
    ∀ p, H p = none → Q (.ref p) (upd H p (.dK (mergeK [] kvs)))
omit [TT] in
theorem call_dictU (hcalm : X.calm = true) : CallR X (.type "dict") (rDictP (K := X.K)) := by
  intro pins s σ H xs us Q I r q
  obtain ⟨a, o, ps, kvs, ex, ha, hod, hp, q⟩ := q
  subst ex
  obtain ⟨u, eu, rx⟩ := vals1 r
  subst eu
  cases rx
  obtain ⟨ho, hz, its, rv, ob, e, hc, n, hdat⟩ := I.hok a _ ha
  rw [ho] at e
  cases e
  have ei := refs_at rv
  subst ei
  rw [List.length_map] at hz
  obtain ⟨prs, vv, rel, hl, hl2, hpr⟩ := pairs_ofU I hp
  refine PySem.call_dict_pairs (knd := mixKind X.prog X.w) (kvs := prs) (PairArg.tuple a (ps.map Value.ref).toArray (fun j => (ps[j]?).getD 0) vv) (I.ok.hd hcalm) ⟨⟨o, n, ho, hc, hod, hdat⟩, by simp [hl2], fun j k v e => ?_⟩ ⟨by rw [hl, hl2], fun i k v e => ?_⟩ (by rw [hl2]; exact hz) fun h' tk hd' k => ?_
  · obtain ⟨b, q', e1, e2, e3, e4, e5⟩ := hpr j k v e
    have eb : (ps[j]?).getD 0 = b := by rw [e1]; rfl
    refine ⟨by simp [e1], .inl ?_⟩
    show s.heap.IsTuple ((ps[j]?).getD 0) #[k, v]
    rw [eb]
    obtain ⟨o1, g1, g2, g3, g4⟩ := e4
    exact ⟨o1, g1, g2, g3, g4⟩
  · obtain ⟨b, q', e1, e2, e3, e4, e5⟩ := hpr i k v e
    exact ⟨q'.1, by rw [e2, ← e3], e5⟩
  · have hm : (s.heap.objs.size == sysModules) = false := beq_eq_false_iff_ne.mpr (Nat.ne_of_gt I.big)
    have hlen : (mergeK [] kvs).length ≤ sizeLine := by
      refine Nat.le_trans (length_mergeK kvs []) ?_
      rw [List.length_nil, Nat.zero_add, rel.length, hl]
      exact hz
    exact ⟨.ref s.heap.objs.size, upd H s.heap.objs.size (.dK (mergeK [] kvs)), I.laid (t' := tk) (fun b o e => k b o (by simp) e) (Nat.le_refl _) (show ObjOk X.prog X.w _ _ _ (.dK (mergeK [] kvs)) from ⟨hlen, hm, merged [] prs, KV.merge rel .nil, hd'⟩), rfl, q _ (I.hok.fresh (Nat.le_refl _))⟩
theorem cDictP : CaA K (rDictP (K := K)) gDictP := by
  intro m S H xs v S' us Q R ru e q
  unfold gDictP at e
  split at e
  · split at e
    · next vs kvs ek =>
      cases e
      obtain ⟨u, rfl, r1⟩ := ru.one_of
      cases r1 with
      | ptu ha hd rx =>
        obtain ⟨ps, ys, rfl, hp, hk⟩ := pairsK_ok _ _ _ rx ek
        exact ⟨_, _, ps, ys, rfl, ha, hd, hp, newDic R (hk.merge .nil) q⟩
    · cases e
  · cases e
end
section
variable {ρ : Rho} {S : Sto} {f : EF} {ga : AF} {Q : Val → Sto → Prop} {x : Val}
theorem wUnp (h : Wp (f ρ S) fun v S1 => Q (unp v) S1) : Wp (eUnp f ρ S) Q := by
  obtain ⟨v, S1, e, q⟩ := h
  exact ⟨unp v, S1, by unfold eUnp; rw [e]; rfl, q⟩
theorem vTupP {n : Nat} {vs : List Val} (hx : x = .ref n) (h : S[n]? = some (.lst vs)) (q : Q (.ptu vs) S) : Wp (gTupP [x] S) Q := by subst hx; exact ⟨_, S, by simp only [gTupP, h], q⟩
theorem vDictP {vs : List Val} {kvs : List (Key × Val)} (hx : x = .ptu vs) (hk : pairsK vs = some kvs) (q : Nw S (.dic (mergeA [] kvs)) Q) : Wp (gDictP [x] S) Q := by subst hx; exact ⟨_, _, by simp only [gDictP, hk], q.use⟩
end
end AL
namespace K63
open PySem PySem.Spec PyProof.Rows L2 G Th AL
open K57 (feedL_ feedL_B drawL_ drawL_B keyL_ keyL_B endsL_ endsL_B)
open K62 (ring_from_ ring_from_B follow_ring_ follow_ring_B)
open K67 (follows_of_ follows_of_B)
noncomputable def ringL_B : SF := (sSeq (sAsg (.nm 1) (eCall gDictP (aCons (eV 0) aNil)))
    (sSeq (sFor (.tp [(.nm 2), (.nm 3)]) (iSeq (eUnp (eV 0))) (sSeq (sAsg (.nm 4) (eLst (aCons (eV 2) aNil)))
    (sSeq (sWhile (eT (eB (gIn true) (eGet2 (eV 1) (eB gIxA (eV 4) (eU gNeg (eC (.int 1)))) (eV 2)) (eV 4))) (sExpr (eMt isL gApp (eV 4) (aCons (eB gIxA (eV 1) (eB gIxA (eV 4) (eU gNeg (eC (.int 1))))) aNil))))
    (sIf (bAnd (eT (eB (gIn false) (eB gIxA (eV 4) (eU gNeg (eC (.int 1)))) (eV 1))) (eT (eB gEq (eB gIxA (eV 1) (eB gIxA (eV 4) (eU gNeg (eC (.int 1))))) (eV 2)))) (sRet (eCall gTuple (aCons (eV 4) aNil))) sNil))))
    (sRet (eC .non))))
noncomputable def ringL_ : FA := runF 5 ringL_B
end K63
namespace K70
open PySem PySem.Spec PyProof.Rows L2 G Th AL
open K57 (other_ends_ other_ends_B own_best_ own_best_B row_behind_ row_behind_B state_round_ state_round_B feedL_ feedL_B drawL_ drawL_B keyL_ keyL_B endsL_ endsL_B turnedL_ turnedL_B)
open K56 (first_state_ first_state_B row_up_ row_up_B state_up_ state_up_B)
open K58 (NetRun_state_now_ NetRun_state_now_B NetRun_init_ NetRun_init_B NetRun_go_round_ NetRun_go_round_B NetRun_set_up_ NetRun_set_up_B NetRun_set_wire_ NetRun_set_wire_B)
open K60 (near_names_ near_names_B own_keys_ own_keys_B steps_from_ steps_from_B pieces_of_ pieces_of_B nearer_ nearer_B tree_paper_ tree_paper_B farL_ farL_B)
open K62 (ring_from_ ring_from_B follow_ring_ follow_ring_B)
open K65 (ghosts_of_ ghosts_of_B rounds_to_halt_ rounds_to_halt_B)
open K67 (follows_of_ follows_of_B)
open K63 (ringL_ ringL_B)
noncomputable def lineL_B : SF := (sSeq (sAsg (.nm 2) (eSl gSlA (eLst (aCons (eC (.str "a")) (aCons (eC (.str "ab")) (aCons (eC (.str "b")) (aCons (eC (.str "c")) (aCons (eC (.str "d")) (aCons (eC (.str "yy")) (aCons (eC (.str "z")) (aCons (eC (.str "zzzzzzzz")) aNil))))))))) oN (oS (eV 0))))
    (sSeq (sAsg (.nm 3) (eLc (.nm 4) (iRg1 (aCons (eB gSub (eV 0) (eC (.int 1))) aNil)) bYes (eTup (aCons (eB gIxA (eV 2) (eV 4)) (aCons (eB gIxA (eV 2) (eB gAdd (eV 4) (eC (.int 1)))) aNil))) [4]))
    (sSeq (sIf (eT (eV 1)) (sExpr (eMt isL gApp (eV 3) (aCons (eTup (aCons (eB gIxA (eV 2) (eC (.int 0))) (aCons (eB gIxA (eV 2) (eU gNeg (eC (.int 1)))) aNil))) aNil))) sNil)
    (sRet (eTup (aCons (eCall gTuple (aCons (eLc (.nm 5) (iSeq (eV 2)) bYes (eTup (aCons (eV 5) (aCons (eC (.int 0)) (aCons (eC (.int 0)) aNil)))) [5]) aNil)) (aCons (eCall gTuple (aCons (eCall gSortedG (aCons (eV 3) aNil)) aNil)) aNil)))))))
noncomputable def lineL_ : FA := runF 6 lineL_B
noncomputable def rightL_B : SF := (sSeq (sAsg (.nm 4) (eCall gTuple (aCons (eLc (.nm 12) (iSeq (eV 2)) (eT (eB gIsN (eB gIxA (eV 12) (eC (.int 1))) (eC .non))) (eB gIxA (eV 12) (eC (.int 0))) [12]) aNil)))
    (sSeq (sAsg (.nm 5) (eCall gDict (aCons (eLc (.nm 13) (iSeq (eB gIxA (eV 0) (eC (.int 0)))) bYes (eTup (aCons (eB gIxA (eV 13) (eC (.int 0))) (aCons (eDef keyL_ 1 (aCons (eV 13) aNil)) aNil))) [13]) aNil)))
    (sSeq (sAsg (.nm 6) (eLst aNil))
    (sSeq (sFor (.tp [(.nm 9), (.nm 10), (.nm 11)]) (iSeq (eV 2)) (sIf (bAnd (eT (eB gIsN (eV 10) (eC .non))) (eT (eB (gInD true) (eB gIxA (eV 10) (eC (.int 0))) (eLc (.nm 14) (iDic (eDef farL_ 3 (aCons (eV 4) (aCons (eV 3) (aCons (eV 9) aNil))))) bYes (eB gIxA (eV 5) (eV 14)) [14])))) (sExpr (eMt isL gApp (eV 6) (aCons (eTup (aCons (eV 9) (aCons (eB gIxA (eV 10) (eC (.int 0))) aNil))) aNil))) sNil))
    (sSeq (sAsg (.nm 7) (eCall gTupP (aCons (eLc (.tp [(.nm 9), (.nm 10), (.nm 11)]) (iSeq (eV 2)) (bAnd (eT (eB gIsN (eV 10) (eC .non))) (eT (eB gNe (eB gIxA (eV 10) (eC (.int 2))) (eV 9)))) (eTup (aCons (eV 9) (aCons (eB gIxA (eV 10) (eC (.int 2))) aNil))) [9, 10, 11]) aNil)))
    (sSeq (sAsg (.nm 8) (eLst (aCons (eMe "NetRun" "state_now" NetRun_state_now_ 1 (eV 1) aNil) (aCons (eDefK ghosts_of_ 3 0 (fun as _ => as ++ []) (aCons (eV 0) (aCons (eMe "NetRun" "state_now" NetRun_state_now_ 1 (eV 1) aNil) (aCons (eV 3) aNil))) aNil) (aCons (eDef follows_of_ 1 (aCons (eMe "NetRun" "state_now" NetRun_state_now_ 1 (eV 1) aNil) aNil)) aNil)))))
    (sSeq (sIf (eT (eB gNe (eCall gRepr (aCons (eV 8) aNil)) (eCall gRepr (aCons (eLst (aCons (eV 2) (aCons (eCall gTuple (aCons (eV 6) aNil)) (aCons (eUnp (eV 7)) aNil)))) aNil)))) (sRet (eC (.bl false))) sNil)
    (sRet (eB gEq (eCall gRepr (aCons (eDef follow_ring_ 1 (aCons (eDef follows_of_ 1 (aCons (eMe "NetRun" "state_now" NetRun_state_now_ 1 (eV 1) aNil) aNil)) aNil)) aNil)) (eCall gRepr (aCons (eDef ringL_ 1 (aCons (eV 7) aNil)) aNil)))))))))))
noncomputable def rightL_ : FA := runF 15 rightL_B
noncomputable def law_B : SF := (sSeq (sAsg (.nm 1) (eDef feedL_ 1 (aCons (eV 0) aNil)))
    (sSeq (sPar [5, 6, 7] (aCons (eB gAddT (eC (.int 3)) (eDef drawL_ 2 (aCons (eV 1) (aCons (eC (.int 6)) aNil)))) (aCons (eB gAddT (eC (.int 3)) (eDef drawL_ 2 (aCons (eV 1) (aCons (eC (.int 7)) aNil)))) (aCons (eDef drawL_ 2 (aCons (eV 1) (aCons (eC (.int 5)) aNil))) aNil))))
    (sSeq (sAsg (.nm 2) (eDef lineL_ 2 (aCons (eV 5) (aCons (eB gEq (eDef drawL_ 2 (aCons (eV 1) (aCons (eC (.int 2)) aNil))) (eC (.int 0))) aNil))))
    (sSeq (sAsg (.tp [(.nm 8), (.nm 9)]) (eTup (aCons (eMkK "NetRun" NetRun_init_ 1 2 (fun as bs => as ++ bs) (aCons (eV 2) aNil) (aCons (eV 6) (aCons (eV 7) aNil))) (aCons (eCall gTuple (aCons (eLc (.nm 16) (iSeq (eB gIxA (eV 2) (eC (.int 0)))) bYes (eTup (aCons (eB gIxA (eV 16) (eC (.int 0))) (aCons (eTup (aCons (eDef keyL_ 1 (aCons (eV 16) aNil)) (aCons (eC (.int 0)) (aCons (eB gIxA (eV 16) (eC (.int 0))) aNil)))) (aCons (eTup aNil) aNil)))) [16]) aNil)) aNil))))
    (sSeq (sFor (.nm 3) (iRg1 (aCons (eV 5) aNil)) (sSeq (sExpr (eMe "NetRun" "go_round" NetRun_go_round_ 1 (eV 8) aNil))
    (sAsg (.nm 9) (eDef turnedL_ 5 (aCons (eV 2) (aCons (eV 9) (aCons (eB gIxA (eV 2) (eC (.int 1))) (aCons (eV 6) (aCons (eV 7) aNil)))))))))
    (sSeq (sPar [10, 11] (aCons (eB gIxA (eV 2) (eC (.int 1))) (aCons (eDef drawL_ 2 (aCons (eV 1) (aCons (eC (.int 3)) aNil))) aNil)))
    (sSeq (sIf (eT (eB gGt (eV 11) (eC (.int 0)))) (sSeq (sExpr (eMe "NetRun" "set_up" (noX NetRun_set_up_) 3 (eV 8) (aCons (eC (.str "a")) (aCons (eC (.bl false)) aNil))))
    (sAsg (.nm 9) (eB gAddT (eTup (aCons (eTup (aCons (eC (.str "a")) (aCons (eC .non) (aCons (eTup aNil) aNil)))) aNil)) (eSl gSlA (eV 9) (oS (eC (.int 1))) oN)))) sNil)
    (sSeq (sIf (eT (eB gNe (eV 11) (eC (.int 1)))) (sSeq (sAsg (.nm 12) (eB gIxA (eV 10) (eDef drawL_ 2 (aCons (eV 1) (aCons (eCall gLen (aCons (eV 10) aNil)) aNil)))))
    (sSeq (sExpr (eMe "NetRun" "set_wire" (noX NetRun_set_wire_) 4 (eV 8) (aCons (eB gIxA (eV 12) (eC (.int 1))) (aCons (eB gIxA (eV 12) (eC (.int 0))) (aCons (eC (.bl false)) aNil)))))
    (sAsg (.nm 10) (eCall gTuple (aCons (eLc (.nm 17) (iSeq (eV 10)) (eT (eB gNe (eV 17) (eV 12))) (eV 17) [17]) aNil))))) sNil)
    (sSeq (sIf (bOr (bNot (eT (eDef rightL_ 4 (aCons (eV 2) (aCons (eV 8) (aCons (eV 9) (aCons (eV 10) aNil))))))) (bAnd (eT (eB gGt (eV 11) (eC (.int 0)))) (eT (eB gEq (eDefK ghosts_of_ 3 0 (fun as _ => as ++ []) (aCons (eV 2) (aCons (eV 9) (aCons (eV 10) aNil))) aNil) (eTup aNil))))) (sRet (eC (.bl false))) sNil)
    (sSeq (sAsg (.nm 4) (eCall gTuple (aCons (eLc (.nm 15) (iSeq (eV 9)) (eT (eB gIsN (eB gIxA (eV 15) (eC (.int 1))) (eC .non))) (eB gIxA (eV 15) (eC (.int 0))) [15]) aNil)))
    (sSeq (sFor (.nm 3) (iRg1 (aCons (eB gAdd (eDefK rounds_to_halt_ 3 2 (fun as bs => as ++ bs) (aCons (eV 2) (aCons (eV 4) (aCons (eV 10) aNil))) (aCons (eV 6) (aCons (eV 7) aNil))) (eC (.int 2))) aNil)) (sSeq (sAsg (.nm 13) (eLc (.nm 15) (iSeq (eV 9)) bYes (eB gIxA (eV 15) (eC (.int 1))) [15]))
    (sSeq (sAsg (.nm 9) (eDef turnedL_ 5 (aCons (eV 2) (aCons (eV 9) (aCons (eV 10) (aCons (eV 6) (aCons (eV 7) aNil)))))))
    (sSeq (sAsg (.nm 14) (eCall gLen (aCons (eLc (.nm 18) (iRg1 (aCons (eV 5) aNil)) (eT (eB gNe (eB gIxA (eV 13) (eV 18)) (eB gIxA (eB gIxA (eV 9) (eV 18)) (eC (.int 1))))) (eV 18) [18]) aNil)))
    (sIf (bOr (eT (eB gNe (eMe "NetRun" "go_round" NetRun_go_round_ 1 (eV 8) aNil) (eV 14))) (bNot (eT (eDef rightL_ 4 (aCons (eV 2) (aCons (eV 8) (aCons (eV 9) (aCons (eV 10) aNil)))))))) (sRet (eC (.bl false))) sNil)))))
    (sRet (eB gEq (eDefK ghosts_of_ 3 0 (fun as _ => as ++ []) (aCons (eV 2) (aCons (eV 9) (aCons (eV 10) aNil))) aNil) (eTup aNil))))))))))))))
noncomputable def law_ : FA := runF 19 law_B
end K70
namespace K70
open PySem PySem.Spec PyProof.Rows L2 G Th AL
open K57 (other_ends_ other_ends_B own_best_ own_best_B row_behind_ row_behind_B state_round_ state_round_B feedL_ feedL_B drawL_ drawL_B keyL_ keyL_B endsL_ endsL_B turnedL_ turnedL_B)
open K56 (first_state_ first_state_B row_up_ row_up_B state_up_ state_up_B)
open K58 (NetRun_state_now_ NetRun_state_now_B NetRun_init_ NetRun_init_B NetRun_go_round_ NetRun_go_round_B NetRun_set_up_ NetRun_set_up_B NetRun_set_wire_ NetRun_set_wire_B)
open K60 (near_names_ near_names_B own_keys_ own_keys_B steps_from_ steps_from_B pieces_of_ pieces_of_B nearer_ nearer_B tree_paper_ tree_paper_B farL_ farL_B)
open K62 (ring_from_ ring_from_B follow_ring_ follow_ring_B)
open K65 (ghosts_of_ ghosts_of_B rounds_to_halt_ rounds_to_halt_B)
open K67 (follows_of_ follows_of_B)
open K63 (ringL_ ringL_B)
def topS (i : Nat) : Stmt := PySem.Challenge.pw_ledclocks_k70_rings_and_ghosts_there.main.body.getD i (.Pass ⟨0, 0, 0, 0⟩)
section
variable {P : Program} {w : World} {K : PySem.W.Frag} {mg : Str → Option Value} {base : Heap}
variable [AL.TT]
def ss_i_NoHouse : {s : Stmt // (clsB (topS 3)).getD 0 (.Pass ⟨0, 0, 0, 0⟩) = s} := by
  refine ⟨?l, ?h⟩
  case h =>
    conv => lhs; whnf
abbrev st_i_NoHouse : Stmt := ss_i_NoHouse.1
theorem sc_i_NoHouse : FnScope ["self", "name"] ["self", "name"] (defScope st_i_NoHouse) := ⟨rfl, rfl, rfl, by decide +kernel, rfl, by decide +kernel, by decide +kernel⟩
theorem kn_NoHouse {C fI : Addr} {fd : FuncData} (T : OexL K C) (iC : PySem.W.findIn K (.ref C) "__init__" = some (some (.ref fI))) (tI : PySem.W.typeIn K (.ref fI) = some (.type "function")) (hm : mg "NoHouse" = some (.ref C)) (F : Fun K "__init__" "NoHouse.__init__" st_i_NoHouse fI fd) (hb : Binds K fd ["self", "name"] []) (n0 : PySem.W.findIn K (.ref C) "name" = some none) : KnX P w K mg base "NoHouse" :=
  ⟨C, fI, fd, T, iC, tI, hm, .inl ⟨"name", rfl, init1 F sc_i_NoHouse T n0 rfl (by first | exact Or.inl rfl | exact Or.inr (Or.inl rfl) | exact Or.inr (Or.inr rfl)) (by first | exact Or.inl rfl | exact Or.inr (Or.inl rfl) | exact Or.inr (Or.inr rfl)) (by decide) (by decide), hb⟩⟩
def ss_i_NoLink : {s : Stmt // (clsB (topS 4)).getD 0 (.Pass ⟨0, 0, 0, 0⟩) = s} := by
  refine ⟨?l, ?h⟩
  case h =>
    conv => lhs; whnf
abbrev st_i_NoLink : Stmt := ss_i_NoLink.1
theorem sc_i_NoLink : FnScope ["self", "number"] ["self", "number"] (defScope st_i_NoLink) := ⟨rfl, rfl, rfl, by decide +kernel, rfl, by decide +kernel, by decide +kernel⟩
theorem kn_NoLink {C fI : Addr} {fd : FuncData} (T : OexL K C) (iC : PySem.W.findIn K (.ref C) "__init__" = some (some (.ref fI))) (tI : PySem.W.typeIn K (.ref fI) = some (.type "function")) (hm : mg "NoLink" = some (.ref C)) (F : Fun K "__init__" "NoLink.__init__" st_i_NoLink fI fd) (hb : Binds K fd ["self", "number"] []) (n0 : PySem.W.findIn K (.ref C) "number" = some none) : KnX P w K mg base "NoLink" :=
  ⟨C, fI, fd, T, iC, tI, hm, .inl ⟨"number", rfl, init1 F sc_i_NoLink T n0 rfl (by first | exact Or.inl rfl | exact Or.inr (Or.inl rfl) | exact Or.inr (Or.inr rfl)) (by first | exact Or.inl rfl | exact Or.inr (Or.inl rfl) | exact Or.inr (Or.inr rfl)) (by decide) (by decide), hb⟩⟩
def ss_other_ends_ : {s : Stmt // topS 6 = s} := by
  refine ⟨?l, ?h⟩
  case h =>
    conv => lhs; whnf
abbrev st_other_ends_ : Stmt := ss_other_ends_.1
abbrev sc_other_ends_N : List Str := ["wires", "name", "one", "other"]
abbrev sc_other_ends_S : Scope := defScope st_other_ends_
theorem sc_other_ends_ : FnScope ["wires", "name", "one", "other"] ["wires", "name"] (defScope st_other_ends_) := ⟨rfl, rfl, rfl, by decide +kernel, rfl, by decide +kernel, by decide +kernel⟩
theorem ok_other_ends_ {f : Addr} {fd : FuncData} (F : Fun K "other_ends" "other_ends" st_other_ends_ f fd) (hb : Binds K fd ["wires", "name"] []) (hm : mg "other_ends" = some (.ref f)) : Def P w K mg base 1 "other_ends" ["wires", "name"] other_ends_ :=
  fn_a F sc_other_ends_ hb hm (g := other_ends_B) fun cdv A outer s H E hg hr => (as1 (asr (alc (own := [("one", 2), ("other", 3)]) rfl sc_other_ends_.nd (ais (av 0)) (blkOk_by (own := [("one", 2), ("other", 3)]) (N := sc_other_ends_N) (sc := sc_other_ends_S) (by decide +kernel)) (by simp [Pat.slots, Pat.slotss]) (fun _ _ _ _ _ => (agt rfl (agl (agn (i := 2) sc_other_ends_.nd rfl (.inl rfl)) (agl (agn (i := 3) sc_other_ends_.nd rfl (.inl rfl)) agl0)))) (fun _ _ _ _ _ => (pts_one (atin (hu_of hr) (av 1) (atup (aac (av 2) (aac (av 3) aan)))))) (fun _ _ _ _ _ => (aif (atc (op_eqA hr.units) oEq (av 2) (av 1) (nomark _)) (av 3) (av 2))))))
def ss_own_best_ : {s : Stmt // topS 7 = s} := by
  refine ⟨?l, ?h⟩
  case h =>
    conv => lhs; whnf
abbrev st_own_best_ : Stmt := ss_own_best_.1
theorem sc_own_best_ : FnScope ["member", "name", "priority", "rank"] ["member"] (defScope st_own_best_) := ⟨rfl, rfl, rfl, by decide +kernel, rfl, by decide +kernel, by decide +kernel⟩
theorem ok_own_best_ {f : Addr} {fd : FuncData} (F : Fun K "own_best" "own_best" st_own_best_ f fd) (hb : Binds K fd ["member"] []) (hm : mg "own_best" = some (.ref f)) : Def P w K mg base 1 "own_best" ["member"] own_best_ :=
  fn_a F sc_own_best_ hb hm (g := own_best_B) fun cdv A outer s H E hg hr => (asq (asa (av 0) (agt rfl (agl (agn (i := 1) sc_own_best_.nd rfl (.inl rfl)) (agl (agn (i := 2) sc_own_best_.nd rfl (.inl rfl)) (agl (agn (i := 3) sc_own_best_.nd rfl (.inl rfl)) agl0)))))
    (as1 (asr (atup (aac (atup (aac (av 2) (aac (av 3) (aac (av 1) aan)))) (aac ai (aac (av 1) aan)))))))
def ss_first_state_ : {s : Stmt // topS 8 = s} := by
  refine ⟨?l, ?h⟩
  case h =>
    conv => lhs; whnf
abbrev st_first_state_ : Stmt := ss_first_state_.1
abbrev sc_first_state_N : List Str := ["net", "member"]
abbrev sc_first_state_S : Scope := defScope st_first_state_
theorem sc_first_state_ : FnScope ["net", "member"] ["net"] (defScope st_first_state_) := ⟨rfl, rfl, rfl, by decide +kernel, rfl, by decide +kernel, by decide +kernel⟩
theorem ok_first_state_ {f : Addr} {fd : FuncData} (F : Fun K "first_state" "first_state" st_first_state_ f fd) (hb : Binds K fd ["net"] []) (hm : mg "first_state" = some (.ref f)) (d_own_best_ : Def P w K mg base 1 "own_best" ["member"] own_best_) (m_tuple : mg "tuple" = none) : Def P w K mg base 2 "first_state" ["net"] first_state_ :=
  fn_a F sc_first_state_ hb hm (g := first_state_B) fun cdv A outer s H E hg hr => (as1 (asr (act call_tuple_of cTuple (by rfl) m_tuple (by decide +kernel) (aac (alc (own := [("member", 1)]) rfl sc_first_state_.nd (ais (aixA (hu_of hr) (av 0) ai (fun _ _ => rfl) (fun _ _ => rfl))) (blkOk_by (own := [("member", 1)]) (N := sc_first_state_N) (sc := sc_first_state_S) (by decide +kernel)) (by simp [Pat.slots, Pat.slotss]) (fun _ _ _ _ _ => (agn (i := 1) sc_first_state_.nd rfl (.inl rfl))) (fun _ _ _ _ _ => ats0) (fun _ _ _ _ _ => (atup (aac (aixA (hu_of hr) (av 1) ai (fun _ _ => rfl) (fun _ _ => rfl)) (aac (acd d_own_best_ hg (hr.mono (by decide)) (by rfl) (aac (av 1) aan)) (aac (atup aan) aan)))))) aan))))
def ss_row_up_ : {s : Stmt // topS 10 = s} := by
  refine ⟨?l, ?h⟩
  case h =>
    conv => lhs; whnf
abbrev st_row_up_ : Stmt := ss_row_up_.1
theorem sc_row_up_ : FnScope ["member", "row", "truth"] ["member", "row", "truth"] (defScope st_row_up_) := ⟨rfl, rfl, rfl, by decide +kernel, rfl, by decide +kernel, by decide +kernel⟩
theorem ok_row_up_ {f : Addr} {fd : FuncData} (F : Fun K "row_up" "row_up" st_row_up_ f fd) (hb : Binds K fd ["member", "row", "truth"] []) (hm : mg "row_up" = some (.ref f)) (d_own_best_ : Def P w K mg base 1 "own_best" ["member"] own_best_) : Def P w K mg base 2 "row_up" ["member", "row", "truth"] row_up_ :=
  fn_a F sc_row_up_ hb hm (g := row_up_B) fun cdv A outer s H E hg hr => (asq (asi (atc (op_eqA hr.units) oEq (av 2) (acm op_notN oIsN (aixA (hu_of hr) (av 1) ai (fun _ _ => rfl) (fun _ _ => rfl)) an (nomark _)) (nomark _)) (as1 (asr (av 1))) asn)
    (as1 (asr (atup (aac (aixA (hu_of hr) (av 0) ai (fun _ _ => rfl) (fun _ _ => rfl)) (aac (aif (atv (av 2)) (acd d_own_best_ hg (hr.mono (by decide)) (by rfl) (aac (av 0) aan)) an) (aac (atup aan) aan)))))))
def ss_state_up_ : {s : Stmt // topS 9 = s} := by
  refine ⟨?l, ?h⟩
  case h =>
    conv => lhs; whnf
abbrev st_state_up_ : Stmt := ss_state_up_.1
abbrev sc_state_up_N : List Str := ["net", "state", "name", "truth", "member", "row"]
abbrev sc_state_up_S : Scope := defScope st_state_up_
theorem sc_state_up_ : FnScope ["net", "state", "name", "truth", "member", "row"] ["net", "state", "name", "truth"] (defScope st_state_up_) := ⟨rfl, rfl, rfl, by decide +kernel, rfl, by decide +kernel, by decide +kernel⟩
theorem ok_state_up_ {f : Addr} {fd : FuncData} (F : Fun K "state_up" "state_up" st_state_up_ f fd) (hb : Binds K fd ["net", "state", "name", "truth"] []) (hm : mg "state_up" = some (.ref f)) (d_row_up_ : Def P w K mg base 2 "row_up" ["member", "row", "truth"] row_up_) (x_NoHouse : KnX P w K mg base "NoHouse") (m_tuple : mg "tuple" = none) (m_zip : mg "zip" = none) : DefX P w K mg base 3 "state_up" ["net", "state", "name", "truth"] state_up_ :=
  ⟨f, fd, fn_aX F sc_state_up_ (g := state_up_B) fun cdv A outer s H Ek hg hr tk pw => (xsq (xsi (atnin (hu_of hr) (av 2) (alc (own := [("member", 4)]) rfl sc_state_up_.nd (ais (aixA (hu_of hr) (av 0) ai (fun _ _ => rfl) (fun _ _ => rfl))) (blkOk_by (own := [("member", 4)]) (N := sc_state_up_N) (sc := sc_state_up_S) (by decide +kernel)) (by simp [Pat.slots, Pat.slotss]) (fun _ _ _ _ _ => (agn (i := 4) sc_state_up_.nd rfl (.inl rfl))) (fun _ _ _ _ _ => ats0) (fun _ _ _ _ _ => (aixA (hu_of hr) (av 4) ai (fun _ _ => rfl) (fun _ _ => rfl))))) (xs1 (asraise tk x_NoHouse (hr.mono (by decide)) rfl (by rfl) (aac (av 2) aan))) xsn)
    (xs1 (xsr (act call_tuple_of cTuple (by rfl) m_tuple (by decide +kernel) (aac (alc (own := [("member", 4), ("row", 5)]) rfl sc_state_up_.nd (aiz (by rfl) m_zip (aac (aixA (hu_of hr) (av 0) ai (fun _ _ => rfl) (fun _ _ => rfl)) (aac (av 1) aan))) (blkOk_by (own := [("member", 4), ("row", 5)]) (N := sc_state_up_N) (sc := sc_state_up_S) (by decide +kernel)) (by simp [Pat.slots, Pat.slotss]) (fun _ _ _ _ _ => (agt rfl (agl (agn (i := 4) sc_state_up_.nd rfl (.inl rfl)) (agl (agn (i := 5) sc_state_up_.nd rfl (.inl rfl)) agl0)))) (fun _ _ _ _ _ => ats0) (fun _ _ _ _ _ => (aif (atc (op_eqA hr.units) oEq (aixA (hu_of hr) (av 5) ai (fun _ _ => rfl) (fun _ _ => rfl)) (av 2) (nomark _)) (acd d_row_up_ hg (hr.mono (by decide)) (by rfl) (aac (av 4) (aac (av 5) (aac (av 3) aan)))) (av 5)))) aan))))), hb, hm, F.kp⟩
def ss_near_names_ : {s : Stmt // topS 12 = s} := by
  refine ⟨?l, ?h⟩
  case h =>
    conv => lhs; whnf
abbrev st_near_names_ : Stmt := ss_near_names_.1
abbrev sc_near_names_N : List Str := ["net", "up", "wires", "carrying", "near", "name", "end"]
abbrev sc_near_names_S : Scope := defScope st_near_names_
theorem sc_near_names_ : FnScope ["net", "up", "wires", "carrying", "near", "name", "end"] ["net", "up", "wires"] (defScope st_near_names_) := ⟨rfl, rfl, rfl, by decide +kernel, rfl, by decide +kernel, by decide +kernel⟩
theorem ok_near_names_ {f : Addr} {fd : FuncData} (F : Fun K "near_names" "near_names" st_near_names_ f fd) (hb : Binds K fd ["net", "up", "wires"] []) (hm : mg "near_names" = some (.ref f)) (d_other_ends_ : Def P w K mg base 1 "other_ends" ["wires", "name"] other_ends_) : Def P w K mg base 2 "near_names" ["net", "up", "wires"] near_names_ :=
  fn_a F sc_near_names_ hb hm (g := near_names_B) fun cdv A outer s H E hg hr => (asq (ass (i := 3) sc_near_names_.nd rfl (.inl rfl) (aif (atc op_isN oIs (av 2) an (nomark _)) (aixA (hu_of hr) (av 0) ai (fun _ _ => rfl) (fun _ _ => rfl)) (av 2)))
    (asq (ass (i := 4) sc_near_names_.nd rfl (.inl rfl) adic)
    (asq (asf PassesOwn.never rfl (ais (av 1)) (agn (i := 5) sc_near_names_.nd rfl (.inl rfl)) (as1 (asuA (hu_of hr) (alc (own := [("end", 6)]) rfl sc_near_names_.nd (ais (acd d_other_ends_ hg (hr.mono (by decide)) (by rfl) (aac (av 3) (aac (av 5) aan)))) (blkOk_by (own := [("end", 6)]) (N := sc_near_names_N) (sc := sc_near_names_S) (by decide +kernel)) (by simp [Pat.slots, Pat.slotss]) (fun _ _ _ _ _ => (agn (i := 6) sc_near_names_.nd rfl (.inl rfl))) (fun _ _ _ _ _ => (pts_one (atin (hu_of hr) (av 6) (av 1)))) (fun _ _ _ _ _ => (av 6))) (av 4) (av 5))))
    (as1 (asr (av 4))))))
def ss_own_keys_ : {s : Stmt // topS 13 = s} := by
  refine ⟨?l, ?h⟩
  case h =>
    conv => lhs; whnf
abbrev st_own_keys_ : Stmt := ss_own_keys_.1
abbrev sc_own_keys_N : List Str := ["net", "member"]
abbrev sc_own_keys_S : Scope := defScope st_own_keys_
theorem sc_own_keys_ : FnScope ["net", "member"] ["net"] (defScope st_own_keys_) := ⟨rfl, rfl, rfl, by decide +kernel, rfl, by decide +kernel, by decide +kernel⟩
theorem ok_own_keys_ {f : Addr} {fd : FuncData} (F : Fun K "own_keys" "own_keys" st_own_keys_ f fd) (hb : Binds K fd ["net"] []) (hm : mg "own_keys" = some (.ref f)) (d_own_best_ : Def P w K mg base 1 "own_best" ["member"] own_best_) : Def P w K mg base 2 "own_keys" ["net"] own_keys_ :=
  fn_a F sc_own_keys_ hb hm (g := own_keys_B) fun cdv A outer s H E hg hr => (as1 (asr (adc (own := [("member", 1)]) rfl sc_own_keys_.nd (ais (aixA (hu_of hr) (av 0) ai (fun _ _ => rfl) (fun _ _ => rfl))) (blkOk_by (own := [("member", 1)]) (N := sc_own_keys_N) (sc := sc_own_keys_S) (by decide +kernel)) (by simp [Pat.slots, Pat.slotss]) (fun _ _ _ _ _ => (agn (i := 1) sc_own_keys_.nd rfl (.inl rfl))) (fun _ _ _ _ _ => ats0) (fun _ _ _ _ _ => (aixA (hu_of hr) (av 1) ai (fun _ _ => rfl) (fun _ _ => rfl))) (fun _ _ _ _ _ => (aixA (hu_of hr) (acd d_own_best_ hg (hr.mono (by decide)) (by rfl) (aac (av 1) aan)) ai (fun _ _ => rfl) (fun _ _ => rfl))))))
def ss_steps_from_ : {s : Stmt // topS 15 = s} := by
  refine ⟨?l, ?h⟩
  case h =>
    conv => lhs; whnf
abbrev st_steps_from_ : Stmt := ss_steps_from_.1
theorem sc_steps_from_ : FnScope ["near", "start", "steps", "waiting", "at", "end"] ["near", "start"] (defScope st_steps_from_) := ⟨rfl, rfl, rfl, by decide +kernel, rfl, by decide +kernel, by decide +kernel⟩
theorem ok_steps_from_ {f : Addr} {fd : FuncData} (F : Fun K "steps_from" "steps_from" st_steps_from_ f fd) (hb : Binds K fd ["near", "start"] []) (hm : mg "steps_from" = some (.ref f)) (m_len : mg "len" = none) : Def P w K mg base 1 "steps_from" ["near", "start"] steps_from_ :=
  fn_a F sc_steps_from_ hb hm (g := steps_from_B) fun cdv A outer s H E hg hr => (asq (ass (i := 2) sc_steps_from_.nd rfl (.inl rfl) (adsp (adp1 (av 1) ai adp0)))
    (asq (ass (i := 3) sc_steps_from_.nd rfl (.inl rfl) (alst (aac (av 1) aan)))
    (asq (asw PassesOwn.never (atc op_gt oGt (acb call_lenA cLen (by rfl) m_len PySem.boot_len (aac (av 3) aan)) ai (nomark _)) (asq (ass (i := 4) sc_steps_from_.nd rfl (.inl rfl) (am PySem.F.plainAttrs_list PySem.F.slot_list_pop PySem.F.type_list_pop mt_popAt mPop tyL (av 3) (aac ai aan)))
    (as1 (asf PassesOwn.never rfl (ais (aixA (hu_of hr) (av 0) (av 4) (fun _ _ => rfl) (fun _ _ => rfl))) (agn (i := 5) sc_steps_from_.nd rfl (.inl rfl)) (as1 (asi (atnin (hu_of hr) (av 5) (av 2)) (asq (asuA (hu_of hr) (aop op_addA oAdd (aixA (hu_of hr) (av 2) (av 4) (fun _ _ => rfl) (fun _ _ => rfl)) ai) (av 2) (av 5))
    (as1 (asx (am PySem.F.plainAttrs_list PySem.F.slot_list_append PySem.F.type_list_append mt_append mApp tyL (av 3) (aac (av 5) aan))))) asn))))))
    (as1 (asr (av 2))))))
def ss_pieces_of_ : {s : Stmt // topS 14 = s} := by
  refine ⟨?l, ?h⟩
  case h =>
    conv => lhs; whnf
abbrev st_pieces_of_ : Stmt := ss_pieces_of_.1
abbrev sc_pieces_of_N : List Str := ["net", "up", "wires", "near", "placed", "pieces", "name", "piece", "each"]
abbrev sc_pieces_of_S : Scope := defScope st_pieces_of_
theorem sc_pieces_of_ : FnScope ["net", "up", "wires", "near", "placed", "pieces", "name", "piece", "each"] ["net", "up", "wires"] (defScope st_pieces_of_) := ⟨rfl, rfl, rfl, by decide +kernel, rfl, by decide +kernel, by decide +kernel⟩
theorem ok_pieces_of_ {f : Addr} {fd : FuncData} (F : Fun K "pieces_of" "pieces_of" st_pieces_of_ f fd) (hb : Binds K fd ["net", "up", "wires"] []) (hm : mg "pieces_of" = some (.ref f)) (d_near_names_ : Def P w K mg base 2 "near_names" ["net", "up", "wires"] near_names_) (d_steps_from_ : Def P w K mg base 1 "steps_from" ["near", "start"] steps_from_) (m_tuple : mg "tuple" = none) (m_sorted : mg "sorted" = none) (m_list : mg "list" = none) : Def P w K mg base 3 "pieces_of" ["net", "up", "wires"] pieces_of_ :=
  fn_a F sc_pieces_of_ hb hm (g := pieces_of_B) fun cdv A outer s H E hg hr => (asq (ass (i := 3) sc_pieces_of_.nd rfl (.inl rfl) (acd d_near_names_ hg (hr.mono (by decide)) (by rfl) (aac (av 0) (aac (av 1) (aac (av 2) aan)))))
    (asq (ass (i := 4) sc_pieces_of_.nd rfl (.inl rfl) adic)
    (asq (ass (i := 5) sc_pieces_of_.nd rfl (.inl rfl) (alst aan))
    (asq (asf PassesOwn.never rfl (ais (av 1)) (agn (i := 6) sc_pieces_of_.nd rfl (.inl rfl)) (as1 (asi (atnin (hu_of hr) (av 6) (av 4)) (asq (ass (i := 7) sc_pieces_of_.nd rfl (.inl rfl) (act call_tuple_of cTuple (by rfl) m_tuple (by decide +kernel) (aac (acb (call_sortedG rfl hr.units) cSortedG (by rfl) m_sorted (by decide +kernel) (aac (act (call_listB rfl) cListB (by rfl) m_list (by decide +kernel) (aac (acd d_steps_from_ hg (hr.mono (by decide)) (by rfl) (aac (av 3) (aac (av 6) aan))) aan)) aan)) aan)))
    (asq (asx (am PySem.F.plainAttrs_list PySem.F.slot_list_append PySem.F.type_list_append mt_append mApp tyL (av 5) (aac (av 7) aan)))
    (as1 (asx (am PySem.F.plainAttrs_dict PySem.F.slot_dict_update PySem.F.type_dict_update mt_dupd mUpd tyD (av 4) (aac (adc (own := [("each", 8)]) rfl sc_pieces_of_.nd (ais (av 7)) (blkOk_by (own := [("each", 8)]) (N := sc_pieces_of_N) (sc := sc_pieces_of_S) (by decide +kernel)) (by simp [Pat.slots, Pat.slotss]) (fun _ _ _ _ _ => (agn (i := 8) sc_pieces_of_.nd rfl (.inl rfl))) (fun _ _ _ _ _ => ats0) (fun _ _ _ _ _ => (av 8)) (fun _ _ _ _ _ => abl)) aan)))))) asn)))
    (as1 (asr (act call_tuple_of cTuple (by rfl) m_tuple (by decide +kernel) (aac (av 5) aan))))))))
def ss_nearer_ : {s : Stmt // topS 17 = s} := by
  refine ⟨?l, ?h⟩
  case h =>
    conv => lhs; whnf
abbrev st_nearer_ : Stmt := ss_nearer_.1
abbrev sc_nearer_N : List Str := ["near", "steps", "name", "end"]
abbrev sc_nearer_S : Scope := defScope st_nearer_
theorem sc_nearer_ : FnScope ["near", "steps", "name", "end"] ["near", "steps", "name"] (defScope st_nearer_) := ⟨rfl, rfl, rfl, by decide +kernel, rfl, by decide +kernel, by decide +kernel⟩
theorem ok_nearer_ {f : Addr} {fd : FuncData} (F : Fun K "nearer" "nearer" st_nearer_ f fd) (hb : Binds K fd ["near", "steps", "name"] []) (hm : mg "nearer" = some (.ref f)) (m_min : mg "min" = none) : Def P w K mg base 1 "nearer" ["near", "steps", "name"] nearer_ :=
  fn_a F sc_nearer_ hb hm (g := nearer_B) fun cdv A outer s H E hg hr => (asq (asi (atc (op_eqA hr.units) oEq (aixA (hu_of hr) (av 1) (av 2) (fun _ _ => rfl) (fun _ _ => rfl)) ai (nomark _)) (as1 (asr (av 2))) asn)
    (as1 (asr (acb (call_minG rfl hr.units) cMinG (by rfl) m_min (by decide +kernel) (aac (alc (own := [("end", 3)]) rfl sc_nearer_.nd (ais (aixA (hu_of hr) (av 0) (av 2) (fun _ _ => rfl) (fun _ _ => rfl))) (blkOk_by (own := [("end", 3)]) (N := sc_nearer_N) (sc := sc_nearer_S) (by decide +kernel)) (by simp [Pat.slots, Pat.slotss]) (fun _ _ _ _ _ => (agn (i := 3) sc_nearer_.nd rfl (.inl rfl))) (fun _ _ _ _ _ => (pts_one (atc (op_eqA hr.units) oEq (aixA (hu_of hr) (av 1) (av 3) (fun _ _ => rfl) (fun _ _ => rfl)) (aop op_sub oSub (aixA (hu_of hr) (av 1) (av 2) (fun _ _ => rfl) (fun _ _ => rfl)) ai) (nomark _)))) (fun _ _ _ _ _ => (av 3))) aan)))))
def ss_tree_paper_ : {s : Stmt // topS 16 = s} := by
  refine ⟨?l, ?h⟩
  case h =>
    conv => lhs; whnf
abbrev st_tree_paper_ : Stmt := ss_tree_paper_.1
abbrev sc_tree_paper_N : List Str := ["net", "up", "wires", "keys", "near", "rows", "piece", "key", "steps", "name"]
abbrev sc_tree_paper_S : Scope := defScope st_tree_paper_
theorem sc_tree_paper_ : FnScope ["net", "up", "wires", "keys", "near", "rows", "piece", "key", "steps", "name"] ["net", "up", "wires"] (defScope st_tree_paper_) := ⟨rfl, rfl, rfl, by decide +kernel, rfl, by decide +kernel, by decide +kernel⟩
theorem ok_tree_paper_ {f : Addr} {fd : FuncData} (F : Fun K "tree_paper" "tree_paper" st_tree_paper_ f fd) (hb : Binds K fd ["net", "up", "wires"] []) (hm : mg "tree_paper" = some (.ref f)) (d_own_keys_ : Def P w K mg base 2 "own_keys" ["net"] own_keys_) (d_near_names_ : Def P w K mg base 2 "near_names" ["net", "up", "wires"] near_names_) (d_pieces_of_ : Def P w K mg base 3 "pieces_of" ["net", "up", "wires"] pieces_of_) (d_steps_from_ : Def P w K mg base 1 "steps_from" ["near", "start"] steps_from_) (d_nearer_ : Def P w K mg base 1 "nearer" ["near", "steps", "name"] nearer_) (m_tuple : mg "tuple" = none) (m_min : mg "min" = none) (m_sorted : mg "sorted" = none) : Def P w K mg base 4 "tree_paper" ["net", "up", "wires"] tree_paper_ :=
  fn_a F sc_tree_paper_ hb hm (g := tree_paper_B) fun cdv A outer s H E hg hr => (asq (ass (i := 3) sc_tree_paper_.nd rfl (.inr rfl) (acd d_own_keys_ hg (hr.mono (by decide)) (by rfl) (aac (av 0) aan)))
    (asq (ass (i := 4) sc_tree_paper_.nd rfl (.inr rfl) (acd d_near_names_ hg (hr.mono (by decide)) (by rfl) (aac (av 0) (aac (av 1) (aac (av 2) aan)))))
    (asq (ass (i := 5) sc_tree_paper_.nd rfl (.inl rfl) (alst aan))
    (asq (asf PassesOwn.never rfl (ais (acd d_pieces_of_ hg (hr.mono (by decide)) (by rfl) (aac (av 0) (aac (av 1) (aac (av 2) aan))))) (agn (i := 6) sc_tree_paper_.nd rfl (.inl rfl)) (asq (ass (i := 7) sc_tree_paper_.nd rfl (.inr rfl) (acb (call_minG rfl hr.units) cMinG (by rfl) m_min (by decide +kernel) (aac (alc (own := [("name", 9)]) rfl sc_tree_paper_.nd (ais (av 6)) (blkOk_by (own := [("name", 9)]) (N := sc_tree_paper_N) (sc := sc_tree_paper_S) (by decide +kernel)) (by simp [Pat.slots, Pat.slotss]) (fun _ _ _ _ _ => (agn (i := 9) sc_tree_paper_.nd rfl (.inl rfl))) (fun _ _ _ _ _ => ats0) (fun _ _ _ _ _ => (aixA (hu_of hr) (av 3) (av 9) (fun _ _ => rfl) (fun _ _ => rfl)))) aan)))
    (asq (ass (i := 8) sc_tree_paper_.nd rfl (.inr rfl) (acd d_steps_from_ hg (hr.mono (by decide)) (by rfl) (aac (av 4) (aac (aixA (hu_of hr) (av 7) ai (fun _ _ => rfl) (fun _ _ => rfl)) aan))))
    (as1 (asx (am PySem.F.plainAttrs_list PySem.F.slot_list_extend PySem.F.type_list_extend mt_extend mExt tyL (av 5) (aac (alc (own := [("name", 9)]) rfl sc_tree_paper_.nd (ais (av 6)) (blkOk_by (own := [("name", 9)]) (N := sc_tree_paper_N) (sc := sc_tree_paper_S) (by decide +kernel)) (by simp [Pat.slots, Pat.slotss]) (fun _ _ _ _ _ => (agn (i := 9) sc_tree_paper_.nd rfl (.inl rfl))) (fun _ _ _ _ _ => ats0) (fun _ _ _ _ _ => (atup (aac (av 9) (aac (av 7) (aac (aixA (hu_of hr) (av 8) (av 9) (fun _ _ => rfl) (fun _ _ => rfl)) (aac (acd d_nearer_ hg (hr.mono (by decide)) (by rfl) (aac (av 4) (aac (av 8) (aac (av 9) aan)))) aan))))))) aan)))))))
    (as1 (asr (act call_tuple_of cTuple (by rfl) m_tuple (by decide +kernel) (aac (acb (call_sortedG rfl hr.units) cSortedG (by rfl) m_sorted (by decide +kernel) (aac (av 5) aan)) aan))))))))
def ss_ghosts_of_ : {s : Stmt // topS 19 = s} := by
  refine ⟨?l, ?h⟩
  case h =>
    conv => lhs; whnf
abbrev st_ghosts_of_ : Stmt := ss_ghosts_of_.1
abbrev sc_ghosts_of_N : List Str := ["net", "state", "wires", "bests", "keys", "ghosts", "piece", "own", "name", "best", "heard"]
abbrev sc_ghosts_of_S : Scope := defScope st_ghosts_of_
theorem sc_ghosts_of_ : FnScope ["net", "state", "wires", "bests", "keys", "ghosts", "piece", "own", "name", "best", "heard"] ["net", "state", "wires"] (defScope st_ghosts_of_) := ⟨rfl, rfl, rfl, by decide +kernel, rfl, by decide +kernel, by decide +kernel⟩
theorem ok_ghosts_of_ {f : Addr} {fd : FuncData} (F : FunW K "ghosts_of" "ghosts_of" st_ghosts_of_ f fd) (d_own_keys_ : Def P w K mg base 2 "own_keys" ["net"] own_keys_) (d_pieces_of_ : Def P w K mg base 3 "pieces_of" ["net", "up", "wires"] pieces_of_) (m_tuple : mg "tuple" = none) (m_sorted : mg "sorted" = none) (m_list : mg "list" = none) : FnG P w K mg base 4 f fd ["net", "state", "wires"] (spA K 3 ghosts_of_) :=
  fn_aFW F sc_ghosts_of_ (g := ghosts_of_B) fun cdv A outer s H E hg hr => (asq (ass (i := 3) sc_ghosts_of_.nd rfl (.inr rfl) (adc (own := [("name", 8), ("best", 9), ("heard", 10)]) rfl sc_ghosts_of_.nd (ais (av 1)) (blkOk_by (own := [("name", 8), ("best", 9), ("heard", 10)]) (N := sc_ghosts_of_N) (sc := sc_ghosts_of_S) (by decide +kernel)) (by simp [Pat.slots, Pat.slotss]) (fun _ _ _ _ _ => (agt rfl (agl (agn (i := 8) sc_ghosts_of_.nd rfl (.inl rfl)) (agl (agn (i := 9) sc_ghosts_of_.nd rfl (.inl rfl)) (agl (agn (i := 10) sc_ghosts_of_.nd rfl (.inl rfl)) agl0))))) (fun _ _ _ _ _ => (pts_one (atc op_notN oIsN (av 9) an (nomark _)))) (fun _ _ _ _ _ => (av 8)) (fun _ _ _ _ _ => (av 9))))
    (asq (ass (i := 4) sc_ghosts_of_.nd rfl (.inr rfl) (acd d_own_keys_ hg (hr.mono (by decide)) (by rfl) (aac (av 0) aan)))
    (asq (ass (i := 5) sc_ghosts_of_.nd rfl (.inl rfl) (alst aan))
    (asq (asf PassesOwn.never rfl (ais (acd d_pieces_of_ hg (hr.mono (by decide)) (by rfl) (aac (av 0) (aac (act call_tuple_of cTuple (by rfl) m_tuple (by decide +kernel) (aac (acb (call_sortedG rfl hr.units) cSortedG (by rfl) m_sorted (by decide +kernel) (aac (act (call_listB rfl) cListB (by rfl) m_list (by decide +kernel) (aac (av 3) aan)) aan)) aan)) (aac (av 2) aan))))) (agn (i := 6) sc_ghosts_of_.nd rfl (.inl rfl)) (asq (ass (i := 7) sc_ghosts_of_.nd rfl (.inr rfl) (alc (own := [("name", 8)]) rfl sc_ghosts_of_.nd (ais (av 6)) (blkOk_by (own := [("name", 8)]) (N := sc_ghosts_of_N) (sc := sc_ghosts_of_S) (by decide +kernel)) (by simp [Pat.slots, Pat.slotss]) (fun _ _ _ _ _ => (agn (i := 8) sc_ghosts_of_.nd rfl (.inl rfl))) (fun _ _ _ _ _ => ats0) (fun _ _ _ _ _ => (aixA (hu_of hr) (av 4) (av 8) (fun _ _ => rfl) (fun _ _ => rfl)))))
    (as1 (asx (am PySem.F.plainAttrs_list PySem.F.slot_list_extend PySem.F.type_list_extend mt_extend mExt tyL (av 5) (aac (alc (own := [("name", 8)]) rfl sc_ghosts_of_.nd (ais (av 6)) (blkOk_by (own := [("name", 8)]) (N := sc_ghosts_of_N) (sc := sc_ghosts_of_S) (by decide +kernel)) (by simp [Pat.slots, Pat.slotss]) (fun _ _ _ _ _ => (agn (i := 8) sc_ghosts_of_.nd rfl (.inl rfl))) (fun _ _ _ _ _ => (pts_one (atc (op_notInD (hu65 hr)) oNInD (aixA (hu_of hr) (aixA (hu_of hr) (av 3) (av 8) (fun _ _ => rfl) (fun _ _ => rfl)) ai (fun _ _ => rfl) (fun _ _ => rfl)) (av 7) (by rfl)))) (fun _ _ _ _ _ => (atup (aac (av 8) (aac (aixA (hu_of hr) (aixA (hu_of hr) (av 3) (av 8) (fun _ _ => rfl) (fun _ _ => rfl)) ai (fun _ _ => rfl) (fun _ _ => rfl)) aan))))) aan))))))
    (as1 (asr (act call_tuple_of cTuple (by rfl) m_tuple (by decide +kernel) (aac (acb (call_sortedG rfl hr.units) cSortedG (by rfl) m_sorted (by decide +kernel) (aac (av 5) aan)) aan))))))))
def ss_rounds_to_halt_ : {s : Stmt // topS 20 = s} := by
  refine ⟨?l, ?h⟩
  case h =>
    conv => lhs; whnf
abbrev st_rounds_to_halt_ : Stmt := ss_rounds_to_halt_.1
abbrev sc_rounds_to_halt_N : List Str := ["net", "up", "wires", "most", "age", "steps", "row", "each"]
abbrev sc_rounds_to_halt_S : Scope := defScope st_rounds_to_halt_
theorem sc_rounds_to_halt_ : FnScope ["net", "up", "wires", "most", "age", "steps", "row", "each"] ["net", "up", "wires", "most", "age"] (defScope st_rounds_to_halt_) := ⟨rfl, rfl, rfl, by decide +kernel, rfl, by decide +kernel, by decide +kernel⟩
theorem ok_rounds_to_halt_ {f : Addr} {fd : FuncData} (F : Fun K "rounds_to_halt" "rounds_to_halt" st_rounds_to_halt_ f fd) (d_tree_paper_ : Def P w K mg base 4 "tree_paper" ["net", "up", "wires"] tree_paper_) (m_max : mg "max" = none) : FnG P w K mg base 5 f fd ["net", "up", "wires", "most", "age"] (spA K 5 rounds_to_halt_) :=
  fn_aF F sc_rounds_to_halt_ (g := rounds_to_halt_B) fun cdv A outer s H E hg hr => (asq (aslc (own := [("row", 6)]) (i := 5) rfl sc_rounds_to_halt_.nd rfl rfl (sw_true rfl rfl rfl (by decide +kernel)) (ais (acd d_tree_paper_ hg (hr.mono (by decide)) (by rfl) (aac (av 0) (aac (av 1) (aac (av 2) aan))))) (blkOk_by (own := [("row", 6)]) (N := sc_rounds_to_halt_N) (sc := sc_rounds_to_halt_S) (by decide +kernel)) (by simp [Pat.slots, Pat.slotss]) (fun _ _ _ _ _ => (agn (i := 6) sc_rounds_to_halt_.nd rfl (.inl rfl))) (fun _ _ _ _ _ => ats0) (fun _ _ _ _ _ => (aixA (hu_of hr) (av 6) ai (fun _ _ => rfl) (fun _ _ => rfl))))
    (as1 (asr (aop op_addA oAdd (aop op_addA oAdd (aop op_addA oAdd (av 3) (av 4)) ai) (acb (call_maxB rfl) cMaxB (by rfl) m_max (by decide +kernel) (aac (aop op_addA oAdd (alc (own := [("each", 7)]) rfl sc_rounds_to_halt_.nd (ais (av 5)) (blkOk_by (own := [("each", 7)]) (N := sc_rounds_to_halt_N) (sc := sc_rounds_to_halt_S) (by decide +kernel)) (by simp [Pat.slots, Pat.slotss]) (fun _ _ _ _ _ => (agn (i := 7) sc_rounds_to_halt_.nd rfl (.inl rfl))) (fun _ _ _ _ _ => (pts_one (atc op_le oLe (av 7) (av 3) (nomark _)))) (fun _ _ _ _ _ => (av 7))) (alst (aac ai aan))) aan))))))
def ss_follows_of_ : {s : Stmt // topS 22 = s} := by
  refine ⟨?l, ?h⟩
  case h =>
    conv => lhs; whnf
abbrev st_follows_of_ : Stmt := ss_follows_of_.1
abbrev sc_follows_of_N : List Str := ["state", "name", "best", "heard"]
abbrev sc_follows_of_S : Scope := defScope st_follows_of_
theorem sc_follows_of_ : FnScope ["state", "name", "best", "heard"] ["state"] (defScope st_follows_of_) := ⟨rfl, rfl, rfl, by decide +kernel, rfl, by decide +kernel, by decide +kernel⟩
theorem ok_follows_of_ {f : Addr} {fd : FuncData} (F : Fun K "follows_of" "follows_of" st_follows_of_ f fd) (hb : Binds K fd ["state"] []) (hm : mg "follows_of" = some (.ref f)) (m_tuple : mg "tuple" = none) : Def P w K mg base 1 "follows_of" ["state"] follows_of_ :=
  fn_a F sc_follows_of_ hb hm (g := follows_of_B) fun cdv A outer s H E hg hr => (as1 (asr (act call_tuple_of cTuple (by rfl) m_tuple (by decide +kernel) (aac (alc (own := [("name", 1), ("best", 2), ("heard", 3)]) rfl sc_follows_of_.nd (ais (av 0)) (blkOk_by (own := [("name", 1), ("best", 2), ("heard", 3)]) (N := sc_follows_of_N) (sc := sc_follows_of_S) (by decide +kernel)) (by simp [Pat.slots, Pat.slotss]) (fun _ _ _ _ _ => (agt rfl (agl (agn (i := 1) sc_follows_of_.nd rfl (.inl rfl)) (agl (agn (i := 2) sc_follows_of_.nd rfl (.inl rfl)) (agl (agn (i := 3) sc_follows_of_.nd rfl (.inl rfl)) agl0))))) (fun _ _ _ _ _ => (pts_one (atw (aw (atc op_notN oIsN (av 2) an (nomark _)) (aw1 (atc (op_neA hr.units) oNe (aixA (hu_of hr) (av 2) ai (fun _ _ => rfl) (fun _ _ => rfl)) (av 1) (nomark _))))))) (fun _ _ _ _ _ => (atup (aac (av 1) (aac (aixA (hu_of hr) (av 2) ai (fun _ _ => rfl) (fun _ _ => rfl)) aan))))) aan))))
def ss_ring_from_ : {s : Stmt // topS 24 = s} := by
  refine ⟨?l, ?h⟩
  case h =>
    conv => lhs; whnf
abbrev st_ring_from_ : Stmt := ss_ring_from_.1
theorem sc_ring_from_ : FnScope ["leads", "name", "ring", "who"] ["leads", "name"] (defScope st_ring_from_) := ⟨rfl, rfl, rfl, by decide +kernel, rfl, by decide +kernel, by decide +kernel⟩
theorem ok_ring_from_ {f : Addr} {fd : FuncData} (F : Fun K "ring_from" "ring_from" st_ring_from_ f fd) (hb : Binds K fd ["leads", "name"] []) (hm : mg "ring_from" = some (.ref f)) (m_len : mg "len" = none) (m_tuple : mg "tuple" = none) : Def P w K mg base 1 "ring_from" ["leads", "name"] ring_from_ :=
  fn_a F sc_ring_from_ hb hm (g := ring_from_B) fun cdv A outer s H E hg hr => (asq (ass (i := 2) sc_ring_from_.nd rfl (.inl rfl) (alst (aac (av 1) aan)))
    (asq (asw PassesOwn.never (atc op_le oLe (acb call_lenA cLen (by rfl) m_len PySem.boot_len (aac (av 2) aan)) (acb call_lenA cLen (by rfl) m_len PySem.boot_len (aac (av 0) aan)) (nomark _)) (asq (ass (i := 3) sc_ring_from_.nd rfl (.inl rfl) (aget1 (hu_of hr) (av 0) (aixA (hu_of hr) (av 2) (aun un_neg oNeg ai) (fun _ _ => rfl) (fun _ _ => rfl)) ⟨rfl, rfl, rfl, rfl⟩))
    (asq (asi (atc op_isN oIs (av 3) an (nomark _)) (as1 (asr an)) asn)
    (asq (asi (atc (op_eqA hr.units) oEq (av 3) (av 1) (nomark _)) (as1 (asr (act call_tuple_of cTuple (by rfl) m_tuple (by decide +kernel) (aac (av 2) aan)))) asn)
    (as1 (asx (am PySem.F.plainAttrs_list PySem.F.slot_list_append PySem.F.type_list_append mt_append mApp tyL (av 2) (aac (av 3) aan))))))))
    (as1 (asr an))))
def ss_follow_ring_ : {s : Stmt // topS 23 = s} := by
  refine ⟨?l, ?h⟩
  case h =>
    conv => lhs; whnf
abbrev st_follow_ring_ : Stmt := ss_follow_ring_.1
abbrev sc_follow_ring_N : List Str := ["pairs", "leads", "name", "who", "ring"]
abbrev sc_follow_ring_S : Scope := defScope st_follow_ring_
theorem sc_follow_ring_ : FnScope ["pairs", "leads", "name", "who", "ring"] ["pairs"] (defScope st_follow_ring_) := ⟨rfl, rfl, rfl, by decide +kernel, rfl, by decide +kernel, by decide +kernel⟩
theorem ok_follow_ring_ {f : Addr} {fd : FuncData} (F : Fun K "follow_ring" "follow_ring" st_follow_ring_ f fd) (hb : Binds K fd ["pairs"] []) (hm : mg "follow_ring" = some (.ref f)) (d_ring_from_ : Def P w K mg base 1 "ring_from" ["leads", "name"] ring_from_) : Def P w K mg base 2 "follow_ring" ["pairs"] follow_ring_ :=
  fn_a F sc_follow_ring_ hb hm (g := follow_ring_B) fun cdv A outer s H E hg hr => (asq (asdc (own := [("name", 2), ("who", 3)]) (i := 1) rfl sc_follow_ring_.nd rfl rfl (sw_dc rfl rfl rfl (by decide +kernel)) (ais (av 0)) (blkOk_by (own := [("name", 2), ("who", 3)]) (N := sc_follow_ring_N) (sc := sc_follow_ring_S) (by decide +kernel)) (by simp [Pat.slots, Pat.slotss]) (fun _ _ _ _ _ => (agt rfl (agl (agn (i := 2) sc_follow_ring_.nd rfl (.inl rfl)) (agl (agn (i := 3) sc_follow_ring_.nd rfl (.inl rfl)) agl0)))) (fun _ _ _ _ _ => ats0) (fun _ _ _ _ _ => (av 2)) (fun _ _ _ _ _ => (av 3)))
    (asq (asf PassesOwn.never rfl (ais (av 0)) (agt rfl (agl (agn (i := 2) sc_follow_ring_.nd rfl (.inl rfl)) (agl (agn (i := 3) sc_follow_ring_.nd rfl (.inl rfl)) agl0))) (asq (ass (i := 4) sc_follow_ring_.nd rfl (.inl rfl) (acd d_ring_from_ hg (hr.mono (by decide)) (by rfl) (aac (av 1) (aac (av 2) aan))))
    (as1 (asi (atc op_notN oIsN (av 4) an (nomark _)) (as1 (asr (av 4))) asn))))
    (as1 (asr an))))
def ss_row_behind_ : {s : Stmt // topS 27 = s} := by
  refine ⟨?l, ?h⟩
  case h =>
    conv => lhs; whnf
abbrev st_row_behind_ : Stmt := ss_row_behind_.1
abbrev sc_row_behind_N : List Str := ["member", "fresh", "heard", "most", "age", "ends", "kept", "heard_now", "offers", "row", "who", "key", "steps", "old"]
abbrev sc_row_behind_S : Scope := defScope st_row_behind_
theorem sc_row_behind_ : FnScope ["member", "fresh", "heard", "most", "age", "ends", "kept", "heard_now", "offers", "row", "who", "key", "steps", "old"] ["member", "fresh", "heard", "most", "age"] (defScope st_row_behind_) := ⟨rfl, rfl, rfl, by decide +kernel, rfl, by decide +kernel, by decide +kernel⟩
theorem ok_row_behind_ {f : Addr} {fd : FuncData} (F : Fun K "row_behind" "row_behind" st_row_behind_ f fd) (hb : Binds K fd ["member", "fresh", "heard", "most", "age"] []) (hm : mg "row_behind" = some (.ref f)) (d_own_best_ : Def P w K mg base 1 "own_best" ["member"] own_best_) (m_tuple : mg "tuple" = none) (m_sorted : mg "sorted" = none) (m_min : mg "min" = none) : Def P w K mg base 2 "row_behind" ["member", "fresh", "heard", "most", "age"] row_behind_ :=
  fn_a F sc_row_behind_ hb hm (g := row_behind_B) fun cdv A outer s H E hg hr => (asq (ass (i := 5) sc_row_behind_.nd rfl (.inr rfl) (alc (own := [("row", 9)]) rfl sc_row_behind_.nd (ais (av 1)) (blkOk_by (own := [("row", 9)]) (N := sc_row_behind_N) (sc := sc_row_behind_S) (by decide +kernel)) (by simp [Pat.slots, Pat.slotss]) (fun _ _ _ _ _ => (agn (i := 9) sc_row_behind_.nd rfl (.inl rfl))) (fun _ _ _ _ _ => ats0) (fun _ _ _ _ _ => (aixA (hu_of hr) (av 9) ai (fun _ _ => rfl) (fun _ _ => rfl)))))
    (asq (aslc (own := [("who", 10), ("key", 11), ("steps", 12), ("old", 13)]) (i := 6) rfl sc_row_behind_.nd rfl rfl (sw_true rfl rfl rfl (by decide +kernel)) (ais (av 2)) (blkOk_by (own := [("who", 10), ("key", 11), ("steps", 12), ("old", 13)]) (N := sc_row_behind_N) (sc := sc_row_behind_S) (by decide +kernel)) (by simp [Pat.slots, Pat.slotss]) (fun _ _ _ _ _ => (agt rfl (agl (agn (i := 10) sc_row_behind_.nd rfl (.inl rfl)) (agl (agn (i := 11) sc_row_behind_.nd rfl (.inl rfl)) (agl (agn (i := 12) sc_row_behind_.nd rfl (.inl rfl)) (agl (agn (i := 13) sc_row_behind_.nd rfl (.inl rfl)) agl0)))))) (fun _ _ _ _ _ => (pts_one (atw (aw (atnin (hu_of hr) (av 10) (av 5)) (aw1 (atc op_lt oLt (av 13) (av 4) (nomark _))))))) (fun _ _ _ _ _ => (atup (aac (av 10) (aac (av 11) (aac (av 12) (aac (aop op_addA oAdd (av 13) ai) aan)))))))
    (asq (ass (i := 7) sc_row_behind_.nd rfl (.inl rfl) (act call_tuple_of cTuple (by rfl) m_tuple (by decide +kernel) (aac (acb (call_sortedG rfl hr.units) cSortedG (by rfl) m_sorted (by decide +kernel) (aac (aop op_addA oAdd (av 1) (av 6)) aan)) aan)))
    (asq (aslc (own := [("who", 10), ("key", 11), ("steps", 12), ("old", 13)]) (i := 8) rfl sc_row_behind_.nd rfl rfl (sw_true rfl rfl rfl (by decide +kernel)) (ais (av 7)) (blkOk_by (own := [("who", 10), ("key", 11), ("steps", 12), ("old", 13)]) (N := sc_row_behind_N) (sc := sc_row_behind_S) (by decide +kernel)) (by simp [Pat.slots, Pat.slotss]) (fun _ _ _ _ _ => (agt rfl (agl (agn (i := 10) sc_row_behind_.nd rfl (.inl rfl)) (agl (agn (i := 11) sc_row_behind_.nd rfl (.inl rfl)) (agl (agn (i := 12) sc_row_behind_.nd rfl (.inl rfl)) (agl (agn (i := 13) sc_row_behind_.nd rfl (.inl rfl)) agl0)))))) (fun _ _ _ _ _ => (pts_one (atc op_lt oLt (av 12) (av 3) (nomark _)))) (fun _ _ _ _ _ => (atup (aac (av 11) (aac (aop op_addA oAdd (av 12) ai) (aac (av 10) aan))))))
    (as1 (asr (atup (aac (aixA (hu_of hr) (av 0) ai (fun _ _ => rfl) (fun _ _ => rfl)) (aac (acb (call_minG rfl hr.units) cMinG (by rfl) m_min (by decide +kernel) (aac (aop op_addA oAdd (alst (aac (acd d_own_best_ hg (hr.mono (by decide)) (by rfl) (aac (av 0) aan)) aan)) (av 8)) aan)) (aac (av 7) aan))))))))))
def ss_state_round_ : {s : Stmt // topS 26 = s} := by
  refine ⟨?l, ?h⟩
  case h =>
    conv => lhs; whnf
abbrev st_state_round_ : Stmt := ss_state_round_.1
abbrev sc_state_round_N : List Str := ["net", "state", "wires", "most", "age", "carrying", "said", "rows", "member", "row", "ends", "fresh", "name", "best", "heard", "end"]
abbrev sc_state_round_S : Scope := defScope st_state_round_
theorem sc_state_round_ : FnScope ["net", "state", "wires", "most", "age", "carrying", "said", "rows", "member", "row", "ends", "fresh", "name", "best", "heard", "end"] ["net", "state", "wires", "most", "age"] (defScope st_state_round_) := ⟨rfl, rfl, rfl, by decide +kernel, rfl, by decide +kernel, by decide +kernel⟩
theorem ok_state_round_ {f : Addr} {fd : FuncData} (F : FunW K "state_round" "state_round" st_state_round_ f fd) (d_other_ends_ : Def P w K mg base 1 "other_ends" ["wires", "name"] other_ends_) (d_row_behind_ : Def P w K mg base 2 "row_behind" ["member", "fresh", "heard", "most", "age"] row_behind_) (m_zip : mg "zip" = none) (m_tuple : mg "tuple" = none) : FnG P w K mg base 3 f fd ["net", "state", "wires", "most", "age"] (spA K 5 state_round_) :=
  fn_aFW F sc_state_round_ (g := state_round_B) fun cdv A outer s H E hg hr => (asq (ass (i := 5) sc_state_round_.nd rfl (.inl rfl) (aif (atc op_isN oIs (av 2) an (nomark _)) (aixA (hu_of hr) (av 0) ai (fun _ _ => rfl) (fun _ _ => rfl)) (av 2)))
    (asq (ass (i := 6) sc_state_round_.nd rfl (.inr rfl) (adc (own := [("name", 12), ("best", 13), ("heard", 14)]) rfl sc_state_round_.nd (ais (av 1)) (blkOk_by (own := [("name", 12), ("best", 13), ("heard", 14)]) (N := sc_state_round_N) (sc := sc_state_round_S) (by decide +kernel)) (by simp [Pat.slots, Pat.slotss]) (fun _ _ _ _ _ => (agt rfl (agl (agn (i := 12) sc_state_round_.nd rfl (.inl rfl)) (agl (agn (i := 13) sc_state_round_.nd rfl (.inl rfl)) (agl (agn (i := 14) sc_state_round_.nd rfl (.inl rfl)) agl0))))) (fun _ _ _ _ _ => (pts_one (atc op_notN oIsN (av 13) an (nomark _)))) (fun _ _ _ _ _ => (av 12)) (fun _ _ _ _ _ => (av 13))))
    (asq (ass (i := 7) sc_state_round_.nd rfl (.inl rfl) (alst aan))
    (asq (asf PassesOwn.never rfl (aiz (by rfl) m_zip (aac (aixA (hu_of hr) (av 0) ai (fun _ _ => rfl) (fun _ _ => rfl)) (aac (av 1) aan))) (agt rfl (agl (agn (i := 8) sc_state_round_.nd rfl (.inl rfl)) (agl (agn (i := 9) sc_state_round_.nd rfl (.inl rfl)) agl0))) (asq (aslc (own := [("end", 15)]) (i := 10) rfl sc_state_round_.nd rfl rfl (sw_true rfl rfl rfl (by decide +kernel)) (ais (acd d_other_ends_ hg (hr.mono (by decide)) (by rfl) (aac (av 5) (aac (aixA (hu_of hr) (av 9) ai (fun _ _ => rfl) (fun _ _ => rfl)) aan)))) (blkOk_by (own := [("end", 15)]) (N := sc_state_round_N) (sc := sc_state_round_S) (by decide +kernel)) (by simp [Pat.slots, Pat.slotss]) (fun _ _ _ _ _ => (agn (i := 15) sc_state_round_.nd rfl (.inl rfl))) (fun _ _ _ _ _ => (pts_one (atin (hu_of hr) (av 15) (av 6)))) (fun _ _ _ _ _ => (av 15)))
    (asq (aslc (own := [("end", 15)]) (i := 11) rfl sc_state_round_.nd rfl rfl (sw_true rfl rfl rfl (by decide +kernel)) (ais (av 10)) (blkOk_by (own := [("end", 15)]) (N := sc_state_round_N) (sc := sc_state_round_S) (by decide +kernel)) (by simp [Pat.slots, Pat.slotss]) (fun _ _ _ _ _ => (agn (i := 15) sc_state_round_.nd rfl (.inl rfl))) (fun _ _ _ _ _ => ats0) (fun _ _ _ _ _ => (atup (aac (av 15) (aac (aixA (hu_of hr) (aixA (hu_of hr) (av 6) (av 15) (fun _ _ => rfl) (fun _ _ => rfl)) ai (fun _ _ => rfl) (fun _ _ => rfl)) (aac (aixA (hu_of hr) (aixA (hu_of hr) (av 6) (av 15) (fun _ _ => rfl) (fun _ _ => rfl)) ai (fun _ _ => rfl) (fun _ _ => rfl)) (aac ai aan)))))))
    (as1 (asx (am PySem.F.plainAttrs_list PySem.F.slot_list_append PySem.F.type_list_append mt_append mApp tyL (av 7) (aac (aif (atc op_isN oIs (aixA (hu_of hr) (av 9) ai (fun _ _ => rfl) (fun _ _ => rfl)) an (nomark _)) (av 9) (acd d_row_behind_ hg (hr.mono (by decide)) (by rfl) (aac (av 8) (aac (av 11) (aac (aixA (hu_of hr) (av 9) ai (fun _ _ => rfl) (fun _ _ => rfl)) (aac (av 3) (aac (av 4) aan))))))) aan)))))))
    (as1 (asr (act call_tuple_of cTuple (by rfl) m_tuple (by decide +kernel) (aac (av 7) aan))))))))
def ss_feedL_ : {s : Stmt // topS 31 = s} := by
  refine ⟨?l, ?h⟩
  case h =>
    conv => lhs; whnf
abbrev st_feedL_ : Stmt := ss_feedL_.1
theorem sc_feedL_ : FnScope ["_law_script"] ["_law_script"] (defScope st_feedL_) := ⟨rfl, rfl, rfl, by decide +kernel, rfl, by decide +kernel, by decide +kernel⟩
theorem ok_feedL_ {f : Addr} {fd : FuncData} (F : Fun K "_law_feed" "_law_feed" st_feedL_ f fd) (hb : Binds K fd ["_law_script"] []) (hm : mg "_law_feed" = some (.ref f)) (m_list : mg "list" = none) : Def P w K mg base 1 "_law_feed" ["_law_script"] feedL_ :=
  fn_a F sc_feedL_ hb hm (g := feedL_B) fun cdv A outer s H E hg hr => (as1 (asr (adsp (adp1 astr (act call_list_of cList (by rfl) m_list (by decide +kernel) (aac (asl sl_A oSl (av 0) aon (aos ai)) aan)) (adp1 astr ai (adp1 astr ai (adp1 astr ai adp0)))))))
def ss_drawL_ : {s : Stmt // topS 32 = s} := by
  refine ⟨?l, ?h⟩
  case h =>
    conv => lhs; whnf
abbrev st_drawL_ : Stmt := ss_drawL_.1
theorem sc_drawL_ : FnScope ["_law_feed_here", "_law_many", "_law_turn", "_law_at", "_law_cell", "_law_mixed", "_law_found"] ["_law_feed_here", "_law_many"] (defScope st_drawL_) := ⟨rfl, rfl, rfl, by decide +kernel, rfl, by decide +kernel, by decide +kernel⟩
theorem ok_drawL_ {f : Addr} {fd : FuncData} (F : Fun K "_law_draw" "_law_draw" st_drawL_ f fd) (hb : Binds K fd ["_law_feed_here", "_law_many"] []) (hm : mg "_law_draw" = some (.ref f)) (m_len : mg "len" = none) : Def P w K mg base 1 "_law_draw" ["_law_feed_here", "_law_many"] drawL_ :=
  fn_a F sc_drawL_ hb hm (g := drawL_B) fun cdv A outer s H E hg hr => (asq (ass (i := 2) sc_drawL_.nd rfl (.inl rfl) (aop op_addA oAdd (aixA (hu_of hr) (av 0) astr (fun _ _ => rfl) (fun _ _ => rfl)) ai))
    (asq (asuA (hu_of hr) (av 2) (av 0) astr)
    (asq (asi (atc op_gt oGt (aixA (hu_of hr) (av 0) astr (fun _ _ => rfl) (fun _ _ => rfl)) ai (nomark _)) (asq (ass (i := 6) sc_drawL_.nd rfl (.inl rfl) (aop op_modN oMod (aixA (hu_of hr) (av 0) astr (fun _ _ => rfl) (fun _ _ => rfl)) (av 1)))
    (asq (asuA (hu_of hr) (aop op_fdivW oDiv (aixA (hu_of hr) (av 0) astr (fun _ _ => rfl) (fun _ _ => rfl)) (av 1)) (av 0) astr)
    (as1 (asr (av 6))))) asn)
    (asq (ass (i := 3) sc_drawL_.nd rfl (.inl rfl) (aixA (hu_of hr) (av 0) astr (fun _ _ => rfl) (fun _ _ => rfl)))
    (asq (asuA (hu_of hr) (aop op_addA oAdd (av 3) ai) (av 0) astr)
    (asq (ass (i := 4) sc_drawL_.nd rfl (.inl rfl) ai)
    (asq (asi (atc (op_neA hr.units) oNe (aixA (hu_of hr) (av 0) astr (fun _ _ => rfl) (fun _ _ => rfl)) (alst aan) (nomark _)) (as1 (ass (i := 4) sc_drawL_.nd rfl (.inl rfl) (aixA (hu_of hr) (aixA (hu_of hr) (av 0) astr (fun _ _ => rfl) (fun _ _ => rfl)) (aop op_modN oMod (av 3) (acb call_lenA cLen (by rfl) m_len PySem.boot_len (aac (aixA (hu_of hr) (av 0) astr (fun _ _ => rfl) (fun _ _ => rfl)) aan))) (fun _ _ => rfl) (fun _ _ => rfl)))) asn)
    (asq (asi (atw (aw (atc op_ge oGe (av 4) (aop op_pow oPow ai ai) (nomark _)) (aw1 (atc op_lt oLt (av 3) (acb call_lenA cLen (by rfl) m_len PySem.boot_len (aac (aixA (hu_of hr) (av 0) astr (fun _ _ => rfl) (fun _ _ => rfl)) aan)) (nomark _))))) (asq (asuA (hu_of hr) (aop op_fdivW oDiv (av 4) (av 1)) (av 0) astr)
    (as1 (asr (aop op_modN oMod (av 4) (av 1))))) asn)
    (asq (ass (i := 5) sc_drawL_.nd rfl (.inl rfl) (aop op_modN oMod (aop op_pow oPow (aop op_addA oAdd (aop op_addA oAdd (aop op_modN oMod (av 4) ai) (aop op_mulW oMul ai (av 2))) ai) ai) ai))
    (asq (ass (i := 5) sc_drawL_.nd rfl (.inl rfl) (aop op_modN oMod (aop op_pow oPow (aop op_addA oAdd (av 5) (aop op_mulW oMul ai (av 2))) ai) ai))
    (as1 (asr (aop op_modN oMod (aop op_fdivW oDiv (av 5) ai) (av 1))))))))))))))
def ss_keyL_ : {s : Stmt // topS 33 = s} := by
  refine ⟨?l, ?h⟩
  case h =>
    conv => lhs; whnf
abbrev st_keyL_ : Stmt := ss_keyL_.1
theorem sc_keyL_ : FnScope ["_law_member"] ["_law_member"] (defScope st_keyL_) := ⟨rfl, rfl, rfl, by decide +kernel, rfl, by decide +kernel, by decide +kernel⟩
theorem ok_keyL_ {f : Addr} {fd : FuncData} (F : Fun K "_law_key" "_law_key" st_keyL_ f fd) (hb : Binds K fd ["_law_member"] []) (hm : mg "_law_key" = some (.ref f)) : Def P w K mg base 1 "_law_key" ["_law_member"] keyL_ :=
  fn_a F sc_keyL_ hb hm (g := keyL_B) fun cdv A outer s H E hg hr => (as1 (asr (atup (aac (aixA (hu_of hr) (av 0) ai (fun _ _ => rfl) (fun _ _ => rfl)) (aac (aixA (hu_of hr) (av 0) ai (fun _ _ => rfl) (fun _ _ => rfl)) (aac (aixA (hu_of hr) (av 0) ai (fun _ _ => rfl) (fun _ _ => rfl)) aan))))))
def ss_endsL_ : {s : Stmt // topS 34 = s} := by
  refine ⟨?l, ?h⟩
  case h =>
    conv => lhs; whnf
abbrev st_endsL_ : Stmt := ss_endsL_.1
abbrev sc_endsL_N : List Str := ["_law_wires", "_law_name", "_law_found", "_law_one", "_law_other"]
abbrev sc_endsL_S : Scope := defScope st_endsL_
theorem sc_endsL_ : FnScope ["_law_wires", "_law_name", "_law_found", "_law_one", "_law_other"] ["_law_wires", "_law_name"] (defScope st_endsL_) := ⟨rfl, rfl, rfl, by decide +kernel, rfl, by decide +kernel, by decide +kernel⟩
theorem ok_endsL_ {f : Addr} {fd : FuncData} (F : Fun K "_law_ends" "_law_ends" st_endsL_ f fd) (hb : Binds K fd ["_law_wires", "_law_name"] []) (hm : mg "_law_ends" = some (.ref f)) (m_sorted : mg "sorted" = none) : Def P w K mg base 1 "_law_ends" ["_law_wires", "_law_name"] endsL_ :=
  fn_a F sc_endsL_ hb hm (g := endsL_B) fun cdv A outer s H E hg hr => (asq (ass (i := 2) sc_endsL_.nd rfl (.inl rfl) (aop op_addA oAdd (alc (own := [("_law_one", 3), ("_law_other", 4)]) rfl sc_endsL_.nd (ais (av 0)) (blkOk_by (own := [("_law_one", 3), ("_law_other", 4)]) (N := sc_endsL_N) (sc := sc_endsL_S) (by decide +kernel)) (by simp [Pat.slots, Pat.slotss]) (fun _ _ _ _ _ => (agt rfl (agl (agn (i := 3) sc_endsL_.nd rfl (.inl rfl)) (agl (agn (i := 4) sc_endsL_.nd rfl (.inl rfl)) agl0)))) (fun _ _ _ _ _ => (pts_one (atc (op_eqA hr.units) oEq (av 4) (av 1) (nomark _)))) (fun _ _ _ _ _ => (av 3))) (alc (own := [("_law_one", 3), ("_law_other", 4)]) rfl sc_endsL_.nd (ais (av 0)) (blkOk_by (own := [("_law_one", 3), ("_law_other", 4)]) (N := sc_endsL_N) (sc := sc_endsL_S) (by decide +kernel)) (by simp [Pat.slots, Pat.slotss]) (fun _ _ _ _ _ => (agt rfl (agl (agn (i := 3) sc_endsL_.nd rfl (.inl rfl)) (agl (agn (i := 4) sc_endsL_.nd rfl (.inl rfl)) agl0)))) (fun _ _ _ _ _ => (pts_one (atc (op_eqA hr.units) oEq (av 3) (av 1) (nomark _)))) (fun _ _ _ _ _ => (av 4)))))
    (as1 (asr (acb (call_sortedG rfl hr.units) cSortedG (by rfl) m_sorted (by decide +kernel) (aac (av 2) aan)))))
def ss_turnedL_ : {s : Stmt // topS 35 = s} := by
  refine ⟨?l, ?h⟩
  case h =>
    conv => lhs; whnf
abbrev st_turnedL_ : Stmt := ss_turnedL_.1
abbrev sc_turnedL_N : List Str := ["_law_net", "_law_state", "_law_wires", "_law_limit", "_law_span", "_law_bests", "_law_found", "_law_k", "_law_name", "_law_best", "_law_heard", "_law_kept", "_law_end", "_law_who", "_law_key_here", "_law_steps", "_law_old"]
abbrev sc_turnedL_S : Scope := defScope st_turnedL_
theorem sc_turnedL_ : FnScope ["_law_net", "_law_state", "_law_wires", "_law_limit", "_law_span", "_law_bests", "_law_found", "_law_k", "_law_name", "_law_best", "_law_heard", "_law_kept", "_law_end", "_law_who", "_law_key_here", "_law_steps", "_law_old"] ["_law_net", "_law_state", "_law_wires", "_law_limit", "_law_span"] (defScope st_turnedL_) := ⟨rfl, rfl, rfl, by decide +kernel, rfl, by decide +kernel, by decide +kernel⟩
theorem ok_turnedL_ {f : Addr} {fd : FuncData} (F : Fun K "_law_turned" "_law_turned" st_turnedL_ f fd) (hb : Binds K fd ["_law_net", "_law_state", "_law_wires", "_law_limit", "_law_span"] []) (hm : mg "_law_turned" = some (.ref f)) (d_endsL_ : Def P w K mg base 1 "_law_ends" ["_law_wires", "_law_name"] endsL_) (d_keyL_ : Def P w K mg base 1 "_law_key" ["_law_member"] keyL_) (m_dict : mg "dict" = none) (m_range : mg "range" = none) (m_tuple : mg "tuple" = none) (m_len : mg "len" = none) (m_sorted : mg "sorted" = none) : Def P w K mg base 2 "_law_turned" ["_law_net", "_law_state", "_law_wires", "_law_limit", "_law_span"] turnedL_ :=
  fn_a F sc_turnedL_ hb hm (g := turnedL_B) fun cdv A outer s H E hg hr => (asq (ass (i := 5) sc_turnedL_.nd rfl (.inl rfl) (act (call_dictP rfl) cDict (by rfl) m_dict (by decide +kernel) (aac (alc (own := [("_law_name", 8), ("_law_best", 9), ("_law_heard", 10)]) rfl sc_turnedL_.nd (ais (av 1)) (blkOk_by (own := [("_law_name", 8), ("_law_best", 9), ("_law_heard", 10)]) (N := sc_turnedL_N) (sc := sc_turnedL_S) (by decide +kernel)) (by simp [Pat.slots, Pat.slotss]) (fun _ _ _ _ _ => (agt rfl (agl (agn (i := 8) sc_turnedL_.nd rfl (.inl rfl)) (agl (agn (i := 9) sc_turnedL_.nd rfl (.inl rfl)) (agl (agn (i := 10) sc_turnedL_.nd rfl (.inl rfl)) agl0))))) (fun _ _ _ _ _ => ats0) (fun _ _ _ _ _ => (atup (aac (av 8) (aac (av 9) aan))))) aan)))
    (asq (ass (i := 6) sc_turnedL_.nd rfl (.inl rfl) (alst aan))
    (asq (asf PassesOwn.never rfl (air1 (by rfl) m_range (aac (acb call_lenA cLen (by rfl) m_len PySem.boot_len (aac (aixA (hu_of hr) (av 0) ai (fun _ _ => rfl) (fun _ _ => rfl)) aan)) aan)) (agn (i := 7) sc_turnedL_.nd rfl (.inl rfl)) (asq (asa (aixA (hu_of hr) (av 1) (av 7) (fun _ _ => rfl) (fun _ _ => rfl)) (agt rfl (agl (agn (i := 8) sc_turnedL_.nd rfl (.inl rfl)) (agl (agn (i := 9) sc_turnedL_.nd rfl (.inl rfl)) (agl (agn (i := 10) sc_turnedL_.nd rfl (.inl rfl)) agl0)))))
    (asq (asi (atc op_notN oIsN (av 9) an (nomark _)) (asq (ass (i := 11) sc_turnedL_.nd rfl (.inr rfl) (act (call_dictP rfl) cDict (by rfl) m_dict (by decide +kernel) (aac (alc (own := [("_law_who", 13), ("_law_key_here", 14), ("_law_steps", 15), ("_law_old", 16)]) rfl sc_turnedL_.nd (ais (av 10)) (blkOk_by (own := [("_law_who", 13), ("_law_key_here", 14), ("_law_steps", 15), ("_law_old", 16)]) (N := sc_turnedL_N) (sc := sc_turnedL_S) (by decide +kernel)) (by simp [Pat.slots, Pat.slotss]) (fun _ _ _ _ _ => (agt rfl (agl (agn (i := 13) sc_turnedL_.nd rfl (.inl rfl)) (agl (agn (i := 14) sc_turnedL_.nd rfl (.inl rfl)) (agl (agn (i := 15) sc_turnedL_.nd rfl (.inl rfl)) (agl (agn (i := 16) sc_turnedL_.nd rfl (.inl rfl)) agl0)))))) (fun _ _ _ _ _ => (pts_one (atc op_lt oLt (av 16) (av 4) (nomark _)))) (fun _ _ _ _ _ => (atup (aac (av 13) (aac (atup (aac (av 13) (aac (av 14) (aac (av 15) (aac (aop op_addA oAdd (av 16) ai) aan))))) aan))))) aan)))
    (asq (asf PassesOwn.never rfl (ais (acd d_endsL_ hg (hr.mono (by decide)) (by rfl) (aac (av 2) (aac (av 8) aan)))) (agn (i := 12) sc_turnedL_.nd rfl (.inl rfl)) (as1 (asi (atc op_notN oIsN (aixA (hu_of hr) (av 5) (av 12) (fun _ _ => rfl) (fun _ _ => rfl)) an (nomark _)) (as1 (asuA (hu_of hr) (atup (aac (av 12) (aac (aixA (hu_of hr) (aixA (hu_of hr) (av 5) (av 12) (fun _ _ => rfl) (fun _ _ => rfl)) ai (fun _ _ => rfl) (fun _ _ => rfl)) (aac (aixA (hu_of hr) (aixA (hu_of hr) (av 5) (av 12) (fun _ _ => rfl) (fun _ _ => rfl)) ai (fun _ _ => rfl) (fun _ _ => rfl)) (aac ai aan))))) (av 11) (av 12))) asn)))
    (asq (ass (i := 10) sc_turnedL_.nd rfl (.inl rfl) (act call_tuple_of cTuple (by rfl) m_tuple (by decide +kernel) (aac (alc (own := [("_law_who", 13)]) rfl sc_turnedL_.nd (ais (acb (call_sortedG rfl hr.units) cSortedG (by rfl) m_sorted (by decide +kernel) (aac (av 11) aan))) (blkOk_by (own := [("_law_who", 13)]) (N := sc_turnedL_N) (sc := sc_turnedL_S) (by decide +kernel)) (by simp [Pat.slots, Pat.slotss]) (fun _ _ _ _ _ => (agn (i := 13) sc_turnedL_.nd rfl (.inl rfl))) (fun _ _ _ _ _ => ats0) (fun _ _ _ _ _ => (aixA (hu_of hr) (av 11) (av 13) (fun _ _ => rfl) (fun _ _ => rfl)))) aan)))
    (asq (ass (i := 9) sc_turnedL_.nd rfl (.inl rfl) (atup (aac (acd d_keyL_ hg (hr.mono (by decide)) (by rfl) (aac (aixA (hu_of hr) (aixA (hu_of hr) (av 0) ai (fun _ _ => rfl) (fun _ _ => rfl)) (av 7) (fun _ _ => rfl) (fun _ _ => rfl)) aan)) (aac ai (aac (av 8) aan)))))
    (as1 (asf PassesOwn.never rfl (ais (av 10)) (agt rfl (agl (agn (i := 13) sc_turnedL_.nd rfl (.inl rfl)) (agl (agn (i := 14) sc_turnedL_.nd rfl (.inl rfl)) (agl (agn (i := 15) sc_turnedL_.nd rfl (.inl rfl)) (agl (agn (i := 16) sc_turnedL_.nd rfl (.inl rfl)) agl0))))) (as1 (asi (atw (aw (atc op_lt oLt (av 15) (av 3) (nomark _)) (aw1 (atc (op_ltD hr.units) oLtD (atup (aac (av 14) (aac (aop op_addA oAdd (av 15) ai) (aac (av 13) aan)))) (av 9) (nomark _))))) (as1 (ass (i := 9) sc_turnedL_.nd rfl (.inl rfl) (atup (aac (av 14) (aac (aop op_addA oAdd (av 15) ai) (aac (av 13) aan)))))) asn)))))))) asn)
    (as1 (asx (am PySem.F.plainAttrs_list PySem.F.slot_list_append PySem.F.type_list_append mt_append mApp tyL (av 6) (aac (atup (aac (av 8) (aac (av 9) (aac (av 10) aan)))) aan)))))))
    (as1 (asr (act call_tuple_of cTuple (by rfl) m_tuple (by decide +kernel) (aac (av 6) aan)))))))
def ss_farL_ : {s : Stmt // topS 36 = s} := by
  refine ⟨?l, ?h⟩
  case h =>
    conv => lhs; whnf
abbrev st_farL_ : Stmt := ss_farL_.1
theorem sc_farL_ : FnScope ["_law_names", "_law_wires", "_law_name", "_law_found", "_law_edge", "_law_many", "_law_one", "_law_more", "_law_end"] ["_law_names", "_law_wires", "_law_name"] (defScope st_farL_) := ⟨rfl, rfl, rfl, by decide +kernel, rfl, by decide +kernel, by decide +kernel⟩
theorem ok_farL_ {f : Addr} {fd : FuncData} (F : Fun K "_law_far" "_law_far" st_farL_ f fd) (hb : Binds K fd ["_law_names", "_law_wires", "_law_name"] []) (hm : mg "_law_far" = some (.ref f)) (d_endsL_ : Def P w K mg base 1 "_law_ends" ["_law_wires", "_law_name"] endsL_) : Def P w K mg base 2 "_law_far" ["_law_names", "_law_wires", "_law_name"] farL_ :=
  fn_a F sc_farL_ hb hm (g := farL_B) fun cdv A outer s H E hg hr => (asq (asp3 (ps_par3 (i := 3) (j := 4) (l := 5) (by rfl) sc_farL_.nd rfl rfl rfl (by decide) (by decide) (by decide) rfl rfl rfl (aac (adsp (adp1 (av 2) ai adp0)) (aac (alst (aac (av 2) aan)) (aac ai aan))) (by rfl)))
    (asq (asw PassesOwn.never (atc (op_neA hr.units) oNe (av 4) (alst aan) (nomark _)) (asq (asp2' (ps_par (i := 5) (j := 7) (by rfl) sc_farL_.nd rfl rfl (by decide) rfl rfl (aac (aop op_addA oAdd (av 5) ai) (aac (alst aan) aan)) (by rfl)))
    (asq (asf PassesOwn.never rfl (ais (av 4)) (agn (i := 6) sc_farL_.nd rfl (.inl rfl)) (as1 (asf PassesOwn.never rfl (ais (acd d_endsL_ hg (hr.mono (by decide)) (by rfl) (aac (av 1) (aac (av 6) aan)))) (agn (i := 8) sc_farL_.nd rfl (.inl rfl)) (as1 (asi (atw (aw (atin (hu_of hr) (av 8) (av 0)) (aw1 (atnin (hu_of hr) (av 8) (av 3))))) (asq (asuA (hu_of hr) (av 5) (av 3) (av 8))
    (as1 (asx (am PySem.F.plainAttrs_list PySem.F.slot_list_append PySem.F.type_list_append mt_append mApp tyL (av 7) (aac (av 8) aan))))) asn)))))
    (as1 (ass (i := 4) sc_farL_.nd rfl (.inl rfl) (av 7))))))
    (as1 (asr (av 3)))))
def ss_ringL_ : {s : Stmt // topS 37 = s} := by
  refine ⟨?l, ?h⟩
  case h =>
    conv => lhs; whnf
abbrev st_ringL_ : Stmt := ss_ringL_.1
theorem sc_ringL_ : FnScope ["_law_pairs", "_law_leads", "_law_name", "_law_who", "_law_found"] ["_law_pairs"] (defScope st_ringL_) := ⟨rfl, rfl, rfl, by decide +kernel, rfl, by decide +kernel, by decide +kernel⟩
theorem ok_ringL_ {f : Addr} {fd : FuncData} (F : Fun K "_law_ring" "_law_ring" st_ringL_ f fd) (hb : Binds K fd ["_law_pairs"] []) (hm : mg "_law_ring" = some (.ref f)) (m_dict : mg "dict" = none) (m_tuple : mg "tuple" = none) : Def P w K mg base 1 "_law_ring" ["_law_pairs"] ringL_ :=
  fn_a F sc_ringL_ hb hm (g := ringL_B) fun cdv A outer s H E hg hr => (asq (ass (i := 1) sc_ringL_.nd rfl (.inl rfl) (act (call_dictU rfl) cDictP (by rfl) m_dict (by decide +kernel) (aac (av 0) aan)))
    (asq (asf PassesOwn.never rfl (ais (aUnp (av 0))) (agt rfl (agl (agn (i := 2) sc_ringL_.nd rfl (.inl rfl)) (agl (agn (i := 3) sc_ringL_.nd rfl (.inl rfl)) agl0))) (asq (ass (i := 4) sc_ringL_.nd rfl (.inl rfl) (alst (aac (av 2) aan)))
    (asq (asw PassesOwn.never (atnin (hu_of hr) (aget2 (hu_of hr) (av 1) (aixA (hu_of hr) (av 4) (aun un_neg oNeg ai) (fun _ _ => rfl) (fun _ _ => rfl)) (av 2) ⟨rfl, rfl, rfl, rfl⟩) (av 4)) (as1 (asx (am PySem.F.plainAttrs_list PySem.F.slot_list_append PySem.F.type_list_append mt_append mApp tyL (av 4) (aac (aixA (hu_of hr) (av 1) (aixA (hu_of hr) (av 4) (aun un_neg oNeg ai) (fun _ _ => rfl) (fun _ _ => rfl)) (fun _ _ => rfl) (fun _ _ => rfl)) aan)))))
    (as1 (asi (atw (aw (atin (hu_of hr) (aixA (hu_of hr) (av 4) (aun un_neg oNeg ai) (fun _ _ => rfl) (fun _ _ => rfl)) (av 1)) (aw1 (atc (op_eqA hr.units) oEq (aixA (hu_of hr) (av 1) (aixA (hu_of hr) (av 4) (aun un_neg oNeg ai) (fun _ _ => rfl) (fun _ _ => rfl)) (fun _ _ => rfl) (fun _ _ => rfl)) (av 2) (nomark _))))) (as1 (asr (act call_tuple_of cTuple (by rfl) m_tuple (by decide +kernel) (aac (av 4) aan)))) asn)))))
    (as1 (asr an))))
def ss_lineL_ : {s : Stmt // topS 38 = s} := by
  refine ⟨?l, ?h⟩
  case h =>
    conv => lhs; whnf
abbrev st_lineL_ : Stmt := ss_lineL_.1
abbrev sc_lineL_N : List Str := ["_law_size", "_law_is_ring", "_law_names", "_law_wires", "_law_k", "_law_name"]
abbrev sc_lineL_S : Scope := defScope st_lineL_
theorem sc_lineL_ : FnScope ["_law_size", "_law_is_ring", "_law_names", "_law_wires", "_law_k", "_law_name"] ["_law_size", "_law_is_ring"] (defScope st_lineL_) := ⟨rfl, rfl, rfl, by decide +kernel, rfl, by decide +kernel, by decide +kernel⟩
theorem ok_lineL_ {f : Addr} {fd : FuncData} (F : Fun K "_law_line" "_law_line" st_lineL_ f fd) (hb : Binds K fd ["_law_size", "_law_is_ring"] []) (hm : mg "_law_line" = some (.ref f)) (m_tuple : mg "tuple" = none) (m_range : mg "range" = none) (m_sorted : mg "sorted" = none) : Def P w K mg base 1 "_law_line" ["_law_size", "_law_is_ring"] lineL_ :=
  fn_a F sc_lineL_ hb hm (g := lineL_B) fun cdv A outer s H E hg hr => (asq (ass (i := 2) sc_lineL_.nd rfl (.inr rfl) (asl sl_B oSlA (alst (aac astr (aac astr (aac astr (aac astr (aac astr (aac astr (aac astr (aac astr aan))))))))) aon (aos (av 0))))
    (asq (aslc (own := [("_law_k", 4)]) (i := 3) rfl sc_lineL_.nd rfl rfl (sw_true rfl rfl rfl (by decide +kernel)) (air1 (by rfl) m_range (aac (aop op_sub oSub (av 0) ai) aan)) (blkOk_by (own := [("_law_k", 4)]) (N := sc_lineL_N) (sc := sc_lineL_S) (by decide +kernel)) (by simp [Pat.slots, Pat.slotss]) (fun _ _ _ _ _ => (agn (i := 4) sc_lineL_.nd rfl (.inl rfl))) (fun _ _ _ _ _ => ats0) (fun _ _ _ _ _ => (atup (aac (aixA (hu_of hr) (av 2) (av 4) (fun _ _ => rfl) (fun _ _ => rfl)) (aac (aixA (hu_of hr) (av 2) (aop op_addA oAdd (av 4) ai) (fun _ _ => rfl) (fun _ _ => rfl)) aan)))))
    (asq (asi (atv (av 1)) (as1 (asx (am PySem.F.plainAttrs_list PySem.F.slot_list_append PySem.F.type_list_append mt_append mApp tyL (av 3) (aac (atup (aac (aixA (hu_of hr) (av 2) ai (fun _ _ => rfl) (fun _ _ => rfl)) (aac (aixA (hu_of hr) (av 2) (aun un_neg oNeg ai) (fun _ _ => rfl) (fun _ _ => rfl)) aan))) aan)))) asn)
    (as1 (asr (atup (aac (act call_tuple_of cTuple (by rfl) m_tuple (by decide +kernel) (aac (alc (own := [("_law_name", 5)]) rfl sc_lineL_.nd (ais (av 2)) (blkOk_by (own := [("_law_name", 5)]) (N := sc_lineL_N) (sc := sc_lineL_S) (by decide +kernel)) (by simp [Pat.slots, Pat.slotss]) (fun _ _ _ _ _ => (agn (i := 5) sc_lineL_.nd rfl (.inl rfl))) (fun _ _ _ _ _ => ats0) (fun _ _ _ _ _ => (atup (aac (av 5) (aac ai (aac ai aan)))))) aan)) (aac (act call_tuple_of cTuple (by rfl) m_tuple (by decide +kernel) (aac (acb (call_sortedG rfl hr.units) cSortedG (by rfl) m_sorted (by decide +kernel) (aac (av 3) aan)) aan)) aan))))))))
def ss_NetRun_state_now_ : {s : Stmt // (clsB (topS 29)).getD 7 (.Pass ⟨0, 0, 0, 0⟩) = s} := by
  refine ⟨?l, ?h⟩
  case h =>
    conv => lhs; whnf
abbrev st_NetRun_state_now_ : Stmt := ss_NetRun_state_now_.1
theorem sc_NetRun_state_now_ : FnScope ["self"] ["self"] (defScope st_NetRun_state_now_) := ⟨rfl, rfl, rfl, by decide +kernel, rfl, by decide +kernel, by decide +kernel⟩
theorem ok_NetRun_state_now_ {f : Addr} {fd : FuncData} (F : Fun K "state_now" "NetRun.state_now" st_NetRun_state_now_ f fd) (hb : Binds K fd ["self"] []) (me : Meth K (AL.TT.cls "NetRun") "state_now" f) (oc : Cls K (AL.TT.cls "NetRun")) (oc_NetRun : Cls K (AL.TT.cls "NetRun")) (na_NetRun_state : NoAttr K (AL.TT.cls "NetRun") "state") : Met P w K mg base 1 "NetRun" "state_now" ["self"] NetRun_state_now_ :=
  ⟨f, fd, fn_aG F sc_NetRun_state_now_ (g := NetRun_state_now_B) fun cdv A outer s H E hg hr => (as1 (asr (aFld oc_NetRun na_NetRun_state (av 0)))), hb, me, oc⟩
def ss_rightL_ : {s : Stmt // topS 39 = s} := by
  refine ⟨?l, ?h⟩
  case h =>
    conv => lhs; whnf
abbrev st_rightL_ : Stmt := ss_rightL_.1
abbrev sc_rightL_N : List Str := ["_law_net", "_law_run", "_law_state", "_law_wires", "_law_up", "_law_keys", "_law_ghosts", "_law_follows", "_law_told", "_law_name", "_law_best", "_law_heard", "_law_row", "_law_member", "_law_one"]
abbrev sc_rightL_S : Scope := defScope st_rightL_
theorem sc_rightL_ : FnScope ["_law_net", "_law_run", "_law_state", "_law_wires", "_law_up", "_law_keys", "_law_ghosts", "_law_follows", "_law_told", "_law_name", "_law_best", "_law_heard", "_law_row", "_law_member", "_law_one"] ["_law_net", "_law_run", "_law_state", "_law_wires"] (defScope st_rightL_) := ⟨rfl, rfl, rfl, by decide +kernel, rfl, by decide +kernel, by decide +kernel⟩
theorem ok_rightL_ {f : Addr} {fd : FuncData} (F : Fun K "_law_right" "_law_right" st_rightL_ f fd) (hb : Binds K fd ["_law_net", "_law_run", "_law_state", "_law_wires"] []) (hm : mg "_law_right" = some (.ref f)) (d_NetRun_state_now_ : Met P w K mg base 1 "NetRun" "state_now" ["self"] NetRun_state_now_) (d_follows_of_ : Def P w K mg base 1 "follows_of" ["state"] follows_of_) (d_follow_ring_ : Def P w K mg base 2 "follow_ring" ["pairs"] follow_ring_) (d_ringL_ : Def P w K mg base 1 "_law_ring" ["_law_pairs"] ringL_) (d_keyL_ : Def P w K mg base 1 "_law_key" ["_law_member"] keyL_) (d_farL_ : Def P w K mg base 2 "_law_far" ["_law_names", "_law_wires", "_law_name"] farL_) (k_ghosts_of_3 : DefK P w K mg base 4 "ghosts_of" 3 [] (fun as _ => as ++ []) ghosts_of_) (m_tuple : mg "tuple" = none) (m_dict : mg "dict" = none) (m_repr : mg "repr" = none) : Def P w K mg base 5 "_law_right" ["_law_net", "_law_run", "_law_state", "_law_wires"] rightL_ :=
  fn_a F sc_rightL_ hb hm (g := rightL_B) fun cdv A outer s H E hg hr => (asq (ass (i := 4) sc_rightL_.nd rfl (.inl rfl) (act call_tuple_of cTuple (by rfl) m_tuple (by decide +kernel) (aac (alc (own := [("_law_row", 12)]) rfl sc_rightL_.nd (ais (av 2)) (blkOk_by (own := [("_law_row", 12)]) (N := sc_rightL_N) (sc := sc_rightL_S) (by decide +kernel)) (by simp [Pat.slots, Pat.slotss]) (fun _ _ _ _ _ => (agn (i := 12) sc_rightL_.nd rfl (.inl rfl))) (fun _ _ _ _ _ => (pts_one (atc op_notN oIsN (aixA (hu_of hr) (av 12) ai (fun _ _ => rfl) (fun _ _ => rfl)) an (nomark _)))) (fun _ _ _ _ _ => (aixA (hu_of hr) (av 12) ai (fun _ _ => rfl) (fun _ _ => rfl)))) aan)))
    (asq (ass (i := 5) sc_rightL_.nd rfl (.inr rfl) (act (call_dictP rfl) cDict (by rfl) m_dict (by decide +kernel) (aac (alc (own := [("_law_member", 13)]) rfl sc_rightL_.nd (ais (aixA (hu_of hr) (av 0) ai (fun _ _ => rfl) (fun _ _ => rfl))) (blkOk_by (own := [("_law_member", 13)]) (N := sc_rightL_N) (sc := sc_rightL_S) (by decide +kernel)) (by simp [Pat.slots, Pat.slotss]) (fun _ _ _ _ _ => (agn (i := 13) sc_rightL_.nd rfl (.inl rfl))) (fun _ _ _ _ _ => ats0) (fun _ _ _ _ _ => (atup (aac (aixA (hu_of hr) (av 13) ai (fun _ _ => rfl) (fun _ _ => rfl)) (aac (acd d_keyL_ hg (hr.mono (by decide)) (by rfl) (aac (av 13) aan)) aan))))) aan)))
    (asq (ass (i := 6) sc_rightL_.nd rfl (.inl rfl) (alst aan))
    (asq (asf PassesOwn.never rfl (ais (av 2)) (agt rfl (agl (agn (i := 9) sc_rightL_.nd rfl (.inl rfl)) (agl (agn (i := 10) sc_rightL_.nd rfl (.inl rfl)) (agl (agn (i := 11) sc_rightL_.nd rfl (.inl rfl)) agl0)))) (as1 (asi (atw (aw (atc op_notN oIsN (av 10) an (nomark _)) (aw1 (atc (op_notInD (hu65 hr)) oNInD (aixA (hu_of hr) (av 10) ai (fun _ _ => rfl) (fun _ _ => rfl)) (alc (own := [("_law_one", 14)]) rfl sc_rightL_.nd (aid (acd d_farL_ hg (hr.mono (by decide)) (by rfl) (aac (av 4) (aac (av 3) (aac (av 9) aan))))) (blkOk_by (own := [("_law_one", 14)]) (N := sc_rightL_N) (sc := sc_rightL_S) (by decide +kernel)) (by simp [Pat.slots, Pat.slotss]) (fun _ _ _ _ _ => (agn (i := 14) sc_rightL_.nd rfl (.inl rfl))) (fun _ _ _ _ _ => ats0) (fun _ _ _ _ _ => (aixA (hu_of hr) (av 5) (av 14) (fun _ _ => rfl) (fun _ _ => rfl)))) (by rfl))))) (as1 (asx (am PySem.F.plainAttrs_list PySem.F.slot_list_append PySem.F.type_list_append mt_append mApp tyL (av 6) (aac (atup (aac (av 9) (aac (aixA (hu_of hr) (av 10) ai (fun _ _ => rfl) (fun _ _ => rfl)) aan))) aan)))) asn)))
    (asq (ass (i := 7) sc_rightL_.nd rfl (.inl rfl) (act call_tupleP cTupP (by rfl) m_tuple (by decide +kernel) (aac (alc (own := [("_law_name", 9), ("_law_best", 10), ("_law_heard", 11)]) rfl sc_rightL_.nd (ais (av 2)) (blkOk_by (own := [("_law_name", 9), ("_law_best", 10), ("_law_heard", 11)]) (N := sc_rightL_N) (sc := sc_rightL_S) (by decide +kernel)) (by simp [Pat.slots, Pat.slotss]) (fun _ _ _ _ _ => (agt rfl (agl (agn (i := 9) sc_rightL_.nd rfl (.inl rfl)) (agl (agn (i := 10) sc_rightL_.nd rfl (.inl rfl)) (agl (agn (i := 11) sc_rightL_.nd rfl (.inl rfl)) agl0))))) (fun _ _ _ _ _ => (pts_one (atw (aw (atc op_notN oIsN (av 10) an (nomark _)) (aw1 (atc (op_neA hr.units) oNe (aixA (hu_of hr) (av 10) ai (fun _ _ => rfl) (fun _ _ => rfl)) (av 9) (nomark _))))))) (fun _ _ _ _ _ => (atup (aac (av 9) (aac (aixA (hu_of hr) (av 10) ai (fun _ _ => rfl) (fun _ _ => rfl)) aan))))) aan)))
    (asq (ass (i := 8) sc_rightL_.nd rfl (.inl rfl) (alst (aac (aMe0 d_NetRun_state_now_ hg (hr.mono (by decide)) (av 1)) (aac (acdk k_ghosts_of_3 hg (hr.mono (by decide)) (by rfl) (aac (av 0) (aac (aMe0 d_NetRun_state_now_ hg (hr.mono (by decide)) (av 1)) (aac (av 3) aan))) akn) (aac (acd d_follows_of_ hg (hr.mono (by decide)) (by rfl) (aac (aMe0 d_NetRun_state_now_ hg (hr.mono (by decide)) (av 1)) aan)) aan)))))
    (asq (asi (atc (op_neA hr.units) oNe (acb (call_reprA hg hr.units) cRepr (by rfl) m_repr boot_repr (aac (av 8) aan)) (acb (call_reprA hg hr.units) cRepr (by rfl) m_repr boot_repr (aac (alst (aac (av 2) (aac (act call_tuple_of cTuple (by rfl) m_tuple (by decide +kernel) (aac (av 6) aan)) (aac (aUnp (av 7)) aan)))) aan)) (nomark _)) (as1 (asr abl)) asn)
    (as1 (asr (acm (op_eqA hr.units) oEq (acb (call_reprA hg hr.units) cRepr (by rfl) m_repr boot_repr (aac (acd d_follow_ring_ hg (hr.mono (by decide)) (by rfl) (aac (acd d_follows_of_ hg (hr.mono (by decide)) (by rfl) (aac (aMe0 d_NetRun_state_now_ hg (hr.mono (by decide)) (av 1)) aan)) aan)) aan)) (acb (call_reprA hg hr.units) cRepr (by rfl) m_repr boot_repr (aac (acd d_ringL_ hg (hr.mono (by decide)) (by rfl) (aac (av 7) aan)) aan)) (nomark _)))))))))))
def ss_NetRun_init_ : {s : Stmt // (clsB (topS 29)).getD 0 (.Pass ⟨0, 0, 0, 0⟩) = s} := by
  refine ⟨?l, ?h⟩
  case h =>
    conv => lhs; whnf
abbrev st_NetRun_init_ : Stmt := ss_NetRun_init_.1
theorem sc_NetRun_init_ : FnScope ["self", "net", "most", "age"] ["self", "net", "most", "age"] (defScope st_NetRun_init_) := ⟨rfl, rfl, rfl, by decide +kernel, rfl, by decide +kernel, by decide +kernel⟩
theorem ok_NetRun_init_ {f : Addr} {fd : FuncData} (F : Fun K "__init__" "NetRun.__init__" st_NetRun_init_ f fd) (d_first_state_ : Def P w K mg base 2 "first_state" ["net"] first_state_) (oc_NetRun : Cls K (AL.TT.cls "NetRun")) (na_NetRun_turns : NoAttr K (AL.TT.cls "NetRun") "turns") (na_NetRun_wires_up : NoAttr K (AL.TT.cls "NetRun") "wires_up") (na_NetRun_state : NoAttr K (AL.TT.cls "NetRun") "state") (na_NetRun_age : NoAttr K (AL.TT.cls "NetRun") "age") (na_NetRun_most : NoAttr K (AL.TT.cls "NetRun") "most") (na_NetRun_net : NoAttr K (AL.TT.cls "NetRun") "net") : FnG P w K mg base 3 f fd ["self", "net", "most", "age"] (spA K 4 NetRun_init_) :=
  fn_aG F sc_NetRun_init_ (g := NetRun_init_B) fun cdv A outer s H E hg hr => (asq (asFld oc_NetRun na_NetRun_net (av 0) (av 1))
    (asq (asFld oc_NetRun na_NetRun_most (av 0) (av 2))
    (asq (asFld oc_NetRun na_NetRun_age (av 0) (av 3))
    (asq (asFld oc_NetRun na_NetRun_state (av 0) (acd d_first_state_ hg (hr.mono (by decide)) (by rfl) (aac (av 1) aan)))
    (asq (asFld oc_NetRun na_NetRun_wires_up (av 0) (aixA (hu_of hr) (av 1) ai (fun _ _ => rfl) (fun _ _ => rfl)))
    (as1 (asFld oc_NetRun na_NetRun_turns (av 0) (alst aan))))))))
def ss_NetRun_go_round_ : {s : Stmt // (clsB (topS 29)).getD 3 (.Pass ⟨0, 0, 0, 0⟩) = s} := by
  refine ⟨?l, ?h⟩
  case h =>
    conv => lhs; whnf
abbrev st_NetRun_go_round_ : Stmt := ss_NetRun_go_round_.1
abbrev sc_NetRun_go_round_N : List Str := ["self", "behind", "turned", "row", "elder"]
abbrev sc_NetRun_go_round_S : Scope := defScope st_NetRun_go_round_
theorem sc_NetRun_go_round_ : FnScope ["self", "behind", "turned", "row", "elder"] ["self"] (defScope st_NetRun_go_round_) := ⟨rfl, rfl, rfl, by decide +kernel, rfl, by decide +kernel, by decide +kernel⟩
theorem ok_NetRun_go_round_ {f : Addr} {fd : FuncData} (F : Fun K "go_round" "NetRun.go_round" st_NetRun_go_round_ f fd) (hb : Binds K fd ["self"] []) (me : Meth K (AL.TT.cls "NetRun") "go_round" f) (oc : Cls K (AL.TT.cls "NetRun")) (k_state_round_3_most_age : DefK P w K mg base 3 "state_round" 3 ["most", "age"] (fun as bs => as ++ ([] ++ ([] ++ bs))) state_round_) (oc_NetRun : Cls K (AL.TT.cls "NetRun")) (na_NetRun_turns : NoAttr K (AL.TT.cls "NetRun") "turns") (na_NetRun_state : NoAttr K (AL.TT.cls "NetRun") "state") (na_NetRun_wires_up : NoAttr K (AL.TT.cls "NetRun") "wires_up") (na_NetRun_net : NoAttr K (AL.TT.cls "NetRun") "net") (na_NetRun_age : NoAttr K (AL.TT.cls "NetRun") "age") (na_NetRun_most : NoAttr K (AL.TT.cls "NetRun") "most") (m_len : mg "len" = none) (m_zip : mg "zip" = none) : Met P w K mg base 4 "NetRun" "go_round" ["self"] NetRun_go_round_ :=
  ⟨f, fd, fn_aG F sc_NetRun_go_round_ (g := NetRun_go_round_B) fun cdv A outer s H E hg hr => (asq (ass (i := 1) sc_NetRun_go_round_.nd rfl (.inl rfl) (acdk k_state_round_3_most_age hg (hr.mono (by decide)) (by rfl) (aac (aFld oc_NetRun na_NetRun_net (av 0)) (aac (aFld oc_NetRun na_NetRun_state (av 0)) (aac (aFld oc_NetRun na_NetRun_wires_up (av 0)) aan))) (akc (aFld oc_NetRun na_NetRun_most (av 0)) (akc (aFld oc_NetRun na_NetRun_age (av 0)) akn))))
    (asq (ass (i := 2) sc_NetRun_go_round_.nd rfl (.inl rfl) (acb call_lenA cLen (by rfl) m_len PySem.boot_len (aac (alc (own := [("row", 3), ("elder", 4)]) rfl sc_NetRun_go_round_.nd (aiz (by rfl) m_zip (aac (av 1) (aac (aFld oc_NetRun na_NetRun_state (av 0)) aan))) (blkOk_by (own := [("row", 3), ("elder", 4)]) (N := sc_NetRun_go_round_N) (sc := sc_NetRun_go_round_S) (by decide +kernel)) (by simp [Pat.slots, Pat.slotss]) (fun _ _ _ _ _ => (agt rfl (agl (agn (i := 3) sc_NetRun_go_round_.nd rfl (.inl rfl)) (agl (agn (i := 4) sc_NetRun_go_round_.nd rfl (.inl rfl)) agl0)))) (fun _ _ _ _ _ => (pts_one (atc (op_neA hr.units) oNe (aixA (hu_of hr) (av 3) ai (fun _ _ => rfl) (fun _ _ => rfl)) (aixA (hu_of hr) (av 4) ai (fun _ _ => rfl) (fun _ _ => rfl)) (nomark _)))) (fun _ _ _ _ _ => (av 3))) aan)))
    (asq (asFld oc_NetRun na_NetRun_state (av 0) (av 1))
    (asq (asx (am PySem.F.plainAttrs_list PySem.F.slot_list_append PySem.F.type_list_append mt_append mApp tyL (aFld oc_NetRun na_NetRun_turns (av 0)) (aac (av 2) aan)))
    (as1 (asr (av 2))))))), hb, me, oc⟩
def ss_NetRun_set_up_ : {s : Stmt // (clsB (topS 29)).getD 1 (.Pass ⟨0, 0, 0, 0⟩) = s} := by
  refine ⟨?l, ?h⟩
  case h =>
    conv => lhs; whnf
abbrev st_NetRun_set_up_ : Stmt := ss_NetRun_set_up_.1
theorem sc_NetRun_set_up_ : FnScope ["self", "name", "truth"] ["self", "name", "truth"] (defScope st_NetRun_set_up_) := ⟨rfl, rfl, rfl, by decide +kernel, rfl, by decide +kernel, by decide +kernel⟩
theorem ok_NetRun_set_up_ {f : Addr} {fd : FuncData} (F : Fun K "set_up" "NetRun.set_up" st_NetRun_set_up_ f fd) (hb : Binds K fd ["self", "name", "truth"] []) (me : Meth K (AL.TT.cls "NetRun") "set_up" f) (oc : Cls K (AL.TT.cls "NetRun")) (d_state_up_ : DefX P w K mg base 3 "state_up" ["net", "state", "name", "truth"] state_up_) (oc_NetRun : Cls K (AL.TT.cls "NetRun")) (na_NetRun_state : NoAttr K (AL.TT.cls "NetRun") "state") (na_NetRun_net : NoAttr K (AL.TT.cls "NetRun") "net") : MetX P w K mg base 4 "NetRun" "set_up" ["self", "name", "truth"] NetRun_set_up_ :=
  ⟨f, fd, fn_aX F sc_NetRun_set_up_ (g := NetRun_set_up_B) fun cdv A outer s H Ek hg hr tk pw => (xs1 (xw (xsfld oc_NetRun na_NetRun_state (av 0) (acdX d_state_up_ hg (hr.mono (by decide)) (by rfl) tk (aac (aFld oc_NetRun na_NetRun_net (av 0)) (aac (aFld oc_NetRun na_NetRun_state (av 0)) (aac (av 1) (aac (av 2) aan)))))))), hb, me, oc⟩
def ss_NetRun_set_wire_ : {s : Stmt // (clsB (topS 29)).getD 2 (.Pass ⟨0, 0, 0, 0⟩) = s} := by
  refine ⟨?l, ?h⟩
  case h =>
    conv => lhs; whnf
abbrev st_NetRun_set_wire_ : Stmt := ss_NetRun_set_wire_.1
abbrev sc_NetRun_set_wire_N : List Str := ["self", "one", "other", "truth", "wire", "wires", "each"]
abbrev sc_NetRun_set_wire_S : Scope := defScope st_NetRun_set_wire_
theorem sc_NetRun_set_wire_ : FnScope ["self", "one", "other", "truth", "wire", "wires", "each"] ["self", "one", "other", "truth"] (defScope st_NetRun_set_wire_) := ⟨rfl, rfl, rfl, by decide +kernel, rfl, by decide +kernel, by decide +kernel⟩
theorem ok_NetRun_set_wire_ {f : Addr} {fd : FuncData} (F : Fun K "set_wire" "NetRun.set_wire" st_NetRun_set_wire_ f fd) (hb : Binds K fd ["self", "one", "other", "truth"] []) (me : Meth K (AL.TT.cls "NetRun") "set_wire" f) (oc : Cls K (AL.TT.cls "NetRun")) (x_NoLink : KnX P w K mg base "NoLink") (oc_NetRun : Cls K (AL.TT.cls "NetRun")) (na_NetRun_wires_up : NoAttr K (AL.TT.cls "NetRun") "wires_up") (na_NetRun_net : NoAttr K (AL.TT.cls "NetRun") "net") (m_tuple : mg "tuple" = none) (m_min : mg "min" = none) (m_max : mg "max" = none) (m_sorted : mg "sorted" = none) : MetX P w K mg base 3 "NetRun" "set_wire" ["self", "one", "other", "truth"] NetRun_set_wire_ :=
  ⟨f, fd, fn_aX F sc_NetRun_set_wire_ (g := NetRun_set_wire_B) fun cdv A outer s H Ek hg hr tk pw => (xsq (xl (ass (i := 4) sc_NetRun_set_wire_.nd rfl (.inr rfl) (atup (aac (acb (call_minG rfl hr.units) cMinG (by rfl) m_min (by decide +kernel) (aac (av 1) (aac (av 2) aan))) (aac (acb (call_maxB rfl) cMaxB (by rfl) m_max (by decide +kernel) (aac (av 1) (aac (av 2) aan))) aan)))) nr_asg)
    (xsq (xsi (atc (op_notInW (hu65 hr)) oInW (av 4) (aixA (hu_of hr) (aFld oc_NetRun na_NetRun_net (av 0)) ai (fun _ _ => rfl) (fun _ _ => rfl)) (by rfl)) (xs1 (asraise tk x_NoLink (hr.mono (by decide)) rfl (by rfl) (aac (atup (aac (av 1) (aac (av 2) aan))) aan))) xsn)
    (xsq (xl (aslc (own := [("each", 6)]) (i := 5) rfl sc_NetRun_set_wire_.nd rfl rfl (sw_true rfl rfl rfl (by decide +kernel)) (ais (aFld oc_NetRun na_NetRun_wires_up (av 0))) (blkOk_by (own := [("each", 6)]) (N := sc_NetRun_set_wire_N) (sc := sc_NetRun_set_wire_S) (by decide +kernel)) (by simp [Pat.slots, Pat.slotss]) (fun _ _ _ _ _ => (agn (i := 6) sc_NetRun_set_wire_.nd rfl (.inl rfl))) (fun _ _ _ _ _ => (pts_one (atc (op_neA hr.units) oNe (av 6) (av 4) (nomark _)))) (fun _ _ _ _ _ => (av 6))) nr_asg)
    (xsq (xsi (atv (av 3)) (xs1 (xl (asx (am PySem.F.plainAttrs_list PySem.F.slot_list_append PySem.F.type_list_append mt_append mApp tyL (av 5) (aac (av 4) aan))) nr_expr)) xsn)
    (xs1 (xl (asFld oc_NetRun na_NetRun_wires_up (av 0) (act call_tuple_of cTuple (by rfl) m_tuple (by decide +kernel) (aac (acb (call_sortedG rfl hr.units) cSortedG (by rfl) m_sorted (by decide +kernel) (aac (av 5) aan)) aan))) nr_fld)))))), hb, me, oc⟩
def ss_law_ : {s : Stmt // topS 40 = s} := by
  refine ⟨?l, ?h⟩
  case h =>
    conv => lhs; whnf
abbrev st_law_ : Stmt := ss_law_.1
abbrev sc_law_N : List Str := ["_law_script", "_law_feed_here", "_law_net", "_law_k", "_law_up", "_law_size", "_law_limit", "_law_span", "_law_run", "_law_state", "_law_wires", "_law_way", "_law_lost", "_law_ahead", "_law_many", "_law_row", "_law_one", "_law_wire", "_law_j"]
abbrev sc_law_S : Scope := defScope st_law_
theorem sc_law_ : FnScope ["_law_script", "_law_feed_here", "_law_net", "_law_k", "_law_up", "_law_size", "_law_limit", "_law_span", "_law_run", "_law_state", "_law_wires", "_law_way", "_law_lost", "_law_ahead", "_law_many", "_law_row", "_law_one", "_law_wire", "_law_j"] ["_law_script"] (defScope st_law_) := ⟨rfl, rfl, rfl, by decide +kernel, rfl, by decide +kernel, by decide +kernel⟩
theorem ok_law_ {f : Addr} {fd : FuncData} (F : Fun K "law" "law" st_law_ f fd) (d_feedL_ : Def P w K mg base 1 "_law_feed" ["_law_script"] feedL_) (d_lineL_ : Def P w K mg base 1 "_law_line" ["_law_size", "_law_is_ring"] lineL_) (d_drawL_ : Def P w K mg base 1 "_law_draw" ["_law_feed_here", "_law_many"] drawL_) (kk_NetRun1_most_age : MadeK P w K mg base 3 "NetRun" 1 ["most", "age"] (fun as bs => as ++ bs) NetRun_init_) (d_NetRun_go_round_ : Met P w K mg base 4 "NetRun" "go_round" ["self"] NetRun_go_round_) (d_turnedL_ : Def P w K mg base 2 "_law_turned" ["_law_net", "_law_state", "_law_wires", "_law_limit", "_law_span"] turnedL_) (d_rightL_ : Def P w K mg base 5 "_law_right" ["_law_net", "_law_run", "_law_state", "_law_wires"] rightL_) (d_keyL_ : Def P w K mg base 1 "_law_key" ["_law_member"] keyL_) (k_ghosts_of_3 : DefK P w K mg base 4 "ghosts_of" 3 [] (fun as _ => as ++ []) ghosts_of_) (k_rounds_to_halt_3_most_age : DefK P w K mg base 5 "rounds_to_halt" 3 ["most", "age"] (fun as bs => as ++ bs) rounds_to_halt_) (n_NetRun_set_wire_ : Met P w K mg base 3 "NetRun" "set_wire" ["self", "one", "other", "truth"] (noX NetRun_set_wire_)) (n_NetRun_set_up_ : Met P w K mg base 4 "NetRun" "set_up" ["self", "name", "truth"] (noX NetRun_set_up_)) (m_range : mg "range" = none) (m_tuple : mg "tuple" = none) (m_len : mg "len" = none) : FnG P w K mg base 6 f fd ["_law_script"] (spA K 1 law_) :=
  fn_aG F sc_law_ (g := law_B) fun cdv A outer s H E hg hr => (asq (ass (i := 1) sc_law_.nd rfl (.inl rfl) (acd d_feedL_ hg (hr.mono (by decide)) (by rfl) (aac (av 0) aan)))
    (asq (asp3 (ps_par3 (i := 5) (j := 6) (l := 7) (by rfl) sc_law_.nd rfl rfl rfl (by decide) (by decide) (by decide) rfl rfl rfl (aac (aop op_addT oAddT ai (acd d_drawL_ hg (hr.mono (by decide)) (by rfl) (aac (av 1) (aac ai aan)))) (aac (aop op_addT oAddT ai (acd d_drawL_ hg (hr.mono (by decide)) (by rfl) (aac (av 1) (aac ai aan)))) (aac (acd d_drawL_ hg (hr.mono (by decide)) (by rfl) (aac (av 1) (aac ai aan))) aan))) (by rfl)))
    (asq (ass (i := 2) sc_law_.nd rfl (.inl rfl) (acd d_lineL_ hg (hr.mono (by decide)) (by rfl) (aac (av 5) (aac (acm (op_eqA hr.units) oEq (acd d_drawL_ hg (hr.mono (by decide)) (by rfl) (aac (av 1) (aac ai aan))) ai (nomark _)) aan))))
    (asq (asa (atup (aac (aMkK kk_NetRun1_most_age hg (hr.mono (by decide)) (by rfl) (aac (av 2) aan) (akc (av 6) (akc (av 7) akn))) (aac (act call_tuple_of cTuple (by rfl) m_tuple (by decide +kernel) (aac (alc (own := [("_law_one", 16)]) rfl sc_law_.nd (ais (aixA (hu_of hr) (av 2) ai (fun _ _ => rfl) (fun _ _ => rfl))) (blkOk_by (own := [("_law_one", 16)]) (N := sc_law_N) (sc := sc_law_S) (by decide +kernel)) (by simp [Pat.slots, Pat.slotss]) (fun _ _ _ _ _ => (agn (i := 16) sc_law_.nd rfl (.inl rfl))) (fun _ _ _ _ _ => ats0) (fun _ _ _ _ _ => (atup (aac (aixA (hu_of hr) (av 16) ai (fun _ _ => rfl) (fun _ _ => rfl)) (aac (atup (aac (acd d_keyL_ hg (hr.mono (by decide)) (by rfl) (aac (av 16) aan)) (aac ai (aac (aixA (hu_of hr) (av 16) ai (fun _ _ => rfl) (fun _ _ => rfl)) aan)))) (aac (atup aan) aan)))))) aan)) aan))) (agt rfl (agl (agn (i := 8) sc_law_.nd rfl (.inl rfl)) (agl (agn (i := 9) sc_law_.nd rfl (.inr rfl)) agl0))))
    (asq (asf PassesOwn.never rfl (air1 (by rfl) m_range (aac (av 5) aan)) (agn (i := 3) sc_law_.nd rfl (.inl rfl)) (asq (asx (aMe0 d_NetRun_go_round_ hg (hr.mono (by decide)) (av 8)))
    (as1 (ass (i := 9) sc_law_.nd rfl (.inr rfl) (acd d_turnedL_ hg (hr.mono (by decide)) (by rfl) (aac (av 2) (aac (av 9) (aac (aixA (hu_of hr) (av 2) ai (fun _ _ => rfl) (fun _ _ => rfl)) (aac (av 6) (aac (av 7) aan))))))))))
    (asq (asp2' (ps_par (i := 10) (j := 11) (by rfl) sc_law_.nd rfl rfl (by decide) rfl rfl (aac (aixA (hu_of hr) (av 2) ai (fun _ _ => rfl) (fun _ _ => rfl)) (aac (acd d_drawL_ hg (hr.mono (by decide)) (by rfl) (aac (av 1) (aac ai aan))) aan)) (by rfl)))
    (asq (asi (atc op_gt oGt (av 11) ai (nomark _)) (asq (asx (aMe n_NetRun_set_up_ hg (hr.mono (by decide)) (av 8) (aac astr (aac abl aan))))
    (as1 (ass (i := 9) sc_law_.nd rfl (.inr rfl) (aop op_addT oAddT (atup (aac (atup (aac astr (aac an (aac (atup aan) aan)))) aan)) (asl sl_B oSlA (av 9) (aos ai) aon))))) asn)
    (asq (asi (atc (op_neA hr.units) oNe (av 11) ai (nomark _)) (asq (ass (i := 12) sc_law_.nd rfl (.inr rfl) (aixA (hu_of hr) (av 10) (acd d_drawL_ hg (hr.mono (by decide)) (by rfl) (aac (av 1) (aac (acb call_lenA cLen (by rfl) m_len PySem.boot_len (aac (av 10) aan)) aan))) (fun _ _ => rfl) (fun _ _ => rfl)))
    (asq (asx (aMe n_NetRun_set_wire_ hg (hr.mono (by decide)) (av 8) (aac (aixA (hu_of hr) (av 12) ai (fun _ _ => rfl) (fun _ _ => rfl)) (aac (aixA (hu_of hr) (av 12) ai (fun _ _ => rfl) (fun _ _ => rfl)) (aac abl aan)))))
    (as1 (ass (i := 10) sc_law_.nd rfl (.inl rfl) (act call_tuple_of cTuple (by rfl) m_tuple (by decide +kernel) (aac (alc (own := [("_law_wire", 17)]) rfl sc_law_.nd (ais (av 10)) (blkOk_by (own := [("_law_wire", 17)]) (N := sc_law_N) (sc := sc_law_S) (by decide +kernel)) (by simp [Pat.slots, Pat.slotss]) (fun _ _ _ _ _ => (agn (i := 17) sc_law_.nd rfl (.inl rfl))) (fun _ _ _ _ _ => (pts_one (atc (op_neA hr.units) oNe (av 17) (av 12) (nomark _)))) (fun _ _ _ _ _ => (av 17))) aan)))))) asn)
    (asq (asi (atw (awo (atn (atv (acd d_rightL_ hg (hr.mono (by decide)) (by rfl) (aac (av 2) (aac (av 8) (aac (av 9) (aac (av 10) aan))))))) (awo1 (atw (aw (atc op_gt oGt (av 11) ai (nomark _)) (aw1 (atc (op_eqA hr.units) oEq (acdk k_ghosts_of_3 hg (hr.mono (by decide)) (by rfl) (aac (av 2) (aac (av 9) (aac (av 10) aan))) akn) (atup aan) (nomark _)))))))) (as1 (asr abl)) asn)
    (asq (ass (i := 4) sc_law_.nd rfl (.inl rfl) (act call_tuple_of cTuple (by rfl) m_tuple (by decide +kernel) (aac (alc (own := [("_law_row", 15)]) rfl sc_law_.nd (ais (av 9)) (blkOk_by (own := [("_law_row", 15)]) (N := sc_law_N) (sc := sc_law_S) (by decide +kernel)) (by simp [Pat.slots, Pat.slotss]) (fun _ _ _ _ _ => (agn (i := 15) sc_law_.nd rfl (.inl rfl))) (fun _ _ _ _ _ => (pts_one (atc op_notN oIsN (aixA (hu_of hr) (av 15) ai (fun _ _ => rfl) (fun _ _ => rfl)) an (nomark _)))) (fun _ _ _ _ _ => (aixA (hu_of hr) (av 15) ai (fun _ _ => rfl) (fun _ _ => rfl)))) aan)))
    (asq (asf PassesOwn.never rfl (air1 (by rfl) m_range (aac (aop op_addA oAdd (acdk k_rounds_to_halt_3_most_age hg (hr.mono (by decide)) (by rfl) (aac (av 2) (aac (av 4) (aac (av 10) aan))) (akc (av 6) (akc (av 7) akn))) ai) aan)) (agn (i := 3) sc_law_.nd rfl (.inl rfl)) (asq (ass (i := 13) sc_law_.nd rfl (.inr rfl) (alc (own := [("_law_row", 15)]) rfl sc_law_.nd (ais (av 9)) (blkOk_by (own := [("_law_row", 15)]) (N := sc_law_N) (sc := sc_law_S) (by decide +kernel)) (by simp [Pat.slots, Pat.slotss]) (fun _ _ _ _ _ => (agn (i := 15) sc_law_.nd rfl (.inl rfl))) (fun _ _ _ _ _ => ats0) (fun _ _ _ _ _ => (aixA (hu_of hr) (av 15) ai (fun _ _ => rfl) (fun _ _ => rfl)))))
    (asq (ass (i := 9) sc_law_.nd rfl (.inr rfl) (acd d_turnedL_ hg (hr.mono (by decide)) (by rfl) (aac (av 2) (aac (av 9) (aac (av 10) (aac (av 6) (aac (av 7) aan)))))))
    (asq (ass (i := 14) sc_law_.nd rfl (.inl rfl) (acb call_lenA cLen (by rfl) m_len PySem.boot_len (aac (alc (own := [("_law_j", 18)]) rfl sc_law_.nd (air1 (by rfl) m_range (aac (av 5) aan)) (blkOk_by (own := [("_law_j", 18)]) (N := sc_law_N) (sc := sc_law_S) (by decide +kernel)) (by simp [Pat.slots, Pat.slotss]) (fun _ _ _ _ _ => (agn (i := 18) sc_law_.nd rfl (.inl rfl))) (fun _ _ _ _ _ => (pts_one (atc (op_neA hr.units) oNe (aixA (hu_of hr) (av 13) (av 18) (fun _ _ => rfl) (fun _ _ => rfl)) (aixA (hu_of hr) (aixA (hu_of hr) (av 9) (av 18) (fun _ _ => rfl) (fun _ _ => rfl)) ai (fun _ _ => rfl) (fun _ _ => rfl)) (nomark _)))) (fun _ _ _ _ _ => (av 18))) aan)))
    (as1 (asi (atw (awo (atc (op_neA hr.units) oNe (aMe0 d_NetRun_go_round_ hg (hr.mono (by decide)) (av 8)) (av 14) (nomark _)) (awo1 (atn (atv (acd d_rightL_ hg (hr.mono (by decide)) (by rfl) (aac (av 2) (aac (av 8) (aac (av 9) (aac (av 10) aan)))))))))) (as1 (asr abl)) asn))))))
    (as1 (asr (acm (op_eqA hr.units) oEq (acdk k_ghosts_of_3 hg (hr.mono (by decide)) (by rfl) (aac (av 2) (aac (av 9) (aac (av 10) aan))) akn) (atup aan) (nomark _)))))))))))))))
end
end K70
namespace Fr

def mk (a b : Int) : Int × Int :=
  if b < 0 then ((-a) / ((Int.gcd a b : Nat) : Int), (-b) / ((Int.gcd a b : Nat) : Int)) else (a / ((Int.gcd a b : Nat) : Int), b / ((Int.gcd a b : Nat) : Int))
theorem gcd_pos {a b : Int} (h : b ≠ 0) : 0 < Int.gcd a b := Int.gcd_pos_of_ne_zero_right a h
theorem core {a b : Int} (h : 0 < b) : ∃ x y : Int, a / ((Int.gcd a b : Nat) : Int) = x ∧ b / ((Int.gcd a b : Nat) : Int) = y ∧ a = x * ((Int.gcd a b : Nat) : Int) ∧ b = y * ((Int.gcd a b : Nat) : Int) ∧ 0 < y ∧ Int.gcd x y = 1 := by
  have g0 : 0 < Int.gcd a b := gcd_pos (by omega)
  have gi : (0 : Int) < ((Int.gcd a b : Nat) : Int) := by omega
  have ea : a / ((Int.gcd a b : Nat) : Int) * ((Int.gcd a b : Nat) : Int) = a := Int.ediv_mul_cancel (Int.gcd_dvd_left ..)
  have eb : b / ((Int.gcd a b : Nat) : Int) * ((Int.gcd a b : Nat) : Int) = b := Int.ediv_mul_cancel (Int.gcd_dvd_right ..)
  refine ⟨_, _, rfl, rfl, ea.symm, eb.symm, ?_, ?_⟩
  · have : 0 < b / ((Int.gcd a b : Nat) : Int) * ((Int.gcd a b : Nat) : Int) := by rw [eb]; exact h
    exact Int.pos_of_mul_pos_left this gi
  · rw [Int.gcd_ediv_gcd_ediv_gcd g0]
theorem mk_all {a b : Int} (h : b ≠ 0) : ∃ x y : Int, mk a b = (x, y) ∧ 0 < y ∧ Int.gcd x y = 1 ∧ x * b = a * y ∧ x.natAbs ≤ a.natAbs ∧ y.natAbs ≤ b.natAbs := by
  have key : ∀ {a b : Int}, 0 < b → ∃ x y : Int, (a / ((Int.gcd a b : Nat) : Int), b / ((Int.gcd a b : Nat) : Int)) = (x, y) ∧ 0 < y ∧ Int.gcd x y = 1 ∧ x * b = a * y ∧ x.natAbs ≤ a.natAbs ∧ y.natAbs ≤ b.natAbs := by
    intro a b h
    obtain ⟨x, y, ex, ey, ea, eb, hy, hg⟩ := core (a := a) h
    have g0 : 0 < Int.gcd a b := gcd_pos (by omega)
    refine ⟨x, y, by rw [ex, ey], hy, hg, ?_, ?_, ?_⟩
    · generalize ((Int.gcd a b : Nat) : Int) = g at *
      subst ea eb
      rw [Int.mul_comm y g, ← Int.mul_assoc]
    · have := congrArg Int.natAbs ea
      rw [Int.natAbs_mul, Int.natAbs_natCast] at this
      rw [this]
      exact Nat.le_mul_of_pos_right _ g0
    · have := congrArg Int.natAbs eb
      rw [Int.natAbs_mul, Int.natAbs_natCast] at this
      rw [this]
      exact Nat.le_mul_of_pos_right _ g0
  unfold mk
  by_cases hb : b < 0
  · rw [if_pos hb]
    obtain ⟨x, y, e, hy, hg, hc, h1, h2⟩ := key (a := -a) (b := -b) (by omega)
    rw [Int.neg_gcd, Int.gcd_neg] at e
    refine ⟨x, y, e, hy, hg, ?_, by simpa using h1, by simpa using h2⟩
    rw [Int.mul_neg, Int.neg_mul] at hc
    exact Int.neg_inj.mp hc
  · rw [if_neg hb]
    exact key (by omega)
theorem uniq {x y u v : Int} (hy : 0 < y) (hv : 0 < v) (g : Int.gcd x y = 1) (g' : Int.gcd u v = 1) (e : x * v = u * y) : (x, y) = (u, v) := by
  have en : x.natAbs * v.natAbs = u.natAbs * y.natAbs := by
    have := congrArg Int.natAbs e
    rwa [Int.natAbs_mul, Int.natAbs_mul] at this
  have c1 : Nat.Coprime y.natAbs x.natAbs := by
    have : Nat.gcd x.natAbs y.natAbs = 1 := g
    exact Nat.Coprime.symm this
  have c2 : Nat.Coprime v.natAbs u.natAbs := by
    have : Nat.gcd u.natAbs v.natAbs = 1 := g'
    exact Nat.Coprime.symm this
  have d1 : y.natAbs ∣ v.natAbs := c1.dvd_of_dvd_mul_left (by rw [en]; exact Nat.dvd_mul_left _ _)
  have d2 : v.natAbs ∣ y.natAbs := c2.dvd_of_dvd_mul_left (by rw [← en]; exact Nat.dvd_mul_left _ _)
  have eyv : y.natAbs = v.natAbs := Nat.dvd_antisymm d1 d2
  have eq : y = v := by omega
  subst eq
  have ex : x = u := Int.eq_of_mul_eq_mul_right (by omega) e
  rw [ex]
theorem mk_eq {a b c d : Int} (hb : b ≠ 0) (hd : d ≠ 0) (e : a * d = c * b) : mk a b = mk c d := by
  obtain ⟨x, y, e1, hy, hg, hc, _, _⟩ := mk_all (a := a) hb
  obtain ⟨u, v, e2, hv, hg', hc', _, _⟩ := mk_all (a := c) hd
  rw [e1, e2]
  refine uniq hy hv hg hg' ?_
  have h1 : (x * v) * (b * d) = (u * y) * (b * d) := by
    calc (x * v) * (b * d) = (x * b) * (v * d) := by ac_rfl
      _ = (a * y) * (v * d) := by rw [hc]
      _ = (a * d) * (y * v) := by ac_rfl
      _ = (c * b) * (y * v) := by rw [e]
      _ = (c * v) * (y * b) := by ac_rfl
      _ = (u * d) * (y * b) := by rw [hc']
      _ = (u * y) * (b * d) := by ac_rfl
  exact Int.eq_of_mul_eq_mul_right (Int.mul_ne_zero hb hd) h1
theorem mk_self {a b : Int} (hb : 0 < b) (g : Int.gcd a b = 1) : mk a b = (a, b) := by
  unfold mk
  rw [if_neg (by omega), g]
  simp

structure Ok (n : Nat) (p : Int × Int) : Prop where
  pos : 0 < p.2
  cop : Int.gcd p.1 p.2 = 1
  b1 : p.1.natAbs < 2 ^ n
  b2 : p.2.natAbs < 2 ^ n
theorem mk_ok {n : Nat} {a b : Int} (h : b ≠ 0) (ha : a.natAbs < 2 ^ n) (hb : b.natAbs < 2 ^ n) : Ok n (mk a b) := by
  obtain ⟨x, y, e, hy, hg, _, h1, h2⟩ := mk_all (a := a) h
  rw [e]
  exact ⟨hy, hg, by show x.natAbs < _; omega, by show y.natAbs < _; omega⟩
theorem mk_cross {a b : Int} (h : b ≠ 0) : (mk a b).1 * b = a * (mk a b).2 := by
  obtain ⟨x, y, e, hy, hg, hc, _, _⟩ := mk_all (a := a) h
  rw [e]
  exact hc
theorem mk_pos {a b : Int} (h : b ≠ 0) : 0 < (mk a b).2 := by
  obtain ⟨x, y, e, hy, _⟩ := mk_all (a := a) h
  rw [e]
  exact hy
def add (p q : Int × Int) : Int × Int := mk (p.1 * q.2 + q.1 * p.2) (p.2 * q.2)
def sub (p q : Int × Int) : Int × Int := mk (p.1 * q.2 - q.1 * p.2) (p.2 * q.2)
def div (p q : Int × Int) : Int × Int := mk (p.1 * q.2) (p.2 * q.1)
theorem bmono {n m : Nat} {a : Int} (ha : a.natAbs < 2 ^ n) (h : n ≤ m) : a.natAbs < 2 ^ m := Nat.lt_of_lt_of_le ha (Nat.pow_le_pow_right (by decide) h)

def Is (p : Int × Int) (a b : Int) : Prop := p = mk a b ∧ b ≠ 0
theorem Ok.is {n : Nat} {p : Int × Int} (h : Ok n p) : Is p p.1 p.2 := ⟨(mk_self h.pos h.cop).symm, by have := h.pos; omega⟩
theorem Is.same {p q : Int × Int} {a b c d : Int} (hp : Is p a b) (hq : Is q c d) (e : a * d = c * b) : p = q := by
  rw [hp.1, hq.1]
  exact mk_eq hp.2 hq.2 e
theorem Is.add {p q : Int × Int} {a b c d : Int} (hp : Is p a b) (hq : Is q c d) : Is (add p q) (a * d + c * b) (b * d) := by
  refine ⟨?_, Int.mul_ne_zero hp.2 hq.2⟩
  unfold Fr.add
  have h1 := mk_cross (a := a) hp.2
  have h2 := mk_cross (a := c) hq.2
  rw [← hp.1] at h1
  rw [← hq.1] at h2
  have p0 : p.2 ≠ 0 := by rw [hp.1]; have := mk_pos (a := a) hp.2; omega
  have q0 : q.2 ≠ 0 := by rw [hq.1]; have := mk_pos (a := c) hq.2; omega
  refine mk_eq (Int.mul_ne_zero p0 q0) (Int.mul_ne_zero hp.2 hq.2) ?_
  rw [Int.add_mul, Int.add_mul]
  have e1 : p.1 * q.2 * (b * d) = a * d * (p.2 * q.2) := by
    calc p.1 * q.2 * (b * d) = (p.1 * b) * (q.2 * d) := by ac_rfl
      _ = (a * p.2) * (q.2 * d) := by rw [h1]
      _ = a * d * (p.2 * q.2) := by ac_rfl
  have e2 : q.1 * p.2 * (b * d) = c * b * (p.2 * q.2) := by
    calc q.1 * p.2 * (b * d) = (q.1 * d) * (p.2 * b) := by ac_rfl
      _ = (c * q.2) * (p.2 * b) := by rw [h2]
      _ = c * b * (p.2 * q.2) := by ac_rfl
  rw [e1, e2]
theorem Is.sub {p q : Int × Int} {a b c d : Int} (hp : Is p a b) (hq : Is q c d) : Is (sub p q) (a * d - c * b) (b * d) := by
  refine ⟨?_, Int.mul_ne_zero hp.2 hq.2⟩
  unfold Fr.sub
  have h1 := mk_cross (a := a) hp.2
  have h2 := mk_cross (a := c) hq.2
  rw [← hp.1] at h1
  rw [← hq.1] at h2
  have p0 : p.2 ≠ 0 := by rw [hp.1]; have := mk_pos (a := a) hp.2; omega
  have q0 : q.2 ≠ 0 := by rw [hq.1]; have := mk_pos (a := c) hq.2; omega
  refine mk_eq (Int.mul_ne_zero p0 q0) (Int.mul_ne_zero hp.2 hq.2) ?_
  rw [Int.sub_mul, Int.sub_mul]
  have e1 : p.1 * q.2 * (b * d) = a * d * (p.2 * q.2) := by
    calc p.1 * q.2 * (b * d) = (p.1 * b) * (q.2 * d) := by ac_rfl
      _ = (a * p.2) * (q.2 * d) := by rw [h1]
      _ = a * d * (p.2 * q.2) := by ac_rfl
  have e2 : q.1 * p.2 * (b * d) = c * b * (p.2 * q.2) := by
    calc q.1 * p.2 * (b * d) = (q.1 * d) * (p.2 * b) := by ac_rfl
      _ = (c * q.2) * (p.2 * b) := by rw [h2]
      _ = c * b * (p.2 * q.2) := by ac_rfl
  rw [e1, e2]
theorem Is.div {p q : Int × Int} {a b c d : Int} (hp : Is p a b) (hq : Is q c d) (h0 : c ≠ 0) : Is (div p q) (a * d) (b * c) := by
  refine ⟨?_, Int.mul_ne_zero hp.2 h0⟩
  unfold Fr.div
  have h1 := mk_cross (a := a) hp.2
  have h2 := mk_cross (a := c) hq.2
  rw [← hp.1] at h1
  rw [← hq.1] at h2
  have p0 : p.2 ≠ 0 := by rw [hp.1]; have := mk_pos (a := a) hp.2; omega
  have q0 : q.2 ≠ 0 := by rw [hq.1]; have := mk_pos (a := c) hq.2; omega
  have q1 : q.1 ≠ 0 := by
    intro z
    rw [z, Int.zero_mul] at h2
    exact (Int.mul_ne_zero h0 q0) h2.symm
  refine mk_eq (Int.mul_ne_zero p0 q1) (Int.mul_ne_zero hp.2 h0) ?_
  calc p.1 * q.2 * (b * c) = (p.1 * b) * (c * q.2) := by ac_rfl
    _ = (a * p.2) * (q.1 * d) := by rw [h1, h2]
    _ = a * d * (p.2 * q.1) := by ac_rfl
end Fr
namespace K37
open PySem PySem.Spec PyProof.Rows L2 G Th AL
abbrev Fq := Int × Int
def frV (x : Fq) : Val := .tup [.int x.1, .int x.2]
structure Bd (x : Int × Int) : Prop where
  pos : 0 < x.2
  b1 : x.1.natAbs < 2 ^ 900
  b2 : x.2.natAbs < 2 ^ 900
theorem at2 {α : Type} {x y z : α} {xs : List α} : atI (x :: y :: z :: xs) 2 = some z := atI_nat (j := 2) rfl
theorem fmod_lt {a b : Int} (h : 0 < b) : 0 ≤ a.fmod b ∧ a.fmod b < b := by
  rw [Int.fmod_eq_emod_of_nonneg a (by omega)]
  exact ⟨Int.emod_nonneg a (by omega), Int.emod_lt_of_pos a h⟩
end K37
namespace K37
open PySem PySem.Spec PyProof.Rows L2 G Th AL
theorem ss {S : Sto} {n : Nat} {o o' : Ob} (h : S[n]? = some o) : (S.set n o')[n]? = some o' := List.getElem?_set_self (List.getElem?_eq_some_iff.mp h).1
theorem sn {S : Sto} {k n : Nat} {o : Ob} (h : n ≠ k) : (S.set n o)[k]? = S[k]? := List.getElem?_set_ne h
theorem sa {S T : Sto} {n : Nat} {o : Ob} (h : S[n]? = some o) : (S ++ T)[n]? = some o := by
  rw [List.getElem?_append_left (List.getElem?_eq_some_iff.mp h).1]
  exact h
theorem sl {S : Sto} {o : Ob} : (S ++ [o])[S.length]? = some o := by simp

def Fr1 (S S' : Sto) : Prop := ∀ (k : Nat) (o : Ob), k ≠ 1 → S[k]? = some o → S'[k]? = some o
theorem Fr1.refl (S : Sto) : Fr1 S S := fun _ _ _ h => h
theorem Fr1.app (S T : Sto) : Fr1 S (S ++ T) := fun _ _ _ h => sa h
structure Tp (S : Sto) (B : Int) : Prop where
  ex : ∃ (ns : List Int) (i q n : Int), S[0]? = some (.lst (ns.map .int)) ∧ S[1]? = some (.lst [.ref 0, .int i, .int q, .int n]) ∧ 0 ≤ i ∧ 0 ≤ q ∧ 0 ≤ n ∧ n ≤ B ∧ ns.length ≤ 63
theorem Tp.app {S T : Sto} {B : Int} (h : Tp S B) : Tp (S ++ T) B := by
  obtain ⟨ns, i, q, n, h0, h1, r⟩ := h.ex
  exact ⟨ns, i, q, n, sa h0, sa h1, r⟩
theorem Tp.set {S : Sto} {B : Int} {k : Nat} {o : Ob} (h : Tp S B) (hk : 2 ≤ k) : Tp (S.set k o) B := by
  obtain ⟨ns, i, q, n, h0, h1, r⟩ := h.ex
  exact ⟨ns, i, q, n, by rw [sn (by omega)]; exact h0, by rw [sn (by omega)]; exact h1, r⟩
theorem mapO_ints {S : Sto} {k : Nat} : ∀ ns : List Int, mapO (toD S (k + 1)) (ns.map Val.int) = some (ns.map PyData.int)
  | [] => rfl
  | n :: r => by
    rw [List.map_cons, mapO, mapO_ints r]
    rfl
theorem lay_ints : ∀ ns : List Int, PyData.canLayAll0 (ns.map PyData.int) = true
  | [] => rfl
  | n :: r => by
    simp only [List.map_cons, PyData.canLayAll0, PyData.canLay0, Bool.true_and]
    exact lay_ints r
theorem depth_ints : ∀ ns : List Int, PyData.depthAll (ns.map PyData.int) ≤ 1
  | [] => by simp [PyData.depthAll]
  | n :: r => by
    have h := depth_ints r
    simp only [List.map_cons, PyData.depthAll, PyData.depth]
    omega
theorem shaped_ints (ns : List Int) : SeqAt.shaped (.list (ns.map PyData.int)) = true := by
  have h1 := depth_ints ns
  show (PyData.canLay0 (.list (ns.map PyData.int)) && decide (PyData.depth (.list (ns.map PyData.int)) ≤ 64)) = true
  rw [Bool.and_eq_true]
  refine ⟨by simp only [PyData.canLay0]; exact lay_ints ns, decide_eq_true ?_⟩
  simp only [PyData.depth]
  omega

theorem ne_nil {S : Sto} {a b : Nat} {ns : List Int} (h0 : S[a]? = some (.lst (ns.map .int))) (h1 : S[b]? = some (.lst [])) : gNe (.ref a) (.ref b) S = some (.bl (!ns.isEmpty), S) := by
  have d0 : toD S 40 (.ref a) = some (.list (ns.map PyData.int)) := by
    rw [show (40 : Nat) = 38 + 1 + 1 from rfl, toD]
    simp only [h0, mapO_ints, Option.map_some]
  have d1 : toD S 40 (.ref b) = some (.list []) := by
    rw [show (40 : Nat) = 38 + 1 + 1 from rfl, toD]
    simp only [h1, mapO, Option.map_some]
  unfold gNe eqA
  simp only [eqS, d0, d1, shaped_ints ns, show SeqAt.shaped (.list []) = true from by decide, and_self, if_true, Option.map_some]
  cases ns <;> rfl
theorem small_pow {x : Int} (h0 : 0 ≤ x) (h1 : x < 2 ^ 63) : CPow x 5 := ⟨by decide, by decide, by have : (2 : Int) ^ 63 = 9223372036854775808 := rfl; have : (2 : Nat) ^ 64 = 18446744073709551616 := rfl; omega⟩
theorem pow18 : CPow 10 18 := ⟨by decide, by decide, by decide⟩
theorem at_ints {L : List Int} {d : Int} (h0 : 0 ≤ d) (h1 : d < (L.length : Int)) : ∃ v, atI (L.map Val.int) d = some (.int v) ∧ v ∈ L := by
  obtain ⟨n, rfl⟩ := Int.eq_ofNat_of_zero_le h0
  have hn : n < L.length := by omega
  refine ⟨L[n], atI_nat (j := n) ?_, List.getElem_mem hn⟩
  rw [List.getElem?_map, List.getElem?_eq_getElem hn]
  rfl

end K37
namespace K37
open PySem PySem.Spec PyProof.Rows L2 G Th AL
structure Hs where
  name : Str
  slow : Fq
  fast : Fq
structure Lk where
  fr : Str
  to : Str
  least : Fq
  most : Option Fq
structure Fl where
  hs : List Hs
  ls : List Lk
  src : Str
inductive Dd where
  | mark | send (l : Nat) | hear (k : Nat)
structure Ev where
  name : Str
  stamp : Fq
  deed : Dd
abbrev Pr := Option Fq × Option Fq
structure Mv where
  x : Nat
  lo : Fq
  hi : Option Fq
def oV : Option Fq → Val
  | none => .non
  | some x => frV x
def prV (p : Pr) : Val := .tup [oV p.1, oV p.2]
def hsV (h : Hs) : Val := .tup [.str h.name, frV h.slow, frV h.fast]
def lkV (l : Lk) : Val := .tup [.str l.fr, .str l.to, frV l.least, oV l.most]
def flV (f : Fl) : Val := .tup [.tup (f.hs.map hsV), .tup (f.ls.map lkV), .str f.src]
def ddV : Dd → Val
  | .mark => .tup [.str "mark"]
  | .send l => .tup [.str "send", .int (l : Nat)]
  | .hear k => .tup [.str "hear", .int (k : Nat)]
def evV (e : Ev) : Val := .tup [.str e.name, frV e.stamp, ddV e.deed]
def hiV (f : Fl) (es : List Ev) : Val := .tup [flV f, .tup (es.map evV)]
def addO : Option Fq → Option Fq → Option Fq
  | some a, some b => some (Fr.add a b)
  | _, _ => none
def sel (b : Bool) (p : Pr) : Option Fq := if b then p.2 else p.1
def sI (b : Bool) : Val := .int (if b then 1 else 0)
def endOf (ps : List Pr) (b : Bool) (m : Mv) : Option Fq := addO (sel b (ps.getD m.x (none, none))) (sel b (some m.lo, m.hi))
end K37
namespace K37
open PySem PySem.Spec PyProof.Rows L2 G Th AL
def leastO (acc : Option Fq) (x : Fq) : Option Fq := match acc with
  | none => some x
  | some g => if x.1 * g.2 < g.1 * x.2 then some x else some g
def least (qs : List Fq) : Option Fq := qs.foldl leastO none
def greatestO (acc : Option Fq) (x : Fq) : Option Fq := match acc with
  | none => some x
  | some g => if g.1 * x.2 < x.1 * g.2 then some x else some g
def greatest (qs : List Fq) : Option Fq := qs.foldl greatestO none
def driftOf (fl : Fl) (n : Str) : Option Hs := fl.hs.find? fun h => decide (h.name = n)
end K37
namespace K37
open PySem PySem.Spec PyProof.Rows L2 G Th AL
theorem seq {g1 g2 : SF} {ρ ρ1 : Rho} {S S1 : Sto} (h : g1 ρ S = .nx ρ1 S1) : sSeq g1 g2 ρ S = g2 ρ1 S1 := by
  unfold sSeq
  rw [h]
def dEv : Ev := ⟨"a", (0, 1), .mark⟩
def linkAt (fl : Fl) (es : List Ev) (k : Nat) : Option Lk := match (es.getD k dEv).deed with
  | .send l => fl.ls[l]?
  | _ => none
def mv1 (fl : Fl) (es : List Ev) (last : Option Nat) (e : Ev) : List Mv := match last, driftOf fl e.name with
  | some j, some h => [⟨j, Fr.div (Fr.sub e.stamp (es.getD j dEv).stamp) h.fast, some (Fr.div (Fr.sub e.stamp (es.getD j dEv).stamp) h.slow)⟩]
  | _, _ => []
def mv2 (fl : Fl) (es : List Ev) : Dd → List Mv
  | .hear k => match linkAt fl es k with
    | some l => [⟨k, l.least, l.most⟩]
    | none => []
  | _ => []
def movesInto (fl : Fl) (es : List Ev) (last : Option Nat) (e : Ev) : List Mv := mv1 fl es last e ++ mv2 fl es e.deed
end K37
namespace K37
open PySem PySem.Spec PyProof.Rows L2 G Th AL
theorem valA_put (d : List (Key × Val)) (k k' : Key) (v : Val) : valA (putA d k v) k' = if k' = k then some v else valA d k' := by
  unfold putA
  split
  · next h =>
    induction d with
    | nil => simp at h
    | cons p d ih =>
      rw [List.map_cons]
      by_cases e : p.1 = k
      · by_cases e2 : k' = k
        · subst e2
          simp [valA, List.find?_cons, e]
        · have e3 : ¬ k = k' := fun z => e2 z.symm
          have e4 : ¬ p.1 = k' := fun z => e2 (z.symm.trans e)
          simp only [valA, List.find?_cons, e, if_true, e3, decide_false, if_neg e2]
          by_cases h' : (d.any fun kv => decide (kv.1 = k)) = true
          · have := ih h'
            simp only [valA, if_neg e2] at this
            exact this
          · have nm : d.map (fun kv => if kv.1 = k then (kv.1, v) else kv) = d := by
              conv => rhs; rw [← List.map_id d]
              apply List.map_congr_left
              intro q hq
              have : ¬ q.1 = k := fun z => h' (List.any_eq_true.mpr ⟨q, hq, decide_eq_true z⟩)
              simp [this]
            rw [nm]
      · have h' : (d.any fun kv => decide (kv.1 = k)) = true := by
          rw [List.any_cons, decide_eq_false e, Bool.false_or] at h
          exact h
        have := ih h'
        simp only [valA] at this
        by_cases e2 : p.1 = k'
        · have e3 : ¬ k' = k := fun z => e (e2.trans z)
          simp [valA, List.find?_cons, e, e2, e3]
        · simp only [valA, List.find?_cons, e, if_false, e2, decide_false]
          exact this
  · next h =>
    unfold valA
    rw [List.find?_append]
    by_cases e : k' = k
    · subst e
      have nn : d.find? (fun kv => decide (kv.1 = k')) = none := by
        rw [List.find?_eq_none]
        intro x hx hd
        exact h (List.any_eq_true.mpr ⟨x, hx, hd⟩)
      simp [nn]
    · have e3 : ¬ k = k' := fun z => e z.symm
      simp only [List.find?_cons, e3, decide_false, List.find?_nil, Option.or_none, if_neg e]
theorem putA_len (d : List (Key × Val)) (k : Key) (v : Val) : (putA d k v).length ≤ d.length + 1 := by
  unfold putA
  split <;> simp
def lastAt (es : List Ev) : Nat → Str → Option Nat
  | 0, _ => none
  | i + 1, n => if (es.getD i dEv).name = n then some i else lastAt es i n
theorem lastAt_lt {es : List Ev} {n : Str} : ∀ {i j : Nat}, lastAt es i n = some j → j < i
  | 0, _, h => by cases h
  | i + 1, j, h => by
    unfold lastAt at h
    split at h
    · cases h; omega
    · have := lastAt_lt h; omega
def row (fl : Fl) (es : List Ev) (i : Nat) : List Mv := movesInto fl es (lastAt es i (es.getD i dEv).name) (es.getD i dEv)
end K37
local macro_rules | `(tactic| array_mem_dec) => `(tactic| first | assumption | (refine AL.Kn.at (by assumption) ?_; array_mem_dec) | (refine AL.Kx.at (by assumption) (by omega) ?_; array_mem_dec))
local macro_rules | `(tactic| sizeOf_list_dec) => `(tactic| ((with_reducible refine AL.brF ?_ ?_); exact rfl))
local macro_rules | `(tactic| sizeOf_list_dec) => `(tactic| ((with_reducible refine AL.brT ?_ ?_); exact rfl))
local macro_rules | `(tactic| sizeOf_list_dec) => `(tactic| ((with_reducible refine AL.sd ?_ ?_); first | exact rfl | exact of_decide_eq_true rfl | exact AL.isL_of (by array_mem_dec) | exact ⟨rfl, rfl⟩))
local macro_rules | `(tactic| sizeOf_list_dec) => `(tactic| ((with_reducible apply AL.bn); rfl; try dsimp only [List.set_cons_zero, List.set_cons_succ]))
local macro_rules | `(tactic| sizeOf_list_dec) => `(tactic| ((with_reducible apply AL.ti); rfl))
local macro_rules | `(tactic| sizeOf_list_dec) => `(tactic| ((with_reducible apply AL.tb); rfl))
local macro_rules | `(tactic| sizeOf_list_dec) => `(tactic| ((with_reducible apply AL.vIxL); rfl; rfl; array_mem_dec; rfl))
local macro_rules | `(tactic| sizeOf_list_dec) => `(tactic| ((with_reducible apply AL.vTupL); rfl; array_mem_dec))
local macro_rules | `(tactic| sizeOf_list_dec) => `(tactic| ((with_reducible apply AL.vLenL); rfl; array_mem_dec))
local macro_rules | `(tactic| sizeOf_list_dec) => `(tactic| ((with_reducible apply AL.vLenT); rfl))
local macro_rules | `(tactic| sizeOf_list_dec) => `(tactic| ((with_reducible apply AL.vMod); rfl; rfl))
local macro_rules | `(tactic| sizeOf_list_dec) => `(tactic| ((with_reducible apply AL.vDiv); rfl; rfl))
local macro_rules | `(tactic| sizeOf_list_dec) => `(tactic| ((with_reducible apply AL.vMul); rfl; rfl))
local macro_rules | `(tactic| sizeOf_list_dec) => `(tactic| ((with_reducible apply AL.vAbs); rfl))
local macro_rules | `(tactic| sizeOf_list_dec) => `(tactic| ((with_reducible apply AL.vNeg); rfl))
local macro_rules | `(tactic| sizeOf_list_dec) => `(tactic| ((with_reducible apply AL.vNe); rfl))
local macro_rules | `(tactic| sizeOf_list_dec) => `(tactic| ((with_reducible apply AL.vEq); rfl))
local macro_rules | `(tactic| sizeOf_list_dec) => `(tactic| ((with_reducible apply AL.vIsN); rfl))
local macro_rules | `(tactic| sizeOf_list_dec) => `(tactic| ((with_reducible apply AL.vIsi); rfl; first | exact AL.kit_int_int | exact AL.kit_int_bool | exact AL.kit_tuple_tuple | exact AL.kit_str_str | exact AL.kit_bool_bool | exact AL.kit_NoneType_tuple | exact AL.kit_NoneType_int | exact AL.kit_int_tuple | exact AL.kit_str_int | exact AL.kit_tuple_int))
local macro_rules | `(tactic| sizeOf_list_dec) => `(tactic| ((with_reducible apply AL.vIsNT); rfl; rfl))
local macro_rules | `(tactic| sizeOf_list_dec) => `(tactic| ((with_reducible apply AL.vIsT); rfl; rfl))
local macro_rules | `(tactic| sizeOf_list_dec) => `(tactic| ((with_reducible apply AL.vIs); rfl))
local macro_rules | `(tactic| sizeOf_list_dec) => `(tactic| ((with_reducible apply AL.vAdd); rfl; rfl))
local macro_rules | `(tactic| sizeOf_list_dec) => `(tactic| ((with_reducible apply AL.vI); rfl; rfl))
local macro_rules | `(tactic| sizeOf_list_dec) => `(tactic| ((with_reducible apply AL.vIxT); rfl; rfl; rfl))
local macro_rules | `(tactic| sizeOf_list_dec) => `(tactic| with_reducible refine AL.wiT ?_)
local macro_rules | `(tactic| sizeOf_list_dec) => `(tactic| with_reducible refine AL.wiE ?_)
local macro_rules | `(tactic| sizeOf_list_dec) => `(tactic| with_reducible refine AL.wiR2 ?_)
local macro_rules | `(tactic| sizeOf_list_dec) => `(tactic| with_reducible refine AL.wiR ?_)
local macro_rules | `(tactic| sizeOf_list_dec) => `(tactic| with_reducible refine AL.vGet2 ?_)
local macro_rules | `(tactic| sizeOf_list_dec) => `(tactic| with_reducible refine AL.vGet1 ?_)
local macro_rules | `(tactic| sizeOf_list_dec) => `(tactic| with_reducible refine AL.woS ?_)
local macro_rules | `(tactic| sizeOf_list_dec) => `(tactic| with_reducible refine AL.woN ?_)
local macro_rules | `(tactic| sizeOf_list_dec) => `(tactic| with_reducible refine AL.wSl ?_)
local macro_rules | `(tactic| sizeOf_list_dec) => `(tactic| with_reducible refine AL.wLc ?_)
local macro_rules | `(tactic| sizeOf_list_dec) => `(tactic| with_reducible refine AL.wDic ?_)
local macro_rules | `(tactic| sizeOf_list_dec) => `(tactic| with_reducible refine AL.wU ?_)
local macro_rules | `(tactic| sizeOf_list_dec) => `(tactic| with_reducible refine AL.weCh ?_)
local macro_rules | `(tactic| sizeOf_list_dec) => `(tactic| with_reducible refine AL.weI ?_)
local macro_rules | `(tactic| sizeOf_list_dec) => `(tactic| with_reducible refine AL.weN ?_)
local macro_rules | `(tactic| sizeOf_list_dec) => `(tactic| with_reducible refine AL.weO ?_)
local macro_rules | `(tactic| sizeOf_list_dec) => `(tactic| with_reducible refine AL.weA ?_)
local macro_rules | `(tactic| sizeOf_list_dec) => `(tactic| with_reducible refine AL.wbY ?_)
local macro_rules | `(tactic| sizeOf_list_dec) => `(tactic| with_reducible refine AL.wbN ?_)
local macro_rules | `(tactic| sizeOf_list_dec) => `(tactic| with_reducible refine AL.wbO ?_)
local macro_rules | `(tactic| sizeOf_list_dec) => `(tactic| with_reducible refine AL.wbA ?_)
local macro_rules | `(tactic| sizeOf_list_dec) => `(tactic| with_reducible refine AL.ws_nil ?_)
local macro_rules | `(tactic| sizeOf_list_dec) => `(tactic| with_reducible refine AL.ws_for ?_)
local macro_rules | `(tactic| sizeOf_list_dec) => `(tactic| with_reducible refine AL.ws_sub ?_)
local macro_rules | `(tactic| sizeOf_list_dec) => `(tactic| with_reducible refine AL.ws_par ?_)
local macro_rules | `(tactic| sizeOf_list_dec) => `(tactic| with_reducible refine AL.ws_expr ?_)
local macro_rules | `(tactic| sizeOf_list_dec) => `(tactic| with_reducible refine AL.wMt ?_)
local macro_rules | `(tactic| sizeOf_list_dec) => `(tactic| with_reducible refine AL.wLst ?_)
local macro_rules | `(tactic| sizeOf_list_dec) => `(tactic| with_reducible refine AL.wTup ?_)
local macro_rules | `(tactic| sizeOf_list_dec) => `(tactic| with_reducible refine AL.wiZ ?_)
local macro_rules | `(tactic| sizeOf_list_dec) => `(tactic| with_reducible refine AL.wDefK ?_)
local macro_rules | `(tactic| sizeOf_list_dec) => `(tactic| with_reducible refine AL.wCall ?_)
local macro_rules | `(tactic| sizeOf_list_dec) => `(tactic| with_reducible refine AL.wDef ?_)
local macro_rules | `(tactic| sizeOf_list_dec) => `(tactic| with_reducible refine AL.wT ?_)
local macro_rules | `(tactic| sizeOf_list_dec) => `(tactic| with_reducible refine AL.ws_ret ?_)
local macro_rules | `(tactic| sizeOf_list_dec) => `(tactic| with_reducible refine AL.ws_if ?_)
local macro_rules | `(tactic| sizeOf_list_dec) => `(tactic| with_reducible refine AL.ws_asg ?_)
local macro_rules | `(tactic| sizeOf_list_dec) => `(tactic| with_reducible refine AL.wa0 ?_)
local macro_rules | `(tactic| sizeOf_list_dec) => `(tactic| with_reducible refine AL.wa1 ?_)
local macro_rules | `(tactic| sizeOf_list_dec) => `(tactic| with_reducible refine AL.wc ?_)
local macro_rules | `(tactic| sizeOf_list_dec) => `(tactic| with_reducible refine AL.wB ?_)
local macro_rules | `(tactic| sizeOf_list_dec) => `(tactic| ((with_reducible apply AL.wv); rfl))
local macro_rules | `(tactic| sizeOf_list_dec) => `(tactic| with_reducible refine AL.ws_seq ?_)
local macro_rules | `(tactic| array_get_dec) => `(tactic| repeat sizeOf_list_dec)
namespace K37
open PySem PySem.Spec PyProof.Rows L2 G Th AL
def keptOf (fl : Fl) (e : Ev) (ms : List Mv) (ps : List Pr) : Pr := if e.name = fl.src then (some e.stamp, some e.stamp) else (greatest (ms.filterMap (endOf ps false)), least (ms.filterMap (endOf ps true)))
def pairsUp (fl : Fl) (es : List Ev) : Nat → List Pr
  | 0 => []
  | i + 1 => pairsUp fl es i ++ [keptOf fl (es.getD i dEv) (row fl es i) (pairsUp fl es i)]
end K37
namespace K37
open PySem PySem.Spec PyProof.Rows L2 G Th AL
def l1 (fl : Fl) (es : List Ev) (ps : List Pr) (b : Bool) (i : Nat) : Option Fq := ((mv1 fl es (lastAt es i (es.getD i dEv).name) (es.getD i dEv)).filterMap (endOf ps b)).head?
end K37
namespace K37
open PySem PySem.Spec PyProof.Rows L2 G Th AL
def a1 (fl : Fl) (es : List Ev) (i : Nat) (b : Bool) : Option Fq := match lastAt es i (es.getD i dEv).name, driftOf fl (es.getD i dEv).name with
  | some j, some h => endOf (pairsUp fl es i) b ⟨j, Fr.div (Fr.sub (es.getD i dEv).stamp (es.getD j dEv).stamp) h.fast, some (Fr.div (Fr.sub (es.getD i dEv).stamp (es.getD j dEv).stamp) h.slow)⟩
  | _, _ => none
def a2 (fl : Fl) (es : List Ev) (i : Nat) (b : Bool) : Option Fq := match (es.getD i dEv).deed with
  | .hear k => match linkAt fl es k with
    | some l => endOf (pairsUp fl es i) b ⟨k, l.least, l.most⟩
    | none => none
  | _ => none
end K37
namespace K37
open PySem PySem.Spec PyProof.Rows L2 G Th AL
end K37
namespace K37
open PySem PySem.Spec PyProof.Rows L2 G Th AL
end K37
namespace K37
open PySem PySem.Spec PyProof.Rows L2 G Th AL
def slows : List Fq := [(1, 1), (1, 2), (3, 4)]
def fasts : List Fq := [(1, 1), (5, 4), (3, 2), (2, 1)]
def TxOk (x : Str) : Prop := PyData.strOk x = true ∧ x.cps.size ≤ 8
def leasts : List Fq := [(0, 1), (1, 2), (1, 1), (2, 1)]
def mores : List (Option Fq) := [none, some (0, 1), some (1, 1), some (3, 1)]

def LkS (l : Lk) : Prop := (l.least ∈ leasts ∧ l.fr ≠ l.to) ∧ ∀ m, l.most = some m → ∃ x, some x ∈ mores ∧ m = Fr.add l.least x
structure FlOk (fl : Fl) : Prop where
  nd : (fl.hs.map Hs.name).Nodup
  ne : 0 < fl.hs.length
  few : fl.hs.length ≤ 6
  rate : ∀ h ∈ fl.hs, h.slow ∈ slows ∧ h.fast ∈ fasts
  lk : ∀ l ∈ fl.ls, Fr.Ok 4 l.least ∧ ∀ m, l.most = some m → Fr.Ok 10 m
  lfew : fl.ls.length ≤ 8
  tx : (∀ h ∈ fl.hs, TxOk h.name) ∧ (∀ l ∈ fl.ls, TxOk l.fr ∧ TxOk l.to) ∧ TxOk fl.src
  one : ∀ h ∈ fl.hs, h.name = fl.src → h.slow = (1, 1) ∧ h.fast = (1, 1)
  lks : ∀ l ∈ fl.ls, LkS l
def StOk (x : Fq) : Prop := ∃ k : Int, x = Fr.mk k 4 ∧ k.natAbs ≤ 1000
structure EvOk (fl : Fl) (es : List Ev) (i : Nat) : Prop where
  name : (es.getD i dEv).name ∈ fl.hs.map Hs.name
  st : StOk (es.getD i dEv).stamp
  send : ∀ l, (es.getD i dEv).deed = .send l → l < fl.ls.length
  hear : ∀ k, (es.getD i dEv).deed = .hear k → k < i ∧ ∃ l, (es.getD k dEv).deed = .send l
structure HV (fl : Fl) (es : List Ev) : Prop where
  len : es.length ≤ 30
  ev : ∀ i, i < es.length → EvOk fl es i
theorem StOk.ok {x : Fq} (h : StOk x) : Fr.Ok 10 x := by
  obtain ⟨k, rfl, hk⟩ := h
  exact Fr.mk_ok (by decide) (Nat.lt_of_le_of_lt hk (by decide)) (by decide)
theorem Bd.of {n : Nat} {x : Fq} (h : Fr.Ok n x) (hn : n ≤ 900) : Bd x := ⟨h.pos, Fr.bmono h.b1 hn, Fr.bmono h.b2 hn⟩
theorem slow_ok {x : Fq} (h : x ∈ slows) : Fr.Ok 3 x ∧ 0 < x.1 := by
  simp only [slows, List.mem_cons, List.not_mem_nil, or_false] at h
  rcases h with rfl | rfl | rfl <;> exact ⟨⟨by decide, by decide, by decide, by decide⟩, by decide⟩
theorem fast_ok {x : Fq} (h : x ∈ fasts) : Fr.Ok 3 x ∧ 0 < x.1 := by
  simp only [fasts, List.mem_cons, List.not_mem_nil, or_false] at h
  rcases h with rfl | rfl | rfl | rfl <;> exact ⟨⟨by decide, by decide, by decide, by decide⟩, by decide⟩
theorem drift_some {fl : Fl} {n : Str} (h : n ∈ fl.hs.map Hs.name) : ∃ x, driftOf fl n = some x ∧ x ∈ fl.hs := by
  obtain ⟨y, hy, rfl⟩ := List.mem_map.mp h
  unfold driftOf
  cases e : fl.hs.find? (fun z => decide (z.name = y.name)) with
  | none =>
    rw [List.find?_eq_none] at e
    exact absurd (decide_eq_true rfl) (e y hy)
  | some x => exact ⟨x, rfl, List.mem_of_find?_eq_some e⟩
section
variable {fl : Fl} {es : List Ev}
def POk (n : Nat) (p : Pr) : Prop := ∀ b x, sel b p = some x → Fr.Ok n x
end
end K37
namespace K37
open PySem PySem.Spec PyProof.Rows L2 G Th AL
theorem Tp.fr {S S' : Sto} {B : Int} (h : Tp S B) (k : Kn S S') : Tp S' B := by
  obtain ⟨ns, i, q, n, h0, h1, r⟩ := h.ex
  exact ⟨ns, i, q, n, k _ _ h0, k _ _ h1, r⟩
theorem Fr1.len {S S' : Sto} (h : Fr1 S S') (h2 : 2 < S.length) : S.length ≤ S'.length := by
  have l : S.length - 1 < S.length := by omega
  have := h (S.length - 1) _ (by omega) (List.getElem?_eq_getElem l)
  have := (List.getElem?_eq_some_iff.mp this).1
  omega
end K37
namespace K37
open PySem PySem.Spec PyProof.Rows L2 G Th AL
theorem p40 : (2 : Int) ^ 40 = 1099511627776 := by decide
theorem p60 : (2 : Int) ^ 60 = 1152921504606846976 := by decide
section
variable {T : Sto} {B : Int} {P N Hh L : Nat} {sr : Str} {nm : List Str} {y3 y4 y8 y9 y10 y11 y12 y13 : Option Val}
end
end K37
namespace K37
open PySem PySem.Spec PyProof.Rows L2 G Th AL
end K37
namespace K37
open PySem PySem.Spec PyProof.Rows L2 G Th AL
end K37
namespace K37
open PySem PySem.Spec PyProof.Rows L2 G Th AL
theorem merge_app : ∀ (kvs acc : List (Key × Val)), ((acc ++ kvs).map (·.1)).Nodup → mergeA acc kvs = acc ++ kvs
  | [], acc, _ => by simp [mergeA]
  | p :: r, acc, h => by
    have e : mergeA acc (p :: r) = mergeA (putA acc p.1 p.2) r := rfl
    have na : (acc.any fun kv => decide (kv.1 = p.1)) = false := by
      rw [List.any_eq_false]
      intro x hx hd
      rw [List.map_append, List.nodup_append] at h
      exact h.2.2 x.1 (List.mem_map.mpr ⟨x, hx, rfl⟩) p.1 (by simp) (of_decide_eq_true hd)
    have pa : putA acc p.1 p.2 = acc ++ [p] := by
      unfold putA
      rw [na]
      rfl
    rw [e, pa, merge_app r _ (by rwa [List.append_assoc])]
    rw [List.append_assoc]
    rfl

def Qk (x : Fq) (n : Nat) : Prop := ∃ k : Int, x = Fr.mk k 4 ∧ k.natAbs ≤ n
theorem Qk.ok {x : Fq} {n : Nat} (h : Qk x n) (hn : n ≤ 1000) : Fr.Ok 10 x := by
  obtain ⟨k, rfl, hk⟩ := h
  exact Fr.mk_ok (by decide) (Nat.lt_of_le_of_lt (Nat.le_trans hk hn) (by decide)) (by decide)
theorem mk_int (x : Int) : Fr.mk (x * 4) 4 = (x, 1) := by
  rw [Fr.mk_eq (c := x) (d := 1) (by decide) (by decide) (by omega)]
  exact Fr.mk_self (by decide) (by simp)
theorem Qk.int {x : Int} {n : Nat} (h : x.natAbs * 4 ≤ n) : Qk (x, 1) n := ⟨x * 4, (mk_int x).symm, by rw [Int.natAbs_mul]; exact h⟩
theorem Qk.add {x y : Fq} {n m : Nat} (hx : Qk x n) (hy : Qk y m) : Qk (Fr.add x y) (n + m) := by
  obtain ⟨k, rfl, hk⟩ := hx
  obtain ⟨l, rfl, hl⟩ := hy
  refine ⟨k + l, ?_, by omega⟩
  have i1 : Fr.Is (Fr.mk k 4) k 4 := ⟨rfl, by decide⟩
  have i2 : Fr.Is (Fr.mk l 4) l 4 := ⟨rfl, by decide⟩
  exact (i1.add i2).same ⟨rfl, by decide⟩ (by omega)

theorem getD_l {es : List Ev} {e : Ev} {j : Nat} (h : j < es.length) : (es ++ [e]).getD j dEv = es.getD j dEv := by
  simp [List.getD, List.getElem?_append_left h]
theorem getD_r {es : List Ev} {e : Ev} : (es ++ [e]).getD es.length dEv = e := by
  simp [List.getD]
end K37
namespace K37
open PySem PySem.Spec PyProof.Rows L2 G Th AL
end K37
namespace Fr
def q (p : Int × Int) : Rat := (p.1 : Rat) / (p.2 : Rat)
variable {p r : Int × Int} {a b : Int}
theorem c0 (h : b ≠ 0) : (b : Rat) ≠ 0 := fun z => h (Rat.intCast_eq_zero_iff.mp z)
end Fr
namespace KL
open PySem PySem.Spec PyProof.Rows L2 G Th AL K37 Fr
def Can (fl : Fl) (es : List Ev) (hrs : List Int) (t : Int) (k : Nat) : Prop := k < es.length ∧ ∃ l lk, (es.getD k dEv).deed = .send l ∧ fl.ls[l]? = some lk ∧ q lk.least ≤ ((t - hrs.getD k 0 : Int) : Rat) ∧ ∀ m, lk.most = some m → ((t - hrs.getD k 0 : Int) : Rat) ≤ q m
end KL
namespace KL
open PySem PySem.Spec PyProof.Rows L2 G Th AL K37 Fr

structure Tru (fl : Fl) (es : List Ev) (bg : Int) (hrs : List Int) : Prop where
  len : hrs.length = es.length
  src : ∀ j, j < es.length → (es.getD j dEv).name = fl.src → q (es.getD j dEv).stamp = ((bg + hrs.getD j 0 : Int) : Rat)
  go : ∀ j i h, j < es.length → lastAt es j (es.getD j dEv).name = some i → driftOf fl (es.getD j dEv).name = some h →
    q h.slow * ((hrs.getD j 0 - hrs.getD i 0 : Int) : Rat) ≤ q (es.getD j dEv).stamp - q (es.getD i dEv).stamp ∧ q (es.getD j dEv).stamp - q (es.getD i dEv).stamp ≤ q h.fast * ((hrs.getD j 0 - hrs.getD i 0 : Int) : Rat) ∧ hrs.getD i 0 ≤ hrs.getD j 0
  hear : ∀ j k, j < es.length → (es.getD j dEv).deed = .hear k → Can fl (es.take j) hrs (hrs.getD j 0) k
theorem lastAt_app {es : List Ev} {e : Ev} {n : Str} : ∀ j, j ≤ es.length → lastAt (es ++ [e]) j n = lastAt es j n
  | 0, _ => rfl
  | j + 1, h => by
    rw [lastAt, lastAt, getD_l (by omega), lastAt_app j (by omega)]
theorem hget_l {hrs : List Int} {x : Int} {j : Nat} (h : j < hrs.length) : (hrs ++ [x]).getD j 0 = hrs.getD j 0 := by
  simp [List.getD, List.getElem?_append_left h]
theorem hget_r {hrs : List Int} {x : Int} : (hrs ++ [x]).getD hrs.length 0 = x := by
  simp [List.getD]
theorem Can.app {fl : Fl} {es es' : List Ev} {hrs hrs' : List Int} {t : Int} {k : Nat} (h : Can fl es hrs t k) (h1 : ∀ k, k < es.length → es'.getD k dEv = es.getD k dEv ∧ hrs'.getD k 0 = hrs.getD k 0) (h2 : es.length ≤ es'.length) : Can fl es' hrs' t k := by
  obtain ⟨hk, l, lk, a, b, c, d⟩ := h
  obtain ⟨e1, e2⟩ := h1 k hk
  exact ⟨by omega, l, lk, by rw [e1]; exact a, b, by rw [e2]; exact c, by rw [e2]; exact d⟩
theorem Tru.snoc {fl : Fl} {es : List Ev} {bg : Int} {hrs : List Int} {e : Ev} {x : Int} (T : Tru fl es bg hrs) (h1 : e.name = fl.src → q e.stamp = ((bg + x : Int) : Rat))
    (h2 : ∀ i h, lastAt es es.length e.name = some i → driftOf fl e.name = some h → q h.slow * ((x - hrs.getD i 0 : Int) : Rat) ≤ q e.stamp - q (es.getD i dEv).stamp ∧ q e.stamp - q (es.getD i dEv).stamp ≤ q h.fast * ((x - hrs.getD i 0 : Int) : Rat) ∧ hrs.getD i 0 ≤ x)
    (h3 : ∀ k, e.deed = .hear k → Can fl es hrs x k) : Tru fl (es ++ [e]) bg (hrs ++ [x]) := by
  have hl := T.len
  refine ⟨by simp [hl], fun j hj hn => ?_, fun j i h hj hi hd => ?_, fun j k hj hd => ?_⟩
  · by_cases z : j < es.length
    · rw [getD_l z] at hn ⊢
      rw [hget_l (by omega)]
      exact T.src j z hn
    · have : j = es.length := by simp at hj; omega
      subst this
      rw [getD_r] at hn ⊢
      rw [← hl, hget_r]
      exact h1 hn
  · by_cases z : j < es.length
    · rw [getD_l z] at hi hd ⊢
      rw [lastAt_app _ (by omega)] at hi
      have := lastAt_lt hi
      rw [hget_l (by omega), hget_l (by omega), getD_l (by omega)]
      exact T.go j i h z hi hd
    · have : j = es.length := by simp at hj; omega
      subst this
      rw [getD_r] at hi hd ⊢
      rw [lastAt_app _ (Nat.le_refl _)] at hi
      have := lastAt_lt hi
      rw [getD_l (by omega), hget_l (j := i) (by omega), ← hl, hget_r]
      exact h2 i h hi hd
  · by_cases z : j < es.length
    · rw [getD_l z] at hd
      rw [hget_l (by omega), List.take_append_of_le_length (by omega)]
      refine (T.hear j k z hd).app (fun k hk => ⟨rfl, hget_l ?_⟩) (Nat.le_refl _)
      rw [List.length_take] at hk
      omega
    · have : j = es.length := by simp at hj; omega
      subst this
      rw [getD_r] at hd
      rw [← hl, hget_r, hl, List.take_append_of_le_length (Nat.le_refl _), List.take_length]
      exact (h3 k hd).app (fun k hk => ⟨rfl, hget_l (by omega)⟩) (Nat.le_refl _)
theorem slow_le {x : Fq} (h : x ∈ slows) : q x ≤ 1 ∧ 0 < q x := by
  simp only [slows, List.mem_cons, List.not_mem_nil, or_false] at h
  rcases h with rfl | rfl | rfl <;> exact ⟨by decide +kernel, by decide +kernel⟩
end KL
namespace K37
open PySem PySem.Spec PyProof.Rows L2 G Th AL
end K37
namespace K37
open PySem PySem.Spec PyProof.Rows L2 G Th AL
end K37
namespace K37
open PySem PySem.Spec PyProof.Rows L2 G Th AL
end K37
namespace K37
open PySem PySem.Spec PyProof.Rows L2 G Th AL

def Sh (n w : Nat) (v : Val) : Prop := ∃ d : PyData, okD d = true ∧ d.weight ≤ w ∧ d.depth ≤ n ∧ ∀ (S : Sto) (k : Nat), n < k → toD S k v = some d
def ShL (n w : Nat) (vs : List Val) : Prop := ∃ ds : List PyData, okAll ds = true ∧ PyData.weightAll ds ≤ w ∧ PyData.depthAll ds ≤ n ∧ ∀ (S : Sto) (k : Nat), n < k → mapO (toD S k) vs = some ds
theorem Sh.mono {n w n' w' : Nat} {v : Val} (h : Sh n w v) (hn : n ≤ n') (hw : w ≤ w') : Sh n' w' v := by
  obtain ⟨d, h1, h2, h3, h4⟩ := h
  exact ⟨d, h1, by omega, by omega, fun S k hk => h4 S k (by omega)⟩
theorem ShL.nil {n w : Nat} : ShL n w [] := ⟨[], rfl, by simp [PyData.weightAll], by simp [PyData.depthAll], fun S k hk => rfl⟩
theorem ShL.cons {n w w' : Nat} {v : Val} {vs : List Val} (h : Sh n w v) (hs : ShL n w' vs) : ShL n (w + 1 + w') (v :: vs) := by
  obtain ⟨d, h1, h2, h3, h4⟩ := h
  obtain ⟨ds, g1, g2, g3, g4⟩ := hs
  refine ⟨d :: ds, ?_, ?_, ?_, fun S k hk => ?_⟩
  · show (okD d && okAll ds) = true
    rw [h1, g1]
    rfl
  · show d.weight + 1 + PyData.weightAll ds ≤ _
    omega
  · simp only [PyData.depthAll]
    omega
  · unfold mapO
    rw [h4 S k hk, g4 S k hk]
    rfl
theorem ShL.snoc {n w' : Nat} {v : Val} : ∀ {vs : List Val} {w : Nat}, ShL n w vs → Sh n w' v → ShL n (w + (w' + 1)) (vs ++ [v]) := by
  intro vs w hs h
  obtain ⟨d, h1, h2, h3, h4⟩ := h
  obtain ⟨ds, g1, g2, g3, g4⟩ := hs
  refine ⟨ds ++ [d], ?_, ?_, ?_, fun S k hk => ?_⟩
  · rw [okAll_iff] at g1 ⊢
    intro x hx
    rcases List.mem_append.mp hx with hx | hx
    · exact g1 x hx
    · simp only [List.mem_singleton] at hx
      rw [hx]
      exact h1
  · have : ∀ xs : List PyData, PyData.weightAll (xs ++ [d]) = PyData.weightAll xs + (d.weight + 1) := by
      intro xs
      induction xs with
      | nil => simp [PyData.weightAll]
      | cons x xs ih =>
        simp only [List.cons_append, PyData.weightAll, ih]
        omega
    rw [this]
    omega
  · have : ∀ xs : List PyData, PyData.depthAll xs ≤ n → PyData.depthAll (xs ++ [d]) ≤ n := by
      intro xs
      induction xs with
      | nil =>
        intro _
        simp only [List.nil_append, PyData.depthAll]
        omega
      | cons x xs ih =>
        intro hx
        simp only [List.cons_append, PyData.depthAll] at hx ⊢
        have := ih (by omega)
        omega
    exact this ds g3
  · have : ∀ (us : List Val) (es : List PyData), mapO (toD S k) us = some es → mapO (toD S k) (us ++ [v]) = some (es ++ [d]) := by
      intro us
      induction us with
      | nil =>
        intro es he
        cases he
        simp only [List.nil_append, mapO, h4 S k hk, Option.bind_some]
      | cons u us ih =>
        intro es he
        simp only [mapO] at he
        obtain ⟨b, e1, e2⟩ := Option.bind_eq_some_iff.mp he
        obtain ⟨bs, e3, e4⟩ := Option.bind_eq_some_iff.mp e2
        cases e4
        simp only [List.cons_append, mapO, e1, ih bs e3, Option.bind_some]
    exact this vs ds (g4 S k hk)
theorem ShL.mono {n w n' w' : Nat} {vs : List Val} (h : ShL n w vs) (hn : n ≤ n') (hw : w ≤ w') : ShL n' w' vs := by
  obtain ⟨d, h1, h2, h3, h4⟩ := h
  exact ⟨d, h1, by omega, by omega, fun S k hk => h4 S k (by omega)⟩
theorem ShL.map {α : Type} {n w : Nat} {f : α → Val} : ∀ xs : List α, (∀ x ∈ xs, Sh n w (f x)) → ShL n ((w + 1) * xs.length) (xs.map f)
  | [], _ => ShL.nil
  | x :: xs, h => by
    have := ShL.cons (h x (by simp)) (ShL.map xs fun y hy => h y (by simp [hy]))
    refine this.mono (Nat.le_refl _) ?_
    rw [List.length_cons, Nat.mul_succ]
    omega
theorem ShL.tup {n w : Nat} {vs : List Val} (h : ShL n w vs) : Sh (n + 1) w (.tup vs) := by
  obtain ⟨ds, g1, g2, g3, g4⟩ := h
  refine ⟨.tuple ds, g1, ?_, ?_, fun S k hk => ?_⟩
  · show PyData.weightAll ds ≤ w
    exact g2
  · simp only [PyData.depth]
    omega
  · obtain ⟨k, rfl⟩ : ∃ j, k = j + 1 := ⟨k - 1, by omega⟩
    show (mapO (toD S k) vs).map PyData.tuple = _
    rw [g4 S k (by omega)]
    rfl
theorem Sh.int {i : Int} {b : Nat} (h : i.natAbs < 2 ^ b) (hb : b ≤ 900) : Sh 0 b (.int i) := by
  have h9 : i.natAbs < 2 ^ 900 := Nat.lt_of_lt_of_le h (Nat.pow_le_pow_right (by decide) hb)
  refine ⟨.int i, decide_eq_true h9, ?_, by simp [PyData.depth], fun S k hk => ?_⟩
  · unfold PyData.weight
    split
    · omega
    · next e =>
      have h0 : i.natAbs ≠ 0 := by
        intro z
        apply e
        rw [Int.natAbs_eq_zero.mp z]
        rfl
      have := (Nat.log2_lt h0).mpr h
      omega
  · obtain ⟨k, rfl⟩ : ∃ j, k = j + 1 := ⟨k - 1, by omega⟩
    rfl
theorem Sh.non {n w : Nat} : Sh n w .non := by
  refine ⟨.none, rfl, by simp [PyData.weight], by simp [PyData.depth], fun S k hk => ?_⟩
  obtain ⟨k, rfl⟩ : ∃ j, k = j + 1 := ⟨k - 1, by omega⟩
  rfl
theorem Sh.str {x : Str} (h : TxOk x) : Sh 0 8 (.str x) := by
  refine ⟨.str x, h.1, by simp only [PyData.weight]; exact h.2, by simp [PyData.depth], fun S k hk => ?_⟩
  obtain ⟨k, rfl⟩ : ∃ j, k = j + 1 := ⟨k - 1, by omega⟩
  rfl
theorem Sh.fr {x : Fq} {n : Nat} (h : Fr.Ok n x) (hn : n ≤ 900) : Sh 1 (2 * n + 2) (frV x) := by
  have := (ShL.cons (Sh.int h.b1 hn) (ShL.cons (Sh.int h.b2 hn) (ShL.nil (w := 0)))).tup
  exact this.mono (by omega) (by omega)
theorem Sh.o {x : Option Fq} {n : Nat} (h : ∀ q, x = some q → Fr.Ok n q) (hn : n ≤ 900) : Sh 1 (2 * n + 2) (oV x) := by
  cases x with
  | none => exact Sh.non
  | some q => exact Sh.fr (h q rfl) hn
theorem Sh.pr {p : Pr} {n : Nat} (h : POk n p) (hn : n ≤ 900) : Sh 2 (4 * n + 6) (prV p) := by
  have a : Sh 1 (2 * n + 2) (oV p.1) := Sh.o (fun q hq => h false q hq) hn
  have b : Sh 1 (2 * n + 2) (oV p.2) := Sh.o (fun q hq => h true q hq) hn
  have := (ShL.cons a (ShL.cons b (ShL.nil (w := 0)))).tup
  exact this.mono (by omega) (by omega)
theorem Sh.hs {h : Hs} (t : TxOk h.name) (a : h.slow ∈ slows) (b : h.fast ∈ fasts) : Sh 2 40 (hsV h) := by
  have := (ShL.cons (Sh.str t |>.mono (n' := 1) (by omega) (Nat.le_refl _)) (ShL.cons (Sh.fr (slow_ok a).1 (by decide)) (ShL.cons (Sh.fr (fast_ok b).1 (by decide)) (ShL.nil (w := 0))))).tup
  exact this.mono (by omega) (by omega)
theorem Sh.lk {l : Lk} (t : TxOk l.fr) (t2 : TxOk l.to) (a : Fr.Ok 4 l.least) (b : ∀ m, l.most = some m → Fr.Ok 10 m) : Sh 2 100 (lkV l) := by
  have := (ShL.cons (Sh.str t |>.mono (n' := 1) (by omega) (Nat.le_refl _)) (ShL.cons (Sh.str t2 |>.mono (n' := 1) (by omega) (Nat.le_refl _)) (ShL.cons (Sh.fr a (by decide)) (ShL.cons (Sh.o b (by decide)) (ShL.nil (w := 0)))))).tup
  exact this.mono (by omega) (by omega)
theorem Sh.fl {fl : Fl} (fo : FlOk fl) : Sh 4 2000 (flV fl) := by
  have h1 := (ShL.map (f := hsV) fl.hs fun h hh => Sh.hs (fo.tx.1 h hh) (fo.rate h hh).1 (fo.rate h hh).2).tup
  have h2 := (ShL.map (f := lkV) fl.ls fun l hl => Sh.lk (fo.tx.2.1 l hl).1 (fo.tx.2.1 l hl).2 (fo.lk l hl).1 (fo.lk l hl).2).tup
  have h3 := Sh.str fo.tx.2.2
  have a := fo.few
  have b := fo.lfew
  have := (ShL.cons h1 (ShL.cons h2 (ShL.cons (h3.mono (n' := 3) (by omega) (Nat.le_refl _)) (ShL.nil (w := 0))))).tup
  exact this.mono (by omega) (by omega)
theorem Sh.dd {d : Dd} (h : ∀ l, d = .send l → l < 8) (h2 : ∀ k, d = .hear k → k < 30) : Sh 1 20 (ddV d) := by
  have k1 : TxOk (Str.ofString "mark") := ⟨by decide +kernel, by decide +kernel⟩
  have k2 : TxOk (Str.ofString "send") := ⟨by decide +kernel, by decide +kernel⟩
  have k3 : TxOk (Str.ofString "hear") := ⟨by decide +kernel, by decide +kernel⟩
  cases d with
  | mark => exact (ShL.cons (Sh.str k1) (ShL.nil (w := 0))).tup.mono (by omega) (by omega)
  | send l =>
    have := h l rfl
    have i : Sh 0 5 (.int ((l : Nat) : Int)) := Sh.int (by have : (2 : Nat) ^ 5 = 32 := rfl; omega) (by decide)
    exact (ShL.cons (Sh.str k2) (ShL.cons i (ShL.nil (w := 0)))).tup.mono (by omega) (by omega)
  | hear k =>
    have := h2 k rfl
    have i : Sh 0 5 (.int ((k : Nat) : Int)) := Sh.int (by have : (2 : Nat) ^ 5 = 32 := rfl; omega) (by decide)
    exact (ShL.cons (Sh.str k3) (ShL.cons i (ShL.nil (w := 0)))).tup.mono (by omega) (by omega)
theorem Sh.hi {fl : Fl} {es : List Ev} (fo : FlOk fl) (hv : HV fl es) : Sh 5 5000 (hiV fl es) := by
  have l30 := hv.len
  have ev : ∀ e ∈ es, Sh 2 60 (evV e) := by
    intro e he
    obtain ⟨i, hi, rfl⟩ := List.getElem_of_mem he
    have g : es.getD i dEv = es[i] := by simp [List.getD, List.getElem?_eq_getElem hi]
    have ok := hv.ev i hi
    have nm := ok.name
    rw [g] at nm
    obtain ⟨h, hh, e1⟩ := List.mem_map.mp nm
    have tx : TxOk es[i].name := by rw [← e1]; exact fo.tx.1 h hh
    have st := ok.st.ok
    rw [g] at st
    have d := Sh.dd (d := es[i].deed) (fun l hl => by have := ok.send l (by rw [g]; exact hl); have := fo.lfew; omega) (fun k hk => by have := (ok.hear k (by rw [g]; exact hk)).1; omega)
    have := (ShL.cons ((Sh.str tx).mono (n' := 1) (by omega) (Nat.le_refl _)) (ShL.cons (Sh.fr st (by decide)) (ShL.cons d (ShL.nil (w := 0))))).tup
    exact this.mono (by omega) (by omega)
  have h2 := (ShL.map (f := evV) es ev).tup
  have := (ShL.cons (Sh.fl fo) (ShL.cons (h2.mono (n' := 4) (w' := 1900) (by omega) (by omega)) (ShL.nil (w := 0)))).tup
  exact this.mono (by omega) (by omega)

theorem Sh.repr {n w : Nat} {v : Val} (h : Sh n w v) (hn : n < 40) (hw : w ≤ 40000) : ∃ x : Str, ∀ S, gRepr [v] S = some (.str x, S) := by
  obtain ⟨d, h1, h2, h3, h4⟩ := h
  refine ⟨d.shown, fun S => ?_⟩
  unfold gRepr
  simp only [h4 S 40 hn]
  rw [if_pos ⟨h1, by omega, by omega⟩]
end K37
namespace KL
open PySem PySem.Spec PyProof.Rows L2 G Th AL K37 Fr

theorem lastAt_congr {es es' : List Ev} {n : Str} : ∀ i, (∀ j, j < i → (es'.getD j dEv).name = (es.getD j dEv).name) → lastAt es' i n = lastAt es i n
  | 0, _ => rfl
  | i + 1, h => by
    rw [lastAt, lastAt, h i (by omega), lastAt_congr i fun j hj => h j (by omega)]

structure Mk (es es' : List Ev) (a : Nat) : Prop where
  len : es'.length = es.length
  hear : ∃ k, (es.getD a dEv).deed = .hear k
  at_ : es'.getD a dEv = ⟨(es.getD a dEv).name, (es.getD a dEv).stamp, .mark⟩
  off : ∀ j, j ≠ a → es'.getD j dEv = es.getD j dEv
section
variable {fl : Fl} {es es' : List Ev} {a : Nat}
theorem Mk.name (M : Mk es es' a) (j : Nat) : (es'.getD j dEv).name = (es.getD j dEv).name ∧ (es'.getD j dEv).stamp = (es.getD j dEv).stamp := by
  by_cases z : j = a
  · subst z
    rw [M.at_]
    exact ⟨rfl, rfl⟩
  · rw [M.off j z]
    exact ⟨rfl, rfl⟩
theorem Mk.send (M : Mk es es' a) {k l : Nat} (h : (es.getD k dEv).deed = .send l) : (es'.getD k dEv).deed = .send l := by
  rw [M.off k fun z => ?_]
  · exact h
  · obtain ⟨k', hk'⟩ := M.hear
    rw [z, hk'] at h
    cases h
theorem Mk.hv (M : Mk es es' a) (hv : HV fl es) : HV fl es' := by
  refine ⟨by rw [M.len]; exact hv.len, fun i hi => ?_⟩
  have e := hv.ev i (by rw [← M.len]; exact hi)
  obtain ⟨n1, n2⟩ := M.name i
  refine ⟨by rw [n1]; exact e.name, by rw [n2]; exact e.st, fun l hl => ?_, fun k hk => ?_⟩
  · by_cases z : i = a
    · rw [z, M.at_] at hl
      cases hl
    · rw [M.off i z] at hl
      exact e.send l hl
  · by_cases z : i = a
    · rw [z, M.at_] at hk
      cases hk
    · rw [M.off i z] at hk
      obtain ⟨h1, l, h2⟩ := e.hear k hk
      exact ⟨h1, l, M.send h2⟩
theorem Mk.row (M : Mk es es' a) (hv : HV fl es) {i : Nat} (hi : i < es.length) {m : Mv} (hm : m ∈ K37.row fl es' i) : m ∈ K37.row fl es i := by
  obtain ⟨n1, n2⟩ := M.name i
  unfold K37.row movesInto at hm ⊢
  rw [n1] at hm
  have e0 : lastAt es' i (es.getD i dEv).name = lastAt es i (es.getD i dEv).name := lastAt_congr i fun j hj => (M.name j).1
  rw [e0] at hm
  rcases List.mem_append.mp hm with hm | hm
  · refine List.mem_append_left _ ?_
    unfold mv1 at hm ⊢
    rw [n1] at hm
    cases hl : lastAt es i (es.getD i dEv).name with
    | none => rw [hl] at hm; simp at hm
    | some j =>
      rw [hl] at hm
      cases hd : driftOf fl (es.getD i dEv).name with
      | none => rw [hd] at hm; simp at hm
      | some d =>
        rw [hd] at hm
        simp only [n2, (M.name j).2] at hm
        exact hm
  · refine List.mem_append_right _ ?_
    by_cases z : i = a
    · rw [z, M.at_] at hm
      simp [mv2] at hm
    · rw [M.off i z] at hm
      cases hd : (es.getD i dEv).deed with
      | mark => rw [hd] at hm; simp [mv2] at hm
      | send l => rw [hd] at hm; simp [mv2] at hm
      | hear k =>
        rw [hd] at hm
        obtain ⟨h1, l, h2⟩ := (hv.ev i hi).hear k hd
        have h3 := M.send h2
        simp only [mv2, linkAt, h3] at hm
        simp only [mv2, linkAt, h2]
        exact hm
end
end KL
namespace KL
open PySem PySem.Spec PyProof.Rows L2 G Th AL K37 Fr
section
variable {S : Sto} {Q : Val → Sto → Prop} {x y : Val} {vs ws : List Val}
theorem vNeNil {a b : Nat} {ns : List Int} (hx : x = .ref a) (hy : y = .ref b) (h0 : S[a]? = some (.lst (ns.map .int))) (h1 : S[b]? = some (.lst [])) (q : Q (.bl (!ns.isEmpty)) S) : Wp (gNe x y S) Q := by
  subst hx hy
  exact ⟨_, _, ne_nil h0 h1, q⟩
end
end KL
namespace K08
open PySem PySem.Spec PyProof.Rows L2 G Th AL
open K37
end K08
namespace K08
open PySem PySem.Spec PyProof.Rows L2 G Th AL K37 KL Fr
theorem wm {a b : Int} (h : a.natAbs < 2 ^ 64) (h2 : b.natAbs < 2 ^ 64) : CMulW a b := wide_mul h h2 (by decide) (by decide) (by decide)
theorem wd {a b : Int} (h0 : 0 < b) (h : b < 2 ^ 60) : CDivW a b := by
  have h60 := p60
  have n64 : (2 : Nat) ^ 64 = 18446744073709551616 := by decide
  exact wide_div (b := 64) h0 (by omega) (by decide) (by decide)
theorem ws_cut {r : Res} {N N' : Rho → Sto → Prop} {R : Val → Sto → Prop} (h : Ws r N' R) (i : ∀ ρ S, N' ρ S → N ρ S) : Ws r N R := by
  obtain ⟨h⟩ := h
  constructor
  cases r with
  | nx ρ S => exact i ρ S h
  | rt v S => exact h
  | stuck => exact h
  | bk _ _ => exact h
  | ct _ _ => exact h
end K08
namespace K08
open PySem PySem.Spec PyProof.Rows L2 G Th AL K37 KL Fr
end K08
namespace K08
open PySem PySem.Spec PyProof.Rows L2 G Th AL K37 KL Fr
def pool8 : List Str := ["a", "ab", "b", "h", "hh", "x", "zz", "zzzzzzzz"]
def gaits : List (Fq × Fq) := [((1, 1), (1, 1)), ((1, 2), (2, 1)), ((3, 4), (5, 4)), ((1, 1), (3, 2)), ((1, 2), (1, 1))]
def gV (g : Fq × Fq) : Val := .tup [frV g.1, frV g.2]
def least8 : List Fq := [(0, 1), (1, 2), (1, 1), (3, 1)]
structure L8 (nm : List Str) (l : Lk) : Prop where
  fr : l.fr ∈ nm
  to : l.to ∈ nm
  ne : l.fr ≠ l.to
  least : l.least ∈ least8
  most : ∀ m, l.most = some m → m = l.least ∨ m = Fr.mk (l.least.1 + l.least.2) l.least.2 ∨ m = Fr.mk (l.least.1 + 9 * l.least.2) l.least.2
structure F8 (fl : Fl) : Prop where
  sub : (fl.hs.map Hs.name).Sublist pool8
  ne : 0 < fl.hs.length
  few : fl.hs.length ≤ 6
  gait : ∀ h ∈ fl.hs, (h.slow, h.fast) ∈ gaits
  one : ∀ h ∈ fl.hs, h.name = fl.src → h.slow = (1, 1) ∧ h.fast = (1, 1)
  src : fl.src ∈ fl.hs.map Hs.name
  lk : ∀ l ∈ fl.ls, L8 (fl.hs.map Hs.name) l
  lfew : fl.ls.length ≤ 8
end K08
namespace K08
open PySem PySem.Spec PyProof.Rows L2 G Th AL K37 KL Fr
def Fits (l : Lk) (s n : Fq) : Prop := q l.least ≤ q n - q s ∧ ∀ m, l.most = some m → q n - q s ≤ q m
def DdOk (fl : Fl) (es : List Ev) (ws : List Fq) (house : Str) (now : Fq) : Dd → Prop
  | .mark => True
  | .send l => ∃ lk, fl.ls[l]? = some lk ∧ lk.fr = house
  | .hear k => k < es.length ∧ ∃ l lk, (es.getD k dEv).deed = .send l ∧ fl.ls[l]? = some lk ∧ lk.to = house ∧ Fits lk (ws.getD k (0, 1)) now
end K08
namespace KL
open PySem PySem.Spec PyProof.Rows L2 G Th AL K37 Fr
def QN (N : Int) (M : Nat) (x : Fq) : Prop := ∃ k : Int, Is x k N ∧ k.natAbs ≤ M
section
variable {N : Int} {M M' : Nat} {x y : Fq}
theorem QN.ok {n : Nat} (h : QN N M x) (hM : M < 2 ^ n) (hN : N.natAbs < 2 ^ n) : Fr.Ok n x := by
  obtain ⟨k, h1, h2⟩ := h
  rw [h1.1]
  exact mk_ok h1.2 (by omega) hN
theorem QN.add (h : QN N M x) (h' : QN N M' y) : QN N (M + M') (Fr.add x y) := by
  obtain ⟨k, h1, h2⟩ := h
  obtain ⟨k', h3, h4⟩ := h'
  have a := h1.add h3
  refine ⟨k + k', ⟨?_, h1.2⟩, by omega⟩
  rw [a.1]
  exact mk_eq a.2 h1.2 (by grind)
theorem QN.sub (h : QN N M x) (h' : QN N M' y) : QN N (M + M') (Fr.sub x y) := by
  obtain ⟨k, h1, h2⟩ := h
  obtain ⟨k', h3, h4⟩ := h'
  have a := h1.sub h3
  refine ⟨k - k', ⟨?_, h1.2⟩, by omega⟩
  rw [a.1]
  exact mk_eq a.2 h1.2 (by grind)
theorem QN.up {c : Int} (h : QN N M x) (hc : 0 < c) : QN (N * c) (M * c.natAbs) x := by
  obtain ⟨k, h1, h2⟩ := h
  refine ⟨k * c, ⟨?_, Int.mul_ne_zero h1.2 (by omega)⟩, ?_⟩
  · rw [h1.1]
    exact mk_eq h1.2 (Int.mul_ne_zero h1.2 (by omega)) (by grind)
  · rw [Int.natAbs_mul]
    exact Nat.mul_le_mul_right _ h2
theorem QN.rate (h : QN 4 M x) {r : Fq} (hr : r ∈ slows ∨ r ∈ fasts) : QN 120 (M * 60) (Fr.div x r) := by
  obtain ⟨k, h1, h2⟩ := h
  have go : ∀ (a b c : Int), Is r a b → a ≠ 0 → c.natAbs ≤ 60 → 120 * b = c * (4 * a) → QN 120 (M * 60) (Fr.div x r) := by
    intro a b c hi ha hc e
    have d := h1.div hi ha
    refine ⟨k * c, ⟨?_, by decide⟩, ?_⟩
    · rw [d.1]
      refine mk_eq d.2 (by decide) ?_
      grind
    · rw [Int.natAbs_mul]
      exact Nat.mul_le_mul h2 hc
  simp only [slows, fasts, List.mem_cons, List.not_mem_nil, or_false] at hr
  rcases hr with (rfl | rfl | rfl) | (rfl | rfl | rfl | rfl)
  · exact go 1 1 30 ⟨by decide +kernel, by decide⟩ (by decide) (by decide) (by decide)
  · exact go 1 2 60 ⟨by decide +kernel, by decide⟩ (by decide) (by decide) (by decide)
  · exact go 3 4 40 ⟨by decide +kernel, by decide⟩ (by decide) (by decide) (by decide)
  · exact go 1 1 30 ⟨by decide +kernel, by decide⟩ (by decide) (by decide) (by decide)
  · exact go 5 4 24 ⟨by decide +kernel, by decide⟩ (by decide) (by decide) (by decide)
  · exact go 3 2 20 ⟨by decide +kernel, by decide⟩ (by decide) (by decide) (by decide)
  · exact go 2 1 15 ⟨by decide +kernel, by decide⟩ (by decide) (by decide) (by decide)
end

def Rise (es : List Ev) : Prop := ∀ j i, j < es.length → lastAt es j (es.getD j dEv).name = some i → q (es.getD i dEv).stamp ≤ q (es.getD j dEv).stamp
theorem Rise.nil : Rise [] := fun j i h => by simp at h
theorem Rise.snoc {es : List Ev} {e : Ev} (h : Rise es) (h1 : ∀ i, lastAt es es.length e.name = some i → q (es.getD i dEv).stamp ≤ q e.stamp) : Rise (es ++ [e]) := by
  intro j i hj hi
  by_cases z : j < es.length
  · rw [getD_l z] at hi ⊢
    rw [lastAt_app _ (by omega)] at hi
    have := lastAt_lt hi
    rw [getD_l (by omega)]
    exact h j i z hi
  · have : j = es.length := by simp at hj; omega
    subst this
    rw [getD_r] at hi ⊢
    rw [lastAt_app _ (Nat.le_refl _)] at hi
    have := lastAt_lt hi
    rw [getD_l (by omega)]
    exact h1 i hi
theorem Tru.rise {fl : Fl} {es : List Ev} {bg : Int} {hrs : List Int} (T : Tru fl es bg hrs) (fo : FlOk fl) (hv : HV fl es) : Rise es := by
  intro j i hj hi
  obtain ⟨h, hh, hm⟩ := drift_some (hv.ev j hj).name
  obtain ⟨t1, t2, t3⟩ := T.go j i h hj hi hh
  have nn : (0 : Rat) ≤ ((hrs.getD j 0 - hrs.getD i 0 : Int) : Rat) := Rat.intCast_nonneg.mpr (by omega)
  have := Rat.mul_nonneg (Rat.le_of_lt (slow_le (fo.rate h hm).1).2) nn
  grind
end KL
namespace K08
open PySem PySem.Spec PyProof.Rows L2 G Th AL K37 KL Fr
abbrev wAt (ws : List Fq) (i : Nat) : Fq := ws.getD i (0, 1)
structure Sc (fl : Fl) (es : List Ev) (ws : List Fq) : Prop where
  len : ws.length = es.length
  nm : ∀ i, i < es.length → (es.getD i dEv).name ∈ fl.hs.map Hs.name
  tm : ∀ i, i < es.length → QN 2 60 (wAt ws i) ∧ 0 ≤ q (wAt ws i)
  st : ∀ i, i < es.length → QN 8 (80 + 960 * (i + 1)) (es.getD i dEv).stamp
  rise : ∀ i j, i ≤ j → j < es.length → q (wAt ws i) ≤ q (wAt ws j)
  dd : ∀ i, i < es.length → DdOk fl (es.take i) ws (es.getD i dEv).name (wAt ws i) (es.getD i dEv).deed
  go : ∀ j i h, j < es.length → lastAt es j (es.getD j dEv).name = some i → driftOf fl (es.getD j dEv).name = some h →
    q h.slow * (q (wAt ws j) - q (wAt ws i)) ≤ q (es.getD j dEv).stamp - q (es.getD i dEv).stamp ∧ q (es.getD j dEv).stamp - q (es.getD i dEv).stamp ≤ q h.fast * (q (wAt ws j) - q (wAt ws i))
  src : ∀ i j, i < es.length → j < es.length → (es.getD i dEv).name = fl.src → (es.getD j dEv).name = fl.src → q (es.getD i dEv).stamp - q (wAt ws i) = q (es.getD j dEv).stamp - q (wAt ws j)
theorem wget_l {ws : List Fq} {x : Fq} {j : Nat} (h : j < ws.length) : wAt (ws ++ [x]) j = wAt ws j := by
  simp [wAt, List.getD, List.getElem?_append_left h]
theorem wget_r {ws : List Fq} {x : Fq} : wAt (ws ++ [x]) ws.length = x := by
  simp [wAt, List.getD]
theorem DdOk.ext {fl : Fl} {es es' : List Ev} {ws ws' : List Fq} {n : Str} {w : Fq} {d : Dd} (h : DdOk fl es ws n w d) (h1 : ∀ k, k < es.length → es'.getD k dEv = es.getD k dEv ∧ wAt ws' k = wAt ws k) (h2 : es.length ≤ es'.length) : DdOk fl es' ws' n w d := by
  cases d with
  | mark => trivial
  | send l => exact h
  | hear k =>
    obtain ⟨hk, l, lk, a, b, c, d⟩ := h
    obtain ⟨e1, e2⟩ := h1 k hk
    refine ⟨by omega, l, lk, by rw [e1]; exact a, b, c, ?_⟩
    show Fits lk (wAt ws' k) w
    rw [e2]
    exact d
theorem Sc.snoc {fl : Fl} {es : List Ev} {ws : List Fq} (H : Sc fl es ws) {e : Ev} {w : Fq} (nm : e.name ∈ fl.hs.map Hs.name) (tm : QN 2 60 w ∧ 0 ≤ q w) (st : QN 8 (80 + 960 * (es.length + 1)) e.stamp) (rise : ∀ i, i < es.length → q (wAt ws i) ≤ q w) (dd : DdOk fl es ws e.name w e.deed)
    (go : ∀ i h, lastAt es es.length e.name = some i → driftOf fl e.name = some h → q h.slow * (q w - q (wAt ws i)) ≤ q e.stamp - q (es.getD i dEv).stamp ∧ q e.stamp - q (es.getD i dEv).stamp ≤ q h.fast * (q w - q (wAt ws i)))
    (src : ∀ i, i < es.length → e.name = fl.src → (es.getD i dEv).name = fl.src → q (es.getD i dEv).stamp - q (wAt ws i) = q e.stamp - q w) : Sc fl (es ++ [e]) (ws ++ [w]) := by
  have hl := H.len
  have el : ∀ i, i < (es ++ [e]).length → i < es.length ∨ i = es.length := fun i hi => by simp at hi; omega
  have wr : wAt (ws ++ [w]) es.length = w := by rw [← hl]; exact wget_r
  have wl : ∀ i, i < es.length → wAt (ws ++ [w]) i = wAt ws i := fun i hi => wget_l (by omega)
  have gl : ∀ i, i < es.length → (es ++ [e]).getD i dEv = es.getD i dEv := fun i hi => getD_l hi
  have gr : (es ++ [e]).getD es.length dEv = e := getD_r
  refine ⟨by simp [hl], fun i hi => ?_, fun i hi => ?_, fun i hi => ?_, fun i j ij hj => ?_, fun i hi => ?_, fun j i h hj hi hd => ?_, fun i j hi hj ni nj => ?_⟩
  · rcases el i hi with z | rfl
    · rw [gl i z]; exact H.nm i z
    · rw [gr]; exact nm
  · rcases el i hi with z | rfl
    · rw [wl i z]; exact H.tm i z
    · rw [wr]; exact tm
  · rcases el i hi with z | rfl
    · rw [gl i z]; exact H.st i z
    · rw [gr]; exact st
  · rcases el j hj with z | rfl
    · rw [wl i (by omega), wl j z]; exact H.rise i j ij z
    · rcases Nat.lt_or_ge i es.length with z | z
      · rw [wl i z, wr]; exact rise i z
      · have : i = es.length := by omega
        subst this
        exact Rat.le_refl
  · rcases el i hi with z | rfl
    · rw [gl i z, wl i z, List.take_append_of_le_length (by omega)]
      refine (H.dd i z).ext (fun k hk => ⟨rfl, wl k ?_⟩) (Nat.le_refl _)
      rw [List.length_take] at hk
      omega
    · rw [gr, wr, List.take_append_of_le_length (Nat.le_refl _), List.take_length]
      exact dd.ext (fun k hk => ⟨rfl, wl k hk⟩) (Nat.le_refl _)
  · rcases el j hj with z | rfl
    · rw [gl j z] at hi hd ⊢
      rw [lastAt_app _ (by omega)] at hi
      have := lastAt_lt hi
      rw [wl j z, wl i (by omega), gl i (by omega)]
      exact H.go j i h z hi hd
    · rw [gr] at hi hd ⊢
      rw [lastAt_app _ (Nat.le_refl _)] at hi
      have := lastAt_lt hi
      rw [wr, wl i (by omega), gl i (by omega)]
      exact go i h hi hd
  · rcases el i hi with z | rfl
    · rw [gl i z] at ni ⊢
      rw [wl i z]
      rcases el j hj with z' | rfl
      · rw [gl j z'] at nj ⊢
        rw [wl j z']
        exact H.src i j z z' ni nj
      · rw [gr] at nj ⊢
        rw [wr]
        exact src i z nj ni
    · rw [gr] at ni ⊢
      rw [wr]
      rcases el j hj with z' | rfl
      · rw [gl j z'] at nj ⊢
        rw [wl j z']
        exact (src j z' ni nj).symm
      · rw [gr, wr]
theorem Sc.nil (fl : Fl) : Sc fl [] [] := ⟨rfl, fun i hi => by simp at hi, fun i hi => by simp at hi, fun i hi => by simp at hi, fun i j _ hi => by simp at hi, fun i hi => by simp at hi, fun j i h hi => by simp at hi, fun i j hi => by simp at hi⟩
end K08
namespace K08
open PySem PySem.Spec PyProof.Rows L2 G Th AL K37 KL Fr
theorem sok {x : Fq} {M : Nat} (h : QN 8 M x) (hM : M ≤ 100000) : Fr.Ok 20 x := h.ok (by have : (2 : Nat) ^ 20 = 1048576 := rfl; omega) (by decide)
end K08
namespace K08
open PySem PySem.Spec PyProof.Rows L2 G Th AL K37 KL Fr
structure Own (es : List Ev) (n : Str) (ks : List Nat) (i : Nat) : Prop where
  len : ks.length ≤ i
  is : ∀ k ∈ ks, k < i ∧ (es.getD k dEv).name = n
  all : ∀ k, k < i → (es.getD k dEv).name = n → k ∈ ks
theorem Own.nil {es : List Ev} {n : Str} : Own es n [] 0 := ⟨Nat.le_refl _, fun _ z => by simp at z, fun _ z => by omega⟩
end K08
namespace K57
open PySem PySem.Spec PyProof.Rows L2 G Th AL KL Fr
open K37 (fmod_lt small_pow pow18 at_ints p60 p40)
open K08 (wm wd ws_cut)
def fd (i q n : Int) : List (Key × Val) := [(.inr "cells", .ref 2), (.inr "at", .int i), (.inr "left", .int q), (.inr "turn", .int n)]
theorem fd_turn {i q n : Int} : valA (fd i q n) (.inr "turn") = some (.int n) := by rfl
theorem fd_left {i q n : Int} : valA (fd i q n) (.inr "left") = some (.int q) := by rfl
theorem fd_at {i q n : Int} : valA (fd i q n) (.inr "at") = some (.int i) := by rfl
theorem fd_cells {i q n : Int} : valA (fd i q n) (.inr "cells") = some (.ref 2) := by rfl
theorem put_turn {i q n m : Int} : putA (fd i q n) (.inr "turn") (.int m) = fd i q m := by rfl
theorem put_left {i q n m : Int} : putA (fd i q n) (.inr "left") (.int m) = fd i m n := by rfl
theorem put_at {i q n m : Int} : putA (fd i q n) (.inr "at") (.int m) = fd m q n := by rfl
structure Tf (S : Sto) (B : Int) : Prop where
  ex : ∃ (ns : List Int) (i q n : Int), S[2]? = some (.lst (ns.map .int)) ∧ S[0]? = some (.dic (fd i q n)) ∧ 0 ≤ i ∧ 0 ≤ q ∧ 0 ≤ n ∧ n ≤ B ∧ ns.length ≤ 63
theorem Tf.mono {S : Sto} {B B' : Int} (h : Tf S B) (hb : B ≤ B') : Tf S B' := by
  obtain ⟨ns, i, q, n, h0, h1, a, b, c, d, e⟩ := h.ex
  exact ⟨ns, i, q, n, h0, h1, a, b, c, by omega, e⟩
theorem Tf.fr {S T : Sto} {B : Int} (h : Tf S B) (k : Kn S T) : Tf T B := by
  obtain ⟨ns, i, q, n, h0, h1, r⟩ := h.ex
  exact ⟨ns, i, q, n, k _ _ h0, k _ _ h1, r⟩
theorem Tf.kx {S T : Sto} {B : Int} {n : Nat} (h : Tf S B) (k : Kx n S T) (hn : 3 ≤ n) : Tf T B := by
  obtain ⟨ns, i, q, m, h0, h1, r⟩ := h.ex
  exact ⟨ns, i, q, m, k _ _ (by omega) h0, k _ _ (by omega) h1, r⟩
theorem draw_wp {S : Sto} {B m : Int} (T : Tf S B) (m0 : 0 < m) (m1 : m < 2 ^ 60) (hB : B < 2 ^ 40) : Wp (drawL_ [.ref 0, .int m] S) fun v S' => ∃ d, v = .int d ∧ 0 ≤ d ∧ d < m ∧ Tf S' (B + 1) ∧ Kx 0 S S' := by
  have h60 := p60
  have h40 := p40
  have h63 : (2 : Int) ^ 63 = 9223372036854775808 := by decide
  have n64 : (2 : Nat) ^ 64 = 18446744073709551616 := by decide
  obtain ⟨ns, i, q, n, h2, h0, i0, q0, n0, nB, nl⟩ := T.ex
  have fm : ∀ a : Int, 0 ≤ a.fmod m ∧ a.fmod m < m := fun a => fmod_lt m0
  have sz : ∀ i q n : Int, (fd i q n).length < sizeLine := fun _ _ _ => small (by simp [fd])
  refine AL.wf ?_; simp only [List.map_cons, List.map_nil, List.length_cons, List.length_nil, Nat.reduceAdd, Nat.reduceSub, List.replicate_succ, List.replicate_zero, List.cons_append, List.nil_append]; unfold drawL_B; array_get_dec
  refine vIxD rfl h0 rfl fd_turn ?_
  array_get_dec
  refine vPut h0 rfl ?_ (sz _ _ _)
  rw [put_turn]
  intro S1 l_S1 g_S1 k_S1
  have h21 : S1[2]? = some (.lst (ns.map .int)) := by array_mem_dec
  have tp1 : ∀ (T' : Sto) (i' q' : Int), T'[2]? = some (.lst (ns.map .int)) → T'[0]? = some (.dic (fd i' q' (n + 1))) → 0 ≤ i' → 0 ≤ q' → Tf T' (B + 1) := fun T' i' q' a b c d => ⟨ns, i', q', n + 1, a, b, c, d, by omega, by omega, nl⟩
  array_get_dec
  refine vIxD rfl g_S1 rfl fd_left ?_
  array_get_dec
  by_cases hq : 0 < q
  · refine brT (decide_eq_true hq) ?_
    array_get_dec
    refine vIxD rfl g_S1 rfl fd_left ?_
    array_get_dec
    · refine vIxD rfl g_S1 rfl fd_left ?_
      array_get_dec
      · refine vPut g_S1 rfl ?_ (sz _ _ _)
        rw [put_left]
        intro S2 l_S2 g_S2 k_S2
        array_get_dec
        exact ⟨_, rfl, (fm q).1, (fm q).2, tp1 S2 i (q / m) (by array_mem_dec) g_S2 i0 (Int.ediv_nonneg q0 (by omega)), k_S1.trans k_S2⟩
      · exact wd m0 m1
    · omega
  · refine brF (decide_eq_false hq) ?_
    array_get_dec
    refine vIxD rfl g_S1 rfl fd_at ?_
    array_get_dec
    refine vPut g_S1 rfl ?_ (sz _ _ _)
    rw [put_at]
    intro S2 l_S2 g_S2 k_S2
    have h22 : S2[2]? = some (.lst (ns.map .int)) := by array_mem_dec
    have k02 : Kx 0 S S2 := k_S1.trans k_S2
    refine ws_seq (ws_asg (wc (bn rfl (ws_seq (ws_cut (N' := fun ρ T => ∃ c : Int, ρ = [some (.ref 0), some (.int m), some (.int (n + 1)), some (.int i), some (.int c), none, none] ∧ Kn S2 T) ?_ ?_)))))
    · array_get_dec
      refine vIxD rfl g_S2 rfl fd_cells ?_
      array_get_dec
      intro S3 r3 e_r3 l_S3 g_r3 k_S3
      array_get_dec
      have h23 : S3[2]? = some (.lst (ns.map .int)) := by array_mem_dec
      have g3 : S3[0]? = some (.dic (fd (i + 1) q (n + 1))) := by array_mem_dec
      refine vNeNil rfl rfl h23 g_r3 ?_
      array_get_dec
      cases hns : ns with
      | nil => exact brF rfl (ws_nil ⟨_, rfl, k_S3⟩)
      | cons y ys =>
        rw [hns] at h23
        refine brT rfl ?_
        array_get_dec
        refine vIxD rfl g3 rfl fd_cells ?_
        array_get_dec
        refine vIxD rfl g3 rfl fd_cells ?_
        array_get_dec
        · obtain ⟨a, b⟩ := fmod_lt (a := i) (b := ((y :: ys).length : Int)) (by simp)
          obtain ⟨v, hv, _⟩ := at_ints (L := y :: ys) a b
          refine vIxL rfl rfl h23 (by rw [List.length_map]; exact hv) ?_
          array_get_dec
          exact ⟨_, rfl, k_S3⟩
        · simp
          omega
    · rintro _ S3 ⟨c, rfl, k3⟩
      have g3 : S3[0]? = some (.dic (fd (i + 1) q (n + 1))) := by array_mem_dec
      have h23 : S3[2]? = some (.lst (ns.map .int)) := by array_mem_dec
      have k03 : Kx 0 S S3 := k02.trans (k3.kx 0)
      refine ws_seq (ws_cut (N' := fun ρ T => ρ = [some (.ref 0), some (.int m), some (.int (n + 1)), some (.int i), some (.int c), none, none] ∧ T = S3) ?_ ?_)
      · array_get_dec
        refine vPow rfl rfl ?_ pow18
        array_get_dec
        refine Br.of (fun c1 => ?_) (fun c1 => ?_)
        · have c1 : (10 : Int) ^ (18 : Int).toNat ≤ c := of_decide_eq_true c1
          array_get_dec
          refine vIxD rfl g3 rfl fd_cells ?_
          array_get_dec
          refine Br.of (fun c2 => ?_) (fun c2 => ?_)
          · array_get_dec
            · refine vPut g3 rfl ?_ (sz _ _ _)
              rw [put_left]
              intro S4 l_S4 g_S4 k_S4
              array_get_dec
              · exact ⟨_, rfl, (fm c).1, (fm c).2, tp1 S4 (i + 1) (c / m) (by array_mem_dec) g_S4 (by omega) (Int.ediv_nonneg (Int.le_trans (by decide) c1) (by omega)), k03.trans k_S4⟩
              · omega
            · exact wd m0 m1
          · array_get_dec
            exact ⟨rfl, rfl⟩
        · array_get_dec
          exact ⟨rfl, rfl⟩
      · rintro _ _ ⟨rfl, rfl⟩
        have cm := fmod_lt (a := c) (b := 2147483629) (by decide)
        have p1 := small_pow (x := c.fmod 2147483629 + 7919 * (n + 1) + 1) (by omega) (by omega)
        have r1 := fmod_lt (a := (c.fmod 2147483629 + 7919 * (n + 1) + 1) ^ (5 : Int).toNat) (b := 2147483647) (by decide)
        have p2 := small_pow (x := ((c.fmod 2147483629 + 7919 * (n + 1) + 1) ^ (5 : Int).toNat).fmod 2147483647 + 104729 * (n + 1)) (by omega) (by omega)
        array_get_dec
        all_goals first | refine vPow rfl rfl ?_ p1 | decide | exact wm (by omega) (by omega) | skip
        array_get_dec
        all_goals first | refine vPow rfl rfl ?_ p2 | decide | exact wm (by omega) (by omega) | skip
        array_get_dec
        all_goals first | exact ⟨_, rfl, (fm _).1, (fm _).2, tp1 _ (i + 1) q h23 g3 (by omega) q0, k03⟩ | exact wd (by decide) (by decide) | omega | decide
theorem feed_wp (ns : List Int) (h : ns.length ≤ 63) : Wp (feedL_ [.scr ns] []) fun v S => v = .ref 0 ∧ Tf S 0 := by
  refine ⟨.ref 0, [.dic (fd 0 0 0), .lst (cutL (ns.map Val.int) none (some 63)), .lst (cutL (ns.map Val.int) none (some 63))], ?_, rfl, ?_⟩
  · rfl
  · refine ⟨(ns.drop (HT.sIx ns.length 0 none)).take (HT.sIx ns.length ns.length (some 63) - HT.sIx ns.length 0 none), 0, 0, 0, ?_, rfl, by omega, by omega, by omega, by omega, ?_⟩
    · show some (Ob.lst (cutL (ns.map Val.int) none (some 63))) = _
      unfold cutL
      rw [List.length_map, ← List.map_drop, ← List.map_take]
    · rw [List.length_take, List.length_drop]
      omega
end K57
namespace AL
open PySem PySem.Spec PyProof.Rows L2 G Th K37
structure Dt (S : Sto) (n w : Nat) (v : Val) (d : PyData) : Prop where
  ok : okD d = true
  wt : d.weight ≤ w
  dp : d.depth ≤ n
  td : ∀ k, n < k → toD S k v = some d
structure DtL (S : Sto) (n w : Nat) (vs : List Val) (ds : List PyData) : Prop where
  ok : okAll ds = true
  wt : PyData.weightAll ds ≤ w
  dp : PyData.depthAll ds ≤ n
  td : ∀ k, n < k → mapO (toD S k) vs = some ds
theorem Dt.of {n w : Nat} {v : Val} (h : Sh n w v) : ∃ d, ∀ S, Dt S n w v d := by
  obtain ⟨d, h1, h2, h3, h4⟩ := h
  exact ⟨d, fun S => ⟨h1, h2, h3, fun k hk => h4 S k hk⟩⟩
theorem DtL.nil {S : Sto} {n w : Nat} : DtL S n w [] [] := ⟨rfl, by simp [PyData.weightAll], by simp [PyData.depthAll], fun _ _ => rfl⟩
theorem DtL.cons {S : Sto} {n w w' : Nat} {v : Val} {vs : List Val} {d : PyData} {ds : List PyData} (h : Dt S n w v d) (g : DtL S n w' vs ds) : DtL S n (w + w' + 1) (v :: vs) (d :: ds) := by
  have h2 := h.wt
  have g2 := g.wt
  have h3 := h.dp
  have g3 := g.dp
  refine ⟨?_, ?_, ?_, fun k hk => ?_⟩
  · show (okD d && okAll ds) = true
    rw [h.ok, g.ok]
    rfl
  · show d.weight + 1 + PyData.weightAll ds ≤ _
    omega
  · simp only [PyData.depthAll]
    omega
  · unfold mapO
    rw [h.td k hk, g.td k hk]
    rfl
theorem Dt.lst {S : Sto} {n w a : Nat} {vs : List Val} {ds : List PyData} (h : S[a]? = some (.lst vs)) (r : DtL S n w vs ds) : Dt S (n + 1) w (.ref a) (.list ds) := by
  refine ⟨r.ok, r.wt, by have := r.dp; simp only [PyData.depth]; omega, fun k hk => ?_⟩
  obtain ⟨k, rfl⟩ : ∃ j, k = j + 1 := ⟨k - 1, by omega⟩
  rw [toD]
  simp only [h]
  rw [r.td k (by omega)]
  rfl
theorem Dt.tup {S : Sto} {n w : Nat} {vs : List Val} {ds : List PyData} (r : DtL S n w vs ds) : Dt S (n + 1) w (.tup vs) (.tuple ds) := by
  refine ⟨r.ok, r.wt, by have := r.dp; simp only [PyData.depth]; omega, fun k hk => ?_⟩
  obtain ⟨k, rfl⟩ : ∃ j, k = j + 1 := ⟨k - 1, by omega⟩
  show (mapO (toD S k) vs).map PyData.tuple = _
  rw [r.td k (by omega)]
  rfl
theorem Dt.str {S : Sto} {x : Str} (h : TxOk x) : Dt S 0 8 (.str x) (.str x) := by
  refine ⟨h.1, by simp only [PyData.weight]; exact h.2, by simp [PyData.depth], fun k hk => ?_⟩
  obtain ⟨k, rfl⟩ : ∃ j, k = j + 1 := ⟨k - 1, by omega⟩
  rfl
theorem Dt.repr {S : Sto} {n w : Nat} {v : Val} {d : PyData} (h : Dt S n w v d) (hn : n < 40) (hw : w ≤ 40000) : gRepr [v] S = some (.str d.shown, S) := by
  have h2 := h.wt
  have h3 := h.dp
  unfold gRepr
  simp only [h.td 40 hn]
  rw [if_pos ⟨h.ok, by omega, by omega⟩]
end AL
namespace K57
open PySem PySem.Spec PyProof.Rows L2 G Th AL KL Fr
open K37 (fmod_lt p60 p40)
open K08 (ws_cut)

def K2 (a b : Nat) (S T : Sto) : Prop := ∀ (k : Nat) (o : Ob), k ≠ a → k ≠ b → S[k]? = some o → T[k]? = some o
theorem K2.refl {a b : Nat} (S : Sto) : K2 a b S S := fun _ _ _ _ h => h
theorem K2.trans {a b : Nat} {S T U : Sto} (h : K2 a b S T) (g : K2 a b T U) : K2 a b S U := fun k o x y z => g k o x y (h k o x y z)
theorem K2.kn {a b : Nat} {S T : Sto} (h : Kn S T) : K2 a b S T := fun k o _ _ z => h k o z
theorem K2.kx {a b : Nat} {S T : Sto} (h : Kx a S T) : K2 a b S T := fun k o x _ z => h k o x z
theorem K2.ky {a b : Nat} {S T : Sto} (h : Kx b S T) : K2 a b S T := fun k o _ x z => h k o x z
theorem Tf.k2 {S T : Sto} {B : Int} {n : Nat} (h : Tf S B) (k : Kx n S T) (hn : 3 ≤ n) : Tf T B := h.kx k hn
end K57
namespace K57
open PySem PySem.Spec PyProof.Rows L2 G Th AL KL Fr Od
open K37 (fmod_lt p60 p40 TxOk Sh ShL)
open K08 (ws_cut)
section
variable {S : Sto} {Q : Val → Sto → Prop} {x y : Val} {a b : Str}
theorem or_some {α : Type} {o p : Option α} {z : α} (h : o = some z) : o.or p = some z := by rw [h]; rfl
theorem vMinG2 (hx : x = .str a) (hy : y = .str b) (q : Q (.str (if b.cps.toList < a.cps.toList then b else a)) S) : Wp (gMinG [x, y] S) Q := by
  subst hx hy
  exact ⟨_, _, or_some rfl, q⟩
theorem vMaxB2 (hx : x = .str a) (hy : y = .str b) (q : Q (.str (if a.cps.toList < b.cps.toList then b else a)) S) : Wp (gMaxB [x, y] S) Q := by
  subst hx hy
  exact ⟨_, _, rfl, q⟩
theorem strs_map : ∀ ss : List Str, strsOf (ss.map .str) = some ss
  | [] => rfl
  | x :: r => by rw [List.map_cons, strsOf, strs_map r]; rfl
theorem vSortGS {n : Nat} {ss : List Str} (hx : x = .ref n) (h : S[n]? = some (.lst (ss.map .str))) (hl : ss.length < 64) (q : Nw S (.lst ((sortS ss).map .str)) Q) : Wp (gSortedG [x] S) Q := by
  subst hx
  exact ⟨_, _, or_some (by simp only [gSorted, h, strs_map, if_pos hl]), q.use⟩
theorem vSortGD {n : Nat} {kvs : List (Key × Val)} {ss : List Str} (hx : x = .ref n) (h : S[n]? = some (.dic kvs)) (hk : keysS kvs = some ss) (hl : ss.length < 64) (q : Nw S (.lst ((sortS ss).map Val.str)) Q) : Wp (gSortedG [x] S) Q := by
  subst hx
  exact ⟨_, _, or_some (by simp only [gSorted, h, hk, if_pos hl]), q.use⟩
theorem vSortGT {n : Nat} {vs : List Val} (hx : x = .ref n) (h : S[n]? = some (.lst vs)) (hv : ∀ v ∈ vs, ∃ xs, v = .tup xs) (ok : okSort vs = true) (q : Nw S (.lst (sortT vs)) Q) : Wp (gSortedG [x] S) Q := by
  subst hx
  refine ⟨.ref S.length, S ++ [.lst (sortT vs)], ?_, q.use⟩
  cases vs with
  | nil =>
    refine or_some ?_
    have e : sortS [] = [] := List.Perm.eq_nil (List.mergeSort_perm [] leS)
    simp only [gSorted, h, strsOf, e]
    rfl
  | cons v l =>
    obtain ⟨xs, rfl⟩ := hv v List.mem_cons_self
    have e : gSorted [.ref n] S = none := by simp only [gSorted, h, strsOf]
    unfold gSortedG
    rw [e]
    simp only [gSortT, h, if_pos ok, Option.none_or]
theorem sortS_perm (l : List Str) : (sortS l).Perm l := List.mergeSort_perm l leS
end
abbrev tl (x : Str) : List Nat := x.cps.toList
theorem tl_inj {x y : Str} (h : tl x = tl y) : x = y := str_inj h
theorem tl_tri {x y : Str} (h : x ≠ y) : (tl x < tl y ∧ ¬ tl y < tl x) ∨ (tl y < tl x ∧ ¬ tl x < tl y) := by
  have a : strKind.blt (tl x) (tl y) = decide (tl x < tl y) := rfl
  have b : strKind.blt (tl y) (tl x) = decide (tl y < tl x) := rfl
  have as : ∀ u v : List Nat, u < v → ¬ v < u := fun u v h1 h2 => by
    have := strKind.trans u v u (decide_eq_true h1) (decide_eq_true h2)
    rw [strKind.irrefl] at this
    cases this
  by_cases c : tl x < tl y
  · exact .inl ⟨c, as _ _ c⟩
  · by_cases d : tl y < tl x
    · exact .inr ⟨d, c⟩
    · exact absurd (tl_inj (strKind.total _ _ (by rw [a]; exact decide_eq_false c) (by rw [b]; exact decide_eq_false d))) h
def wireV (w : Str × Str) : Val := .tup [.str w.1, .str w.2]
def wr (o : List Str) (p : Nat × Nat) : Str × Str :=
  let a := o.getD p.1 ""; let b := o.getD p.2 ""
  (if tl b < tl a then b else a, if tl a < tl b then b else a)
structure Mb where
  name : Str
  pri : Int
  cls : Int
def mbV (m : Mb) : Val := .tup [.str m.name, .int m.pri, .int m.cls]
structure Net where
  ms : List Mb
  ws : List (Str × Str)
def netV (n : Net) : Val := .tup [.tup (n.ms.map mbV), .tup (n.ws.map wireV)]
def Net.names (n : Net) : List Str := n.ms.map Mb.name
def pool : List Str := ["a", "ab", "b", "c", "d", "yy", "z", "zzzzzzzz"]

def poolX : List Str := pool ++ [("e" : Str)]
structure WOk (ns : List Str) (ws : List (Str × Str)) : Prop where
  nd : ws.Nodup
  len : ws.length ≤ 12
  mem : ∀ w ∈ ws, w.1 ∈ ns ∧ w.2 ∈ ns ∧ tl w.1 < tl w.2
structure NOk (n : Net) : Prop where
  nd : n.names.Nodup
  pos : 0 < n.ms.length
  len : n.ms.length ≤ 8
  inp : ∀ x ∈ n.names, x ∈ poolX
  num : ∀ m ∈ n.ms, 0 ≤ m.pri ∧ m.pri < 4 ∧ 0 ≤ m.cls ∧ m.cls < 3
  w : WOk n.names n.ws
  srt : Srt (n.ws.map wireV)
  nsrt : sortS n.names = n.names

def NmOk (x : Str) : Prop := PyData.strOk x = true ∧ x.cps.size ≤ 8
theorem nm_pool {x : Str} (h : x ∈ pool) : NmOk x := by
  simp only [pool, List.mem_cons, List.not_mem_nil, or_false] at h
  rcases h with rfl | rfl | rfl | rfl | rfl | rfl | rfl | rfl <;> exact ⟨by decide +kernel, by decide +kernel⟩
theorem nm_poolX {x : Str} (h : x ∈ poolX) : NmOk x := by
  rcases List.mem_append.mp h with h | h
  · exact nm_pool h
  · rw [List.mem_singleton.mp h]
    exact ⟨by decide +kernel, by decide +kernel⟩
theorem NOk.nm {n : Net} (h : NOk n) {x : Str} (hx : x ∈ n.names) : NmOk x := nm_poolX (h.inp x hx)
theorem wire_ok {w : Str × Str} (h1 : NmOk w.1) (h2 : NmOk w.2) : okV (wireV w) = true ∧ hd1 (dV (wireV w)) = true := by
  refine ⟨?_, rfl⟩
  simp only [okV, wireV, pureV, pureVs, dV, dVs, PyData.canLay0, PyData.canLayAll0, h1.1, h2.1, PyData.depth, PyData.depthAll, Bool.and_true, Bool.true_and]
  decide
theorem wire_sm (w u : Str × Str) : smV (wireV w) (wireV u) = true := rfl
theorem ok_sort {vs : List Val} (h1 : ∀ v ∈ vs, okV v = true ∧ hd1 (dV v) = true) (h2 : ∀ a ∈ vs, ∀ b ∈ vs, smV a b = true) (hl : vs.length < 1000000) : okSort vs = true := by
  unfold okSort
  simp only [Bool.and_eq_true, List.all_eq_true, decide_eq_true_eq]
  exact ⟨⟨⟨fun v hv => (h1 v hv).1, fun v hv => (h1 v hv).2⟩, h2⟩, hl⟩

end K57
namespace K57
open PySem PySem.Spec PyProof.Rows L2 G Th AL KL Fr Od
open K37 (fmod_lt p60 p40 TxOk Sh ShL)
open K08 (ws_cut)

structure Pr (sz k j : Nat) (L : List (Nat × Nat)) : Prop where
  nd : L.Nodup
  lt : ∀ p ∈ L, p.1 < p.2 ∧ p.2 < sz ∧ (p.2 < k ∨ (p.2 = k ∧ p.1 < j))
  len : L.length ≤ 12
theorem Pr.next {sz k j : Nat} {L : List (Nat × Nat)} (h : Pr sz k j L) : Pr sz k (j + 1) L := ⟨h.nd, fun p hp => by have := h.lt p hp; omega, h.len⟩
theorem Pr.row {sz k : Nat} {L : List (Nat × Nat)} (h : Pr sz k k L) : Pr sz (k + 1) 0 L := ⟨h.nd, fun p hp => by have := h.lt p hp; omega, h.len⟩
theorem Pr.add {sz k j : Nat} {L : List (Nat × Nat)} (h : Pr sz k j L) (hj : j < k) (hk : k < sz) (hl : L.length < 12) : Pr sz k (j + 1) (L ++ [(j, k)]) := by
  refine ⟨?_, fun p hp => ?_, by rw [List.length_append, List.length_singleton]; omega⟩
  · rw [List.nodup_append]
    refine ⟨h.nd, by simp, fun a ha b hb e => ?_⟩
    have := h.lt a ha
    rw [List.mem_singleton.mp hb] at e
    rw [e] at this
    simp only at this
    omega
  · rcases List.mem_append.mp hp with hp | hp
    · have := h.lt p hp
      omega
    · rw [List.mem_singleton.mp hp]
      exact ⟨hj, hk, .inr ⟨rfl, Nat.lt_succ_self _⟩⟩
theorem WOk.perm {ns : List Str} {ws us : List (Str × Str)} (h : WOk ns ws) (p : us.Perm ws) : WOk ns us := ⟨p.nodup_iff.mpr h.nd, by rw [p.length_eq]; exact h.len, fun w hw => h.mem w (p.mem_iff.mp hw)⟩
theorem WOk.names {ns ms : List Str} {ws : List (Str × Str)} (h : WOk ns ws) (e : ∀ x, x ∈ ns → x ∈ ms) : WOk ms ws := ⟨h.nd, h.len, fun w hw => by obtain ⟨a, b, c⟩ := h.mem w hw; exact ⟨e _ a, e _ b, c⟩⟩
section
variable {S : Sto} {B : Int} {a1 a2 a3 a4 a5 a13 : Option Val} {ro rf : Nat} {o : List Str} {sz wy : Nat}

end
end K57
namespace K57
open PySem PySem.Spec PyProof.Rows L2 G Th AL KL Fr Od
open K37 (fmod_lt p60 p40 TxOk Sh ShL)
open K08 (ws_cut)
theorem sortS_pw (l : List Str) : (sortS l).Pairwise (fun a b => leS a b = true) := List.pairwise_mergeSort leS_trans leS_total l
theorem sortS_eq {l m : List Str} (h : l.Pairwise (fun a b => leS a b = true)) (p : l.Perm m) : l = sortS m := List.Perm.eq_of_pairwise (fun a b _ _ h1 h2 => leS_anti h1 h2) h (sortS_pw m) (p.trans (sortS_perm m).symm)
end K57
namespace K57
open PySem PySem.Spec PyProof.Rows L2 G Th AL KL Fr Od
open K37 (fmod_lt p60 p40 TxOk Sh ShL)
open K08 (ws_cut)
def endsL (ws : List (Str × Str)) (x : Str) : List Str := (ws.filter fun w => decide (w.2 = x)).map (·.1) ++ (ws.filter fun w => decide (w.1 = x)).map (·.2)
def ends (ws : List (Str × Str)) (x : Str) : List Str := sortS (endsL ws x)

def oes (ws : List (Str × Str)) (x : Str) : List Str := (ws.filter fun w => decide (x = w.1) || decide (x = w.2)).map fun w => if w.1 = x then w.2 else w.1
theorem tl_irr (x : Str) : ¬ tl x < tl x := fun h => by
  have := strKind.irrefl (tl x)
  rw [show strKind.blt (tl x) (tl x) = decide (tl x < tl x) from rfl, decide_eq_true h] at this
  cases this
theorem tl_asym {x y : Str} (h : tl x < tl y) : ¬ tl y < tl x := fun g => by
  have := strKind.trans (tl x) (tl y) (tl x) (decide_eq_true h) (decide_eq_true g)
  rw [strKind.irrefl] at this
  cases this
theorem oes_perm {x : Str} : ∀ {ws : List (Str × Str)}, (∀ w ∈ ws, tl w.1 < tl w.2) → (oes ws x).Perm (endsL ws x)
  | [], _ => .refl _
  | w :: ws, h => by
    have ih := oes_perm (x := x) (ws := ws) fun u hu => h u (List.mem_cons_of_mem _ hu)
    have lt := h w List.mem_cons_self
    unfold oes endsL at ih ⊢
    by_cases a : w.1 = x
    · have b : ¬ w.2 = x := fun b => tl_irr x (by rw [a, b] at lt; exact lt)
      rw [List.filter_cons_of_pos (by simp [a]), List.filter_cons_of_neg (by simp [b]), List.filter_cons_of_pos (by simp [a]), List.map_cons, List.map_cons, if_pos a]
      exact (ih.cons _).trans List.perm_middle.symm
    · by_cases b : w.2 = x
      · rw [List.filter_cons_of_pos (by simp [b]), List.filter_cons_of_pos (by simp [b]), List.filter_cons_of_neg (by simp [a]), List.map_cons, List.map_cons, if_neg a]
        exact ih.cons _
      · have a' : ¬ x = w.1 := fun z => a z.symm
        have b' : ¬ x = w.2 := fun z => b z.symm
        rw [List.filter_cons_of_neg (by simp [a', b']), List.filter_cons_of_neg (by simp [b]), List.filter_cons_of_neg (by simp [a])]
        exact ih
theorem mem_endsL {ws : List (Str × Str)} {x y : Str} : y ∈ endsL ws x ↔ (y, x) ∈ ws ∨ (x, y) ∈ ws := by
  unfold endsL
  simp only [List.mem_append, List.mem_map, List.mem_filter, decide_eq_true_eq]
  constructor
  · rintro (⟨w, ⟨h, e⟩, e2⟩ | ⟨w, ⟨h, e⟩, e2⟩)
    · exact .inl (by rw [← e, ← e2]; exact h)
    · exact .inr (by rw [← e, ← e2]; exact h)
  · rintro (h | h)
    · exact .inl ⟨_, ⟨h, rfl⟩, rfl⟩
    · exact .inr ⟨_, ⟨h, rfl⟩, rfl⟩
theorem WOk.ends_nd {ns : List Str} {ws : List (Str × Str)} (h : WOk ns ws) (x : Str) : (endsL ws x).Nodup := by
  unfold endsL
  rw [List.nodup_append]
  have n1 : ((ws.filter fun w => decide (w.2 = x)).map (·.1)).Nodup := by
    refine List.pairwise_map.mpr ((h.nd.filter _).imp_of_mem fun {a b} ha hb ne e => ne ?_)
    simp only [List.mem_filter, decide_eq_true_eq] at ha hb
    exact Prod.ext e (ha.2.trans hb.2.symm)
  have n2 : ((ws.filter fun w => decide (w.1 = x)).map (·.2)).Nodup := by
    refine List.pairwise_map.mpr ((h.nd.filter _).imp_of_mem fun {a b} ha hb ne e => ne ?_)
    simp only [List.mem_filter, decide_eq_true_eq] at ha hb
    exact Prod.ext (ha.2.trans hb.2.symm) e
  refine ⟨n1, n2, fun a ha b hb e => ?_⟩
  simp only [List.mem_map, List.mem_filter, decide_eq_true_eq] at ha hb
  obtain ⟨w, ⟨h1, e1⟩, rfl⟩ := ha
  obtain ⟨u, ⟨h2, e2⟩, rfl⟩ := hb
  have l1 := (h.mem w h1).2.2
  have l2 := (h.mem u h2).2.2
  rw [e1, e] at l1
  rw [e2] at l2
  exact tl_asym l1 l2
theorem WOk.ends_in {ns : List Str} {ws : List (Str × Str)} (h : WOk ns ws) {x y : Str} (hy : y ∈ endsL ws x) : y ∈ ns := by
  rcases mem_endsL.mp hy with m | m
  · exact (h.mem _ m).1
  · exact (h.mem _ m).2.1
theorem nd_len {α : Type} [DecidableEq α] : ∀ {xs ys : List α}, xs.Nodup → (∀ x ∈ xs, x ∈ ys) → xs.length ≤ ys.length
  | [], ys, _, _ => Nat.zero_le _
  | x :: xs, ys, nd, h => by
    obtain ⟨h1, h2⟩ := List.nodup_cons.mp nd
    have hx := h x List.mem_cons_self
    have := nd_len (xs := xs) (ys := ys.erase x) h2 fun z hz => (List.mem_erase_of_ne (fun e => h1 (by rw [← e]; exact hz))).mpr (h z (List.mem_cons_of_mem _ hz))
    rw [List.length_erase_of_mem hx] at this
    have := List.length_pos_of_mem hx
    simp only [List.length_cons]
    omega
theorem WOk.ends_len {ns : List Str} {ws : List (Str × Str)} (h : WOk ns ws) (h8 : ns.length ≤ 8) (x : Str) : (endsL ws x).length ≤ 8 := Nat.le_trans (nd_len (h.ends_nd x) fun _ hy => h.ends_in hy) h8
section
variable {S : Sto} {B : Int}
def g1 : Val → Val
  | .tup [a, _] => a
  | _ => .non
def g2 : Val → Val
  | .tup [_, a] => a
  | _ => .non
def isS (x : Str) : Val → Bool
  | .str y => decide (y = x)
  | _ => false
theorem endsL_wp {ws : List (Str × Str)} {x : Str} (hl : ws.length ≤ 12) : Wp (endsL_ [.tup (ws.map wireV), .str x] S) fun v U => ∃ r, v = .ref r ∧ U[r]? = some (.lst ((ends ws x).map .str)) ∧ Kn S U ∧ S.length ≤ r := by
  have m1 : ∀ (f : Str × Str → Bool), ((ws.map wireV).filter (fun v => isS x (g2 v))).map g1 = ((ws.filter fun w => decide (w.2 = x)).map (·.1)).map Val.str := fun _ => by
    rw [List.filter_map, List.map_map, List.map_map]
    rfl
  have m2 : ((ws.map wireV).filter (fun v => isS x (g1 v))).map g2 = ((ws.filter fun w => decide (w.1 = x)).map (·.2)).map Val.str := by
    rw [List.filter_map, List.map_map, List.map_map]
    rfl
  have fl : ∀ f : Str × Str → Bool, (ws.filter f).length ≤ 12 := fun f => Nat.le_trans (List.length_filter_le _ _) hl
  refine AL.wf ?_; simp only [List.map_cons, List.map_nil, List.length_cons, List.length_nil, Nat.reduceAdd, Nat.reduceSub, List.replicate_succ, List.replicate_zero, List.cons_append, List.nil_append]; unfold endsL_B; array_get_dec
  refine .inl ⟨_, rfl, ?_⟩
  refine lc_pure (fun v => isS x (g2 v)) g1 trivial (by rw [List.length_map]; omega) (fun v hv => ?_) ?_
  · obtain ⟨w, _, rfl⟩ := List.mem_map.mp hv
    refine bn rfl ?_
    array_get_dec
    exact ⟨rfl, rfl, fun _ => by array_get_dec; exact ⟨rfl, rfl⟩⟩
  · rw [m1 fun _ => true]
    intro U1 r1 e_r1 l_U1 g_r1 k_U1
    array_get_dec
    refine .inl ⟨_, rfl, ?_⟩
    refine lc_pure (fun v => isS x (g1 v)) g2 trivial (by rw [List.length_map]; omega) (fun v hv => ?_) ?_
    · obtain ⟨w, _, rfl⟩ := List.mem_map.mp hv
      refine bn rfl ?_
      array_get_dec
      exact ⟨rfl, rfl, fun _ => by array_get_dec; exact ⟨rfl, rfl⟩⟩
    · rw [m2]
      intro U2 r2 e_r2 l_U2 g_r2 k_U2
      array_get_dec
      have f1 := fl fun w => decide (w.2 = x)
      have f2 := fl fun w => decide (w.1 = x)
      refine vCatL rfl rfl (k_U2 _ _ g_r1) g_r2 (by simp only [List.length_map]; omega) ?_
      rw [← List.map_append]
      intro U3 r3 e_r3 l_U3 g_r3 k_U3
      array_get_dec
      refine vSortGS rfl g_r3 (by simp only [List.length_append, List.length_map]; omega) ?_
      intro U4 r4 e_r4 l_U4 g_r4 k_U4
      refine ⟨r4, rfl, g_r4, k_U1.trans (k_U2.trans (k_U3.trans k_U4)), by omega⟩
end
end K57
namespace K57
open PySem PySem.Spec PyProof.Rows L2 G Th AL KL Fr Od
open K37 (fmod_lt p60 p40 TxOk Sh ShL)
open K08 (ws_cut)
structure Ky where
  p : Int
  c : Int
  nm : Str
def keyV (k : Ky) : Val := .tup [.int k.p, .int k.c, .str k.nm]
structure Bs where
  key : Ky
  st : Int
  who : Str
def bsV (b : Bs) : Val := .tup [keyV b.key, .int b.st, .str b.who]
def boV : Option Bs → Val
  | none => .non
  | some b => bsV b
structure Hd where
  who : Str
  key : Ky
  st : Int
  old : Int
def hdV (h : Hd) : Val := .tup [.str h.who, keyV h.key, .int h.st, .int h.old]
structure Rw where
  name : Str
  best : Option Bs
  hs : List Hd
def rwV (r : Rw) : Val := .tup [.str r.name, boV r.best, .tup (r.hs.map hdV)]
def stV (s : List Rw) : Val := .tup (s.map rwV)
structure KyOk (k : Ky) : Prop where
  p0 : 0 ≤ k.p
  p1 : k.p < 4
  c0 : 0 ≤ k.c
  c1 : k.c < 3
  nm : NmOk k.nm
structure BsOk (ns : List Str) (b : Bs) : Prop where
  key : KyOk b.key
  s0 : 0 ≤ b.st
  s1 : b.st ≤ 9
  who : b.who ∈ ns
structure HdOk (ns : List Str) (h : Hd) : Prop where
  key : KyOk h.key
  s0 : 0 ≤ h.st
  s1 : h.st ≤ 9
  o0 : 0 ≤ h.old
  o1 : h.old ≤ 4
  who : h.who ∈ ns
structure RwOk (ns : List Str) (r : Rw) : Prop where
  best : ∀ b, r.best = some b → BsOk ns b
  hs : ∀ h ∈ r.hs, HdOk ns h
  nd : (r.hs.map Hd.who).Nodup
structure SOk (n : Net) (s : List Rw) : Prop where
  nm : s.map Rw.name = n.names
  row : ∀ r ∈ s, RwOk n.names r
theorem RwOk.len {n : Net} (hn : NOk n) {r : Rw} (h : RwOk n.names r) : r.hs.length ≤ 8 := by
  have := nd_len h.nd (ys := n.names) fun x hx => by
    obtain ⟨d, hd, rfl⟩ := List.mem_map.mp hx
    exact (h.hs d hd).who
  rw [List.length_map] at this
  have l := hn.len
  unfold Net.names at this
  rw [List.length_map] at this
  omega
section
variable {S : Sto} {B : Int} {n : Net}
def mkey (m : Mb) : Ky := ⟨m.pri, m.cls, m.name⟩
theorem keyL_wp {m : Mb} : Wp (keyL_ [mbV m] S) fun v U => v = keyV (mkey m) ∧ S = U := by
  refine AL.wf ?_; simp only [List.map_cons, List.map_nil, List.length_cons, List.length_nil, Nat.reduceAdd, Nat.reduceSub, List.replicate_succ, List.replicate_zero, List.cons_append, List.nil_append]; unfold keyL_B; array_get_dec
  exact ⟨rfl, rfl⟩
theorem mkey_ok (hn : NOk n) {m : Mb} (hm : m ∈ n.ms) : KyOk (mkey m) := by
  obtain ⟨a, b, c, d⟩ := hn.num m hm
  exact ⟨a, b, c, d, hn.nm (List.mem_map_of_mem hm)⟩
theorem WOk.filter {ns : List Str} {ws : List (Str × Str)} (h : WOk ns ws) (us : List (Str × Str)) (s : us.Sublist ws) : WOk ns us := ⟨h.nd.sublist s, Nat.le_trans s.length_le h.len, fun w hw => h.mem w (s.subset hw)⟩
theorem K2.len {a b : Nat} {S T : Sto} (h : K2 a b S T) (l : a + 1 < S.length ∧ b + 1 < S.length ∨ ∃ o, S[S.length - 1]? = some o ∧ S.length - 1 ≠ a ∧ S.length - 1 ≠ b) : S.length ≤ T.length := by
  have go : ∀ k : Nat, k ≠ a → k ≠ b → k < S.length → k < T.length := fun k ha hb hk => lt_of_at (h k _ ha hb (List.getElem?_eq_getElem hk))
  rcases l with ⟨l1, l2⟩ | ⟨o, h1, h2, h3⟩
  · have := go (S.length - 1) (by omega) (by omega) (by omega)
    omega
  · have := lt_of_at h1
    have := go (S.length - 1) h2 h3 (by omega)
    omega

end
end K57
namespace K57
open PySem PySem.Spec PyProof.Rows L2 G Th AL KL Fr Od
open K37 (fmod_lt p60 p40 TxOk Sh ShL)
open K08 (ws_cut)
def bestOf (s : List Rw) (x : Str) : Option Bs := (s.find? fun r => decide (r.name = x)).bind (·.best)
theorem bestOf_snoc {s : List Rw} {r : Rw} (h : r.name ∉ s.map Rw.name) (x : Str) : bestOf (s ++ [r]) x = if x = r.name then r.best else bestOf s x := by
  unfold bestOf
  rw [List.find?_append]
  by_cases e : x = r.name
  · have n : s.find? (fun r => decide (r.name = x)) = none := by
      rw [List.find?_eq_none]
      intro q hq hd
      exact h (List.mem_map.mpr ⟨q, hq, (of_decide_eq_true hd).trans e⟩)
    rw [n, if_pos e, Option.none_or]
    simp [e]
  · rw [if_neg e]
    have : [r].find? (fun r => decide (r.name = x)) = none := by rw [List.find?_cons, decide_eq_false (fun z : r.name = x => e z.symm)]; rfl
    rw [this, Option.or_none]
theorem bestOf_at {s : List Rw} (nd : (s.map Rw.name).Nodup) {r : Rw} (h : r ∈ s) : bestOf s r.name = r.best := by
  induction s with
  | nil => simp at h
  | cons q s ih =>
    rw [List.map_cons, List.nodup_cons] at nd
    unfold bestOf
    rw [List.find?_cons]
    rcases List.mem_cons.mp h with rfl | h
    · simp
    · have ne : ¬ q.name = r.name := fun e => nd.1 (e ▸ List.mem_map_of_mem h)
      rw [decide_eq_false ne]
      exact ih nd.2 h
theorem bestOf_ok {n : Net} {s : List Rw} (so : SOk n s) {x : Str} {b : Bs} (h : bestOf s x = some b) : BsOk n.names b := by
  unfold bestOf at h
  obtain ⟨r, h1, h2⟩ := Option.bind_eq_some_iff.mp h
  exact (so.row r (List.mem_of_find?_eq_some h1)).best b h2
def frs (s : List Rw) (es : List Str) : List Hd := es.filterMap fun e => (bestOf s e).map fun b => ⟨e, b.key, b.st, 0⟩
def kps (fr hs : List Hd) (age : Int) : List Hd := (hs.filter fun h => !decide (h.who ∈ fr.map Hd.who) && decide (h.old < age)).map fun h => ⟨h.who, h.key, h.st, h.old + 1⟩
def sortH (l : List Hd) : List Hd := l.mergeSort fun a b => leS a.who b.who
theorem sortH_perm (l : List Hd) : (sortH l).Perm l := List.mergeSort_perm _ _
theorem sortH_pw (l : List Hd) : (sortH l).Pairwise fun a b => leS a.who b.who = true := List.pairwise_mergeSort (le := fun a b : Hd => leS a.who b.who) (fun a b c => leS_trans _ _ _) (fun a b => leS_total _ _) l
theorem frs_who (s : List Rw) : ∀ es : List Str, ((frs s es).map Hd.who).Sublist es
  | [] => by simp [frs]
  | e :: es => by
    have ih := frs_who s es
    unfold frs at ih ⊢
    rw [List.filterMap_cons]
    cases bestOf s e with
    | none => exact ih.trans (List.sublist_cons_self _ _)
    | some b => exact ih.cons_cons e
theorem mem_frs {s : List Rw} {es : List Str} {h : Hd} : h ∈ frs s es ↔ ∃ b, h.who ∈ es ∧ bestOf s h.who = some b ∧ h = ⟨h.who, b.key, b.st, 0⟩ := by
  unfold frs
  rw [List.mem_filterMap]
  constructor
  · rintro ⟨e, he, h1⟩
    obtain ⟨b, hb, rfl⟩ := Option.map_eq_some_iff.mp h1
    exact ⟨b, he, hb, rfl⟩
  · rintro ⟨b, h1, h2, h3⟩
    exact ⟨h.who, h1, by rw [h2]; exact congrArg some h3.symm⟩
theorem mem_kps {fr hs : List Hd} {age : Int} {h : Hd} : h ∈ kps fr hs age ↔ ∃ g ∈ hs, g.who ∉ fr.map Hd.who ∧ g.old < age ∧ h = ⟨g.who, g.key, g.st, g.old + 1⟩ := by
  unfold kps
  simp only [List.mem_map, List.mem_filter, Bool.and_eq_true, Bool.not_eq_true', decide_eq_false_iff_not, decide_eq_true_eq]
  constructor
  · rintro ⟨g, ⟨h1, h2, h3⟩, rfl⟩
    exact ⟨g, h1, h2, h3, rfl⟩
  · rintro ⟨g, h1, h2, h3, rfl⟩
    exact ⟨g, ⟨h1, h2, h3⟩, rfl⟩
theorem kps_who (fr hs : List Hd) (age : Int) : ((kps fr hs age).map Hd.who).Sublist (hs.map Hd.who) := by
  unfold kps
  rw [List.map_map]
  exact (List.filter_sublist (l := hs)).map Hd.who
theorem both_nd {s : List Rw} {es : List Str} {hs : List Hd} {age : Int} (n1 : es.Nodup) (n2 : (hs.map Hd.who).Nodup) : ((frs s es ++ kps (frs s es) hs age).map Hd.who).Nodup := by
  rw [List.map_append, List.nodup_append]
  refine ⟨(frs_who s es).nodup n1, (kps_who _ _ _).nodup n2, fun a ha b hb e => ?_⟩
  obtain ⟨h, hh, rfl⟩ := List.mem_map.mp hb
  obtain ⟨g, _, h2, _, rfl⟩ := mem_kps.mp hh
  exact h2 (e ▸ ha)

theorem who_inj {l : List Hd} (nd : (l.map Hd.who).Nodup) : ∀ {a b : Hd}, a ∈ l → b ∈ l → a.who = b.who → a = b := by
  induction l with
  | nil => intro a b h; simp at h
  | cons x l ih =>
    rw [List.map_cons, List.nodup_cons] at nd
    intro a b ha hb e
    rcases List.mem_cons.mp ha with e1 | ha <;> rcases List.mem_cons.mp hb with e2 | hb
    · rw [e1, e2]
    · exact absurd (by rw [← e1, e]; exact List.mem_map_of_mem hb) nd.1
    · exact absurd (by rw [← e2, ← e]; exact List.mem_map_of_mem ha) nd.1
    · exact ih nd.2 ha hb e
theorem sortH_uniq {l m : List Hd} (nd : (m.map Hd.who).Nodup) (h : l.Pairwise fun a b => leS a.who b.who = true) (p : l.Perm m) : l = sortH m :=
  List.Perm.eq_of_pairwise (fun a b ha hb h1 h2 => who_inj nd (p.mem_iff.mp ha) ((sortH_perm m).mem_iff.mp hb) (leS_anti h1 h2)) h (sortH_pw m) (p.trans (sortH_perm m).symm)
theorem nd_perm {l m : List Hd} (h : ∀ x, x ∈ l ↔ x ∈ m) (n1 : (l.map Hd.who).Nodup) (n2 : (m.map Hd.who).Nodup) : l.Perm m := by
  have a : l.Nodup := (List.pairwise_map.mp n1).imp fun h e => h (by rw [e])
  have b : m.Nodup := (List.pairwise_map.mp n2).imp fun h e => h (by rw [e])
  exact (List.perm_ext_iff_of_nodup a b).mpr h
theorem lt_of_leS {a b : Str} (h : leS a b = true) (ne : a ≠ b) : tl a < tl b := by
  rw [leS_iff] at h
  rcases tl_tri ne with ⟨c, _⟩ | ⟨c, _⟩
  · exact c
  · exact absurd c h
theorem sortH_T {l : List Hd} (nd : (l.map Hd.who).Nodup) : sortT (l.map hdV) = (sortH l).map hdV := by
  refine (sortT_uniq (List.pairwise_map.mpr ?_) ((sortH_perm l).map hdV) fun v hv => ?_).symm
  · have nd2 : ((sortH l).map Hd.who).Nodup := ((sortH_perm l).map Hd.who).nodup_iff.mpr nd
    refine ((sortH_pw l).and (List.pairwise_map.mp nd2)).imp fun {a b} h => ?_
    have c := lt_of_leS h.1 h.2
    have ne : Tr.s (tl b.who) ≠ Tr.s (tl a.who) := fun e => h.2 (tl_inj (Tr.s.inj e)).symm
    show lts (Tr.s (tl b.who) :: _) (Tr.s (tl a.who) :: _) = false
    rw [lts_other ne, lt]
    exact decide_eq_false (tl_asym c)
  · obtain ⟨h, _, rfl⟩ := List.mem_map.mp hv
    rfl
theorem hd_okV {h : Hd} (h1 : NmOk h.who) (h2 : NmOk h.key.nm) : okV (hdV h) = true ∧ hd1 (dV (hdV h)) = true := by
  refine ⟨?_, rfl⟩
  simp only [okV, hdV, keyV, pureV, pureVs, dV, dVs, PyData.canLay0, PyData.canLayAll0, h1.1, h2.1, PyData.depth, PyData.depthAll, Bool.and_true, Bool.true_and]
  decide
theorem hd_sort {l : List Hd} (h : ∀ x ∈ l, NmOk x.who ∧ NmOk x.key.nm) (hl : l.length < 1000000) : okSort (l.map hdV) = true := by
  refine ok_sort (fun v hv => ?_) (fun a ha b hb => ?_) (by rw [List.length_map]; exact hl)
  · obtain ⟨x, hx, rfl⟩ := List.mem_map.mp hv
    exact hd_okV (h x hx).1 (h x hx).2
  · obtain ⟨x, _, rfl⟩ := List.mem_map.mp ha
    obtain ⟨y, _, rfl⟩ := List.mem_map.mp hb
    rfl
theorem bs_okV {b : Bs} (h1 : NmOk b.key.nm) (h2 : NmOk b.who) : okV (bsV b) = true := by
  simp only [okV, bsV, keyV, pureV, pureVs, dV, dVs, PyData.canLay0, PyData.canLayAll0, h1.1, h2.1, PyData.depth, PyData.depthAll, Bool.and_true, Bool.true_and]
  decide
theorem bs_sm (a b : Bs) : smV (bsV a) (bsV b) = true := rfl
def offers (most : Int) (l : List Hd) : List Bs := (l.filter fun h => decide (h.st < most)).map fun h => ⟨h.key, h.st + 1, h.who⟩
def bet (b o : Bs) : Bs := if ltV (bsV o) (bsV b) = true then o else b
def minB (b : Bs) (l : List Bs) : Bs := l.foldl bet b
theorem minT_B : ∀ (l : List Bs) (b : Bs), minT (bsV b) (l.map bsV) = bsV (minB b l)
  | [], b => rfl
  | o :: l, b => by
    rw [List.map_cons, minT]
    have e : (if ltV (bsV o) (bsV b) = true then bsV o else bsV b) = bsV (bet b o) := by
      unfold bet
      split <;> rfl
    rw [e, minT_B l]
    rfl
theorem minB_mem : ∀ (l : List Bs) (b : Bs), minB b l = b ∨ minB b l ∈ l
  | [], b => .inl rfl
  | o :: l, b => by
    have e : minB b (o :: l) = minB (bet b o) l := rfl
    rw [e]
    rcases minB_mem l (bet b o) with h | h
    · rw [h]
      unfold bet
      split
      · exact .inr List.mem_cons_self
      · exact .inl rfl
    · exact .inr (List.mem_cons_of_mem _ h)
theorem minB_snoc (b : Bs) (l : List Bs) (o : Bs) : minB b (l ++ [o]) = bet (minB b l) o := by
  unfold minB
  rw [List.foldl_append]
  rfl
def own (m : Mb) : Bs := ⟨mkey m, 0, m.name⟩
def heardN (s : List Rw) (ws : List (Str × Str)) (age : Int) (r : Rw) : List Hd := sortH (frs s (oes ws r.name) ++ kps (frs s (oes ws r.name)) r.hs age)
def rowN (s : List Rw) (ws : List (Str × Str)) (most age : Int) (m : Mb) (r : Rw) : Rw := match r.best with
  | none => r
  | some _ => ⟨r.name, some (minB (own m) (offers most (heardN s ws age r))), heardN s ws age r⟩
def rnd (n : Net) (s : List Rw) (ws : List (Str × Str)) (most age : Int) : List Rw := List.zipWith (rowN s ws most age) n.ms s
section
variable {n : Net} {s : List Rw} {ws : List (Str × Str)} {most age : Int}
theorem SOk.len (so : SOk n s) : s.length = n.ms.length := by
  have := congrArg List.length so.nm
  unfold Net.names at this
  rwa [List.length_map, List.length_map] at this
theorem SOk.nd (hn : NOk n) (so : SOk n s) : (s.map Rw.name).Nodup := so.nm ▸ hn.nd
theorem oes_in (w : WOk n.names ws) {x y : Str} (h : y ∈ oes ws x) : y ∈ n.names := w.ends_in ((oes_perm fun u hu => (w.mem u hu).2.2).mem_iff.mp h)
theorem oes_nd (w : WOk n.names ws) (x : Str) : (oes ws x).Nodup := (oes_perm fun u hu => (w.mem u hu).2.2).nodup_iff.mpr (w.ends_nd x)
theorem hd_fr (so : SOk n s) {es : List Str} (he : ∀ x ∈ es, x ∈ n.names) {h : Hd} (hh : h ∈ frs s es) : HdOk n.names h := by
  obtain ⟨b, h1, h2, h3⟩ := mem_frs.mp hh
  have ok := bestOf_ok so h2
  rw [h3]
  exact ⟨ok.key, ok.s0, ok.s1, by show (0 : Int) ≤ 0; omega, by show (0 : Int) ≤ 4; omega, he _ h1⟩
theorem hd_kp {r : Rw} {fr : List Hd} (ro : RwOk n.names r) (a4 : age ≤ 4) {h : Hd} (hh : h ∈ kps fr r.hs age) : HdOk n.names h := by
  obtain ⟨g, h1, _, h3, rfl⟩ := mem_kps.mp hh
  have ok := ro.hs g h1
  exact ⟨ok.key, ok.s0, ok.s1, by have := ok.o0; show (0 : Int) ≤ g.old + 1; omega, by show g.old + 1 ≤ 4; omega, ok.who⟩
theorem row_ok (hn : NOk n) (so : SOk n s) (w : WOk n.names ws) (a4 : age ≤ 4) (m9 : most ≤ 9) {m : Mb} {r : Rw} (hm : m ∈ n.ms) (hr : r ∈ s) : RwOk n.names (rowN s ws most age m r) ∧ (rowN s ws most age m r).name = r.name := by
  have ro := so.row r hr
  unfold rowN
  cases hb : r.best with
  | none => exact ⟨ro, rfl⟩
  | some b =>
    have nd := both_nd (s := s) (age := age) (oes_nd w r.name) ro.nd
    have all : ∀ h ∈ heardN s ws age r, HdOk n.names h := fun h hh => by
      rcases List.mem_append.mp ((sortH_perm _).mem_iff.mp hh) with hh | hh
      · exact hd_fr so (fun x hx => oes_in w hx) hh
      · exact hd_kp ro a4 hh
    refine ⟨⟨fun b' hb' => ?_, all, ((sortH_perm _).map Hd.who).nodup_iff.mpr nd⟩, rfl⟩
    cases hb'
    rcases minB_mem (offers most (heardN s ws age r)) (own m) with e | h
    · rw [e]
      exact ⟨mkey_ok hn hm, by show (0 : Int) ≤ 0; omega, by show (0 : Int) ≤ 9; omega, List.mem_map_of_mem hm⟩
    · obtain ⟨g, hg, e⟩ := List.mem_map.mp h
      obtain ⟨h1, h2⟩ := List.mem_filter.mp hg
      have h2 := of_decide_eq_true h2
      have ok := all g h1
      rw [← e]
      exact ⟨ok.key, by have := ok.s0; show (0 : Int) ≤ g.st + 1; omega, by show g.st + 1 ≤ 9; omega, ok.who⟩
theorem zip_names {f : Mb → Rw → Rw} : ∀ {ms : List Mb} {s : List Rw}, ms.length = s.length → (∀ m ∈ ms, ∀ r ∈ s, (f m r).name = r.name) → (List.zipWith f ms s).map Rw.name = s.map Rw.name
  | [], [], _, _ => rfl
  | m :: ms, r :: s, h, g => by
    rw [List.zipWith_cons_cons, List.map_cons, List.map_cons, g m List.mem_cons_self r List.mem_cons_self, zip_names (by simpa using h) fun m hm r hr => g m (List.mem_cons_of_mem _ hm) r (List.mem_cons_of_mem _ hr)]
theorem rnd_ok (hn : NOk n) (so : SOk n s) (w : WOk n.names ws) (a4 : age ≤ 4) (m9 : most ≤ 9) : SOk n (rnd n s ws most age) := by
  refine ⟨?_, fun q hq => ?_⟩
  · rw [← so.nm]
    exact zip_names so.len.symm fun m hm r hr => (row_ok hn so w a4 m9 hm hr).2
  · unfold rnd at hq
    obtain ⟨i, hi⟩ := List.getElem?_of_mem hq
    rw [List.getElem?_zipWith] at hi
    cases e1 : n.ms[i]? with
    | none => rw [e1] at hi; cases hi
    | some m =>
      cases e2 : s[i]? with
      | none => rw [e1, e2] at hi; cases hi
      | some r =>
        rw [e1, e2] at hi
        cases hi
        exact (row_ok hn so w a4 m9 (List.mem_of_getElem? e1) (List.mem_of_getElem? e2)).1
end
end K57
namespace K57
open PySem PySem.Spec PyProof.Rows L2 G Th AL KL Fr Od
open K37 (fmod_lt p60 p40 TxOk Sh ShL valA_put putA_len merge_app)
open K08 (ws_cut)
section
variable {S : Sto} {Q : Val → Sto → Prop} {x : Str}
theorem in_strs (x : Str) : ∀ ss : List Str, inA (.str x) (ss.map .str) = decide (x ∈ ss)
  | [] => rfl
  | a :: ss => by
    have ih := in_strs x ss
    unfold inA at ih ⊢
    rw [List.map_cons, List.any_cons, ih]
    show (a == x || decide (x ∈ ss)) = _
    by_cases e : a = x
    · simp [e]
    · have e2 : ¬ x = a := fun z => e z.symm
      simp [e, e2]
theorem flat_strs : ∀ ss : List Str, (ss.map Val.str).all flatA = true
  | [] => rfl
  | a :: ss => by rw [List.map_cons, List.all_cons, flat_strs ss]; rfl
theorem vInP {a b : Str} (q : Q (.bl (decide (x = a) || decide (x = b))) S) : Wp (gIn false (.str x) (.tup [.str a, .str b]) S) Q := by
  have this : decide (x ∈ [a, b]) = (decide (x = a) || decide (x = b)) := by simp
  have e : inA (.str x) [.str a, .str b] = (decide (x = a) || decide (x = b)) := (in_strs x [a, b]).trans this
  refine ⟨_, S, ?_, q⟩
  rw [← e]
  simp only [gIn, gInS, flatA, List.all_cons, List.all_nil, Bool.and_true, Bool.and_self, if_true, Bool.false_eq_true, if_false]
theorem vInL {n : Nat} {neg : Bool} {ss : List Str} (h : S[n]? = some (.lst (ss.map .str))) (q : Q (.bl (if neg then !decide (x ∈ ss) else decide (x ∈ ss))) S) : Wp (gIn neg (.str x) (.ref n) S) Q := by
  refine ⟨_, S, ?_, q⟩
  simp only [gIn, gInS, h, flat_strs, in_strs, flatA, Bool.true_and, if_true]
theorem vMinGT {n : Nat} {xs : List Val} {l : List Val} (h : S[n]? = some (.lst (.tup xs :: l))) (ok : okMin (.tup xs :: l) = true) (q : Q (minT (.tup xs) l) S) : Wp (gMinG [.ref n] S) Q := by
  have e : gMinB [.ref n] S = none := by
    show gMinA [.ref n] S = none
    simp only [gMinA, h, intsOf]
  refine ⟨_, S, ?_, q⟩
  unfold gMinG
  rw [e]
  simp only [gMinT, h, if_pos ok, Option.none_or]
theorem vInD {n : Nat} {neg : Bool} {kvs : List (Key × Val)} (h : S[n]? = some (.dic kvs)) (q : Q (.bl (if neg then !(valA kvs (.inr x)).isSome else (valA kvs (.inr x)).isSome)) S) : Wp (gIn neg (.str x) (.ref n) S) Q := vIn rfl h rfl q
def isW (x : Str) : Val → Bool
  | .tup [.str a, .str b] => decide (x = a) || decide (x = b)
  | _ => false
def gW (x : Str) : Val → Val
  | .tup [.str a, .str b] => if a = x then .str b else .str a
  | _ => .non
theorem other_wp {ws : List (Str × Str)} (hl : ws.length ≤ 12) : Wp (other_ends_ [.tup (ws.map wireV), .str x] S) fun v U => ∃ r, v = .ref r ∧ U[r]? = some (.lst ((oes ws x).map .str)) ∧ Kn S U ∧ S.length ≤ r := by
  have e : ((ws.map wireV).filter (isW x)).map (gW x) = (oes ws x).map Val.str := by
    unfold oes
    rw [List.filter_map, List.map_map, List.map_map]
    refine List.map_congr_left fun w _ => ?_
    show (if w.1 = x then Val.str w.2 else Val.str w.1) = Val.str (if w.1 = x then w.2 else w.1)
    split <;> rfl
  refine AL.wf ?_; simp only [List.map_cons, List.map_nil, List.length_cons, List.length_nil, Nat.reduceAdd, Nat.reduceSub, List.replicate_succ, List.replicate_zero, List.cons_append, List.nil_append]; unfold other_ends_B; array_get_dec
  refine .inl ⟨_, rfl, ?_⟩
  refine lc_pure (isW x) (gW x) trivial (by rw [List.length_map]; omega) (fun v hv => ?_) ?_
  · obtain ⟨w, _, rfl⟩ := List.mem_map.mp hv
    refine bn rfl ?_
    array_get_dec
    refine vInP ?_
    array_get_dec
    refine ⟨rfl, rfl, fun _ => ?_⟩
    array_get_dec
    refine Br.of (fun c => ?_) (fun c => ?_)
    · have c : w.1 = x := of_decide_eq_true c
      array_get_dec
      exact ⟨(if_pos c).symm, rfl⟩
    · have c : ¬ w.1 = x := of_decide_eq_false c
      array_get_dec
      exact ⟨(if_neg c).symm, rfl⟩
  · rw [e]
    intro U r e_r l_U g_r k_U
    exact ⟨r, rfl, g_r, k_U, by omega⟩
theorem own_wp {m : Mb} : Wp (own_best_ [mbV m] S) fun v U => v = bsV (own m) ∧ S = U := by
  refine AL.wf ?_; simp only [List.map_cons, List.map_nil, List.length_cons, List.length_nil, Nat.reduceAdd, Nat.reduceSub, List.replicate_succ, List.replicate_zero, List.cons_append, List.nil_append]; unfold own_best_B; array_get_dec
  exact ⟨rfl, rfl⟩
def whoV : Val → Val
  | .tup (w :: _) => w
  | _ => .non
def isK (ss : List Str) (age : Int) : Val → Bool
  | .tup [.str w, _, _, .int o] => !decide (w ∈ ss) && decide (o < age)
  | _ => false
def upV : Val → Val
  | .tup [w, k, s, .int o] => .tup [w, k, s, .int (o + 1)]
  | _ => .non
def isM (most : Int) : Val → Bool
  | .tup [_, _, .int s, _] => decide (s < most)
  | _ => false
def offV : Val → Val
  | .tup [w, k, .int s, _] => .tup [k, .int (s + 1), w]
  | _ => .non
theorem row_wp {m : Mb} {fr hs : List Hd} {most age : Int} {f : Nat} (hf : S[f]? = some (.lst (fr.map hdV))) (l1 : fr.length ≤ 8) (l2 : hs.length ≤ 8) (nd : ((fr ++ kps fr hs age).map Hd.who).Nodup) (ok : ∀ h ∈ fr ++ kps fr hs age, NmOk h.who ∧ NmOk h.key.nm) (okm : NmOk m.name) :
    Wp (row_behind_ [mbV m, .ref f, .tup (hs.map hdV), .int most, .int age] S) fun v U => v = rwV ⟨m.name, some (minB (own m) (offers most (sortH (fr ++ kps fr hs age)))), sortH (fr ++ kps fr hs age)⟩ ∧ Kn S U := by
  have e1 : ((fr.map hdV).filter (fun _ => true)).map whoV = (fr.map Hd.who).map Val.str := by
    rw [List.filter_eq_self.mpr fun _ _ => rfl, List.map_map, List.map_map]
    rfl
  have e2 : ((hs.map hdV).filter (isK (fr.map Hd.who) age)).map upV = (kps fr hs age).map hdV := by
    unfold kps
    rw [List.filter_map, List.map_map, List.map_map]
    rfl
  have lk : (kps fr hs age).length ≤ 8 := by
    unfold kps
    rw [List.length_map]
    exact Nat.le_trans (List.length_filter_le _ _) l2
  generalize hkp : kps fr hs age = kp at nd ok e2 lk ⊢
  refine AL.wf ?_; simp only [List.map_cons, List.map_nil, List.length_cons, List.length_nil, Nat.reduceAdd, Nat.reduceSub, List.replicate_succ, List.replicate_zero, List.cons_append, List.nil_append]; unfold row_behind_B; array_get_dec
  refine .inr ⟨f, _, rfl, hf, ?_⟩
  refine lc_pure (fun _ => true) whoV hf (by rw [List.length_map]; omega) (fun v hv => ?_) ?_
  · obtain ⟨h, _, rfl⟩ := List.mem_map.mp hv
    refine bn rfl ?_
    array_get_dec
    exact ⟨rfl, rfl, fun _ => by array_get_dec; exact ⟨rfl, rfl⟩⟩
  rw [e1]
  intro U1 r1 e_r1 l_U1 g_r1 k_U1
  array_get_dec
  refine .inl ⟨_, rfl, ?_⟩
  refine lc_pure (isK (fr.map Hd.who) age) upV trivial (by rw [List.length_map]; omega) (fun v hv => ?_) ?_
  · obtain ⟨h, _, rfl⟩ := List.mem_map.mp hv
    refine bn rfl ?_
    array_get_dec
    refine vInL g_r1 ?_
    array_get_dec
    refine Br.of (fun c => ?_) (fun c => ?_)
    · array_get_dec
      refine ⟨?_, rfl, fun _ => by array_get_dec; exact ⟨rfl, rfl⟩⟩
      show _ = (!decide (h.who ∈ fr.map Hd.who) && decide (h.old < age))
      have c : (!decide (h.who ∈ fr.map Hd.who)) = true := c
      rw [c]
      rfl
    · refine ⟨?_, rfl, fun c2 => ?_⟩
      · show _ = (!decide (h.who ∈ fr.map Hd.who) && decide (h.old < age))
        have c : (!decide (h.who ∈ fr.map Hd.who)) = false := c
        rw [c]
        rfl
      · have c : (!decide (h.who ∈ fr.map Hd.who)) = false := c
        have c2 : (!decide (h.who ∈ fr.map Hd.who) && decide (h.old < age)) = true := c2
        rw [c] at c2
        cases c2
  rw [e2]
  intro U2 r2 e_r2 l_U2 g_r2 k_U2
  array_get_dec
  refine vCatL rfl rfl (k_U2 _ _ (k_U1 _ _ hf)) g_r2 (by simp only [List.length_map]; omega) ?_
  rw [← List.map_append]
  intro U3 r3 e_r3 l_U3 g_r3 k_U3
  array_get_dec
  refine vSortGT rfl g_r3 (fun v hv => ?_) (hd_sort ok (by rw [List.length_append]; omega)) ?_
  · obtain ⟨h, _, rfl⟩ := List.mem_map.mp hv
    exact ⟨_, rfl⟩
  rw [sortH_T nd]
  have lH : (sortH (fr ++ kp)).length ≤ 16 := by
    rw [(sortH_perm _).length_eq, List.length_append]
    omega
  have okH : ∀ h ∈ sortH (fr ++ kp), NmOk h.who ∧ NmOk h.key.nm := fun h hh => ok h ((sortH_perm _).mem_iff.mp hh)
  generalize sortH (fr ++ kp) = H at lH okH ⊢
  have e3 : ((H.map hdV).filter (isM most)).map offV = (offers most H).map bsV := by
    unfold offers
    rw [List.filter_map, List.map_map, List.map_map]
    rfl
  intro U4 r4 e_r4 l_U4 g_r4 k_U4
  array_get_dec
  refine .inl ⟨_, rfl, ?_⟩
  refine lc_pure (isM most) offV trivial (by rw [List.length_map]; omega) (fun v hv => ?_) ?_
  · obtain ⟨h, _, rfl⟩ := List.mem_map.mp hv
    refine bn rfl ?_
    array_get_dec
    exact ⟨rfl, rfl, fun _ => by array_get_dec; exact ⟨rfl, rfl⟩⟩
  rw [e3]
  intro U5 r5 e_r5 l_U5 g_r5 k_U5
  array_get_dec
  refine own_wp.imp ?_
  rintro _ _ ⟨rfl, rfl⟩
  array_get_dec
  intro U6 r6 e_r6 l_U6 g_r6 k_U6
  array_get_dec
  refine vCatL rfl rfl g_r6 (k_U6 _ _ g_r5) (by
    simp only [List.length_map, List.length_cons, List.length_nil]
    have : (offers most H).length ≤ H.length := by
      unfold offers
      rw [List.length_map]
      exact List.length_filter_le _ _
    omega) ?_
  intro U7 r7 e_r7 l_U7 g_r7 k_U7
  array_get_dec
  have okb : ∀ o ∈ own m :: offers most H, okV (bsV o) = true := fun o ho => by
    rcases List.mem_cons.mp ho with rfl | ho
    · exact bs_okV okm okm
    · unfold offers at ho
      obtain ⟨h, hh, rfl⟩ := List.mem_map.mp ho
      have := okH h (List.mem_filter.mp hh).1
      exact bs_okV this.2 this.1
  refine vMinGT g_r7 ?_ ?_
  · have : okMin ((own m :: offers most H).map bsV) = true := by
      unfold okMin
      simp only [Bool.and_eq_true, List.all_eq_true]
      refine ⟨fun v hv => ?_, fun a ha b hb => ?_⟩
      · obtain ⟨o, ho, rfl⟩ := List.mem_map.mp hv
        exact okb o ho
      · obtain ⟨o, ho, rfl⟩ := List.mem_map.mp ha
        obtain ⟨o2, ho2, rfl⟩ := List.mem_map.mp hb
        rfl
    exact this
  · have e4 := minT_B (offers most H) (own m)
    array_get_dec
    refine ⟨?_, k_U1.trans (k_U2.trans (k_U3.trans (k_U4.trans (k_U5.trans (k_U6.trans k_U7)))))⟩
    show Val.tup [.str m.name, minT (bsV (own m)) ((offers most H).map bsV), .tup (H.map hdV)] = _
    rw [e4]
    rfl
end
end K57
namespace K57
open PySem PySem.Spec PyProof.Rows L2 G Th AL KL Fr Od
open K37 (fmod_lt p60 p40 TxOk Sh ShL valA_put putA_len merge_app)
open K08 (ws_cut)
section
variable {S : Sto} {n : Net} {s : List Rw} {ws : List (Str × Str)} {most age : Int}
theorem SOk.name (so : SOk n s) {i : Nat} (h1 : i < s.length) (h2 : i < n.ms.length) : s[i].name = n.ms[i].name := by
  have := so.nm
  have e : (s.map Rw.name)[i]? = (n.names)[i]? := by rw [this]
  unfold Net.names at e
  rw [List.getElem?_map, List.getElem?_map, List.getElem?_eq_getElem h1, List.getElem?_eq_getElem h2] at e
  exact Option.some.inj e
def upE (s : List Rw) : Val → Bool
  | .str e => (bestOf s e).isSome
  | _ => false
def frE (s : List Rw) : Val → Val
  | .str e => match bestOf s e with
    | some b => .tup [.str e, keyV b.key, .int b.st, .int 0]
    | none => .non
  | _ => .non
theorem frs_map (s : List Rw) : ∀ es : List Str, (((es.filter fun e => (bestOf s e).isSome).map Val.str)).map (frE s) = (frs s es).map hdV
  | [] => rfl
  | e :: es => by
    have ih := frs_map s es
    unfold frs at ih ⊢
    cases h : bestOf s e with
    | none => rw [List.filter_cons_of_neg (by rw [h]; decide), List.filterMap_cons, h]; exact ih
    | some b =>
      rw [List.filter_cons_of_pos (by rw [h]; rfl), List.filterMap_cons, h, List.map_cons, List.map_cons, ih]
      show _ = hdV _ :: _
      have : frE s (.str e) = hdV ⟨e, b.key, b.st, 0⟩ := by
        unfold frE
        simp only [h]
        rfl
      rw [this]

theorem each_wp (hn : NOk n) (so : SOk n s) (w : WOk n.names ws) (a4 : age ≤ 4) (m9 : most ≤ 9) {d rr i : Nat} {rows : List Rw} {kvs : List (Key × Val)} {a10 a11 a12 a13 a14 a15 a2 : Option Val} (hd : S[d]? = some (.dic kvs)) (hv : ∀ x, valA kvs (.inr x) = (bestOf s x).map bsV)
    (hr : S[rr]? = some (.lst (rows.map rwV))) (lr : rows.length ≤ 8) (i1 : i < n.ms.length) (i2 : i < s.length) :
    Ws ((sSeq (sAsg (.nm 10) (eLc (.nm 15) (iSeq (eDef other_ends_ 2 (aCons (eV 5) (aCons (eB gIxA (eV 9) (eC (.int 0))) aNil)))) (eT (eB (gIn false) (eV 15) (eV 6))) (eV 15) [15]))
    (sSeq (sAsg (.nm 11) (eLc (.nm 15) (iSeq (eV 10)) bYes (eTup (aCons (eV 15) (aCons (eB gIxA (eB gIxA (eV 6) (eV 15)) (eC (.int 0))) (aCons (eB gIxA (eB gIxA (eV 6) (eV 15)) (eC (.int 1))) (aCons (eC (.int 0)) aNil))))) [15]))
    (sExpr (eMt isL gApp (eV 7) (aCons (eIf (eT (eB gIs (eB gIxA (eV 9) (eC (.int 1))) (eC .non))) (eV 9) (eDef row_behind_ 5 (aCons (eV 8) (aCons (eV 11) (aCons (eB gIxA (eV 9) (eC (.int 2))) (aCons (eV 3) (aCons (eV 4) aNil))))))) aNil)))))
      [some (netV n), some (stV s), a2, some (.int most), some (.int age), some (.tup (ws.map wireV)), some (.ref d), some (.ref rr), some (mbV n.ms[i]), some (rwV s[i]), a10, a11, a12, a13, a14, a15] S)
      (fun ρ U => ∃ a10 a11 a15, ρ = [some (netV n), some (stV s), a2, some (.int most), some (.int age), some (.tup (ws.map wireV)), some (.ref d), some (.ref rr), some (mbV n.ms[i]), some (rwV s[i]), a10, a11, a12, a13, a14, a15] ∧ U[rr]? = some (.lst ((rows ++ [rowN s ws most age n.ms[i] s[i]]).map rwV)) ∧ Kx rr S U) (fun _ _ => False) := by
  have h8 := hn.len
  have ro := so.row s[i] (List.getElem_mem i2)
  have en := so.name i2 i1
  have lo : (oes ws s[i].name).length ≤ 8 := by
    rw [(oes_perm fun u hu => (w.mem u hu).2.2).length_eq]
    exact w.ends_len (by unfold Net.names; rw [List.length_map]; exact h8) _
  array_get_dec
  refine (other_wp w.len).imp ?_
  rintro _ S1 ⟨r, rfl, g1, k1, l1⟩
  refine .inr ⟨r, _, rfl, g1, ?_⟩
  refine lc_pure (upE s) id g1 (by rw [List.length_map]; omega) (fun v hv2 => ?_) ?_
  · obtain ⟨e, _, rfl⟩ := List.mem_map.mp hv2
    refine bn rfl ?_
    array_get_dec
    refine vInD (k1 _ _ hd) ?_
    array_get_dec
    refine ⟨?_, rfl, fun _ => by array_get_dec; exact ⟨rfl, rfl⟩⟩
    rw [hv]
    show (Option.map bsV _).isSome = (bestOf s e).isSome
    rw [Option.isSome_map]
  have e1 : (((oes ws s[i].name).map Val.str).filter (upE s)).map id = ((oes ws s[i].name).filter fun e => (bestOf s e).isSome).map Val.str := by
    rw [List.map_id, List.filter_map]
    rfl
  rw [e1]
  have lf : ((oes ws s[i].name).filter fun e => (bestOf s e).isSome).length ≤ 8 := Nat.le_trans (List.length_filter_le _ _) lo
  intro S2 r2 e_r2 l_S2 g_r2 k_S2
  array_get_dec
  refine .inr ⟨r2, _, rfl, g_r2, ?_⟩
  refine lc_pure (fun _ => true) (frE s) g_r2 (by rw [List.length_map]; omega) (fun v hv2 => ?_) ?_
  · obtain ⟨e, he, rfl⟩ := List.mem_map.mp hv2
    obtain ⟨b, hb⟩ := Option.isSome_iff_exists.mp (List.mem_filter.mp he).2
    have hb2 : valA kvs (.inr e) = some (bsV b) := by rw [hv, hb]; rfl
    have hd2 : S2[d]? = some (.dic kvs) := k_S2 _ _ (k1 _ _ hd)
    refine bn rfl ?_
    array_get_dec
    refine ⟨rfl, rfl, fun _ => ?_⟩
    array_get_dec
    refine vIxD rfl hd2 rfl hb2 ?_
    array_get_dec
    refine vIxD rfl hd2 rfl hb2 ?_
    array_get_dec
    refine ⟨?_, rfl⟩
    unfold frE
    simp only [hb]
  rw [List.filter_eq_self.mpr fun _ _ => rfl, frs_map]
  have lfr : (frs s (oes ws s[i].name)).length ≤ 8 := by
    have := (frs_who s (oes ws s[i].name)).length_le
    rw [List.length_map] at this
    omega
  intro S3 r3 e_r3 l_S3 g_r3 k_S3
  have K3 : Kn S S3 := k1.trans (k_S2.trans k_S3)
  have hr3 := K3 _ _ hr
  have put : ∀ (U : Sto), Kn S3 U → Wp (gApp (.ref rr) [rwV (rowN s ws most age n.ms[i] s[i])] U) fun _ V => ∃ b10 b11 b15, [some (netV n), some (stV s), a2, some (.int most), some (.int age), some (.tup (ws.map wireV)), some (.ref d), some (.ref rr), some (mbV n.ms[i]), some (rwV s[i]), some (.ref r2), some (.ref r3), a12, a13, a14, a15] = [some (netV n), some (stV s), a2, some (.int most), some (.int age), some (.tup (ws.map wireV)), some (.ref d), some (.ref rr), some (mbV n.ms[i]), some (rwV s[i]), b10, b11, a12, a13, a14, b15] ∧ V[rr]? = some (.lst ((rows ++ [rowN s ws most age n.ms[i] s[i]]).map rwV)) ∧ Kx rr S V := fun U kU => by
    refine vApp rfl (kU _ _ hr3) ?_ (small (by rw [List.length_map]; omega))
    intro V l_V g_V k_V
    exact ⟨_, _, _, rfl, by rw [g_V, List.map_append]; rfl, ((K3.trans kU).kx _).trans k_V⟩
  array_get_dec
  cases hb : s[i].best with
  | none =>
    have e : rowN s ws most age n.ms[i] s[i] = s[i] := by
      unfold rowN
      rw [hb]
    rw [e] at put
    refine brT rfl ?_
    array_get_dec
    simp only [e]
    exact put S3 (.refl _)
  | some b =>
    have e : rowN s ws most age n.ms[i] s[i] = ⟨n.ms[i].name, some (minB (own n.ms[i]) (offers most (heardN s ws age s[i]))), heardN s ws age s[i]⟩ := by
      unfold rowN
      rw [hb, ← en]
    rw [e] at put
    have nd := both_nd (s := s) (age := age) (oes_nd w s[i].name) ro.nd
    refine brF rfl ?_
    array_get_dec
    refine (row_wp g_r3 lfr (ro.len hn) nd (fun h hh => ?_) (hn.nm (List.mem_map_of_mem (List.getElem_mem i1)))).imp ?_
    · rcases List.mem_append.mp hh with hh | hh
      · have := hd_fr so (fun x hx => oes_in w hx) hh
        exact ⟨hn.nm this.who, this.key.nm⟩
      · have := hd_kp ro a4 hh
        exact ⟨hn.nm this.who, this.key.nm⟩
    rintro _ S4 ⟨rfl, k4⟩
    simp only [e]
    exact wa0 (put S4 k4)
theorem round_wp (hn : NOk n) (so : SOk n s) (w : WOk n.names ws) (a4 : age ≤ 4) (m9 : most ≤ 9) {wv : Val} (hw : wv = .tup (ws.map wireV) ∨ (wv = .non ∧ ws = n.ws)) :
    Wp (state_round_ [netV n, stV s, wv, .int most, .int age] S) fun v U => v = stV (rnd n s ws most age) ∧ Kn S U := by
  have h8 := hn.len
  have ls := so.len
  have nds := so.nd hn
  have lR : (rnd n s ws most age).length = n.ms.length := by
    unfold rnd
    rw [List.length_zipWith, ls, Nat.min_self]
  have rest : ∀ (S : Sto) (wv : Val), Ws ((sSeq (sAsg (.nm 6) (eDc (.tp [(.nm 12), (.nm 13), (.nm 14)]) (iSeq (eV 1)) (eT (eB gIsN (eV 13) (eC .non))) (eV 12) (eV 13) [12, 13, 14]))
    (sSeq (sAsg (.nm 7) (eLst aNil))
    (sSeq (sFor (.tp [(.nm 8), (.nm 9)]) (iZp (aCons (eB gIxA (eV 0) (eC (.int 0))) (aCons (eV 1) aNil))) (sSeq (sAsg (.nm 10) (eLc (.nm 15) (iSeq (eDef other_ends_ 2 (aCons (eV 5) (aCons (eB gIxA (eV 9) (eC (.int 0))) aNil)))) (eT (eB (gIn false) (eV 15) (eV 6))) (eV 15) [15]))
    (sSeq (sAsg (.nm 11) (eLc (.nm 15) (iSeq (eV 10)) bYes (eTup (aCons (eV 15) (aCons (eB gIxA (eB gIxA (eV 6) (eV 15)) (eC (.int 0))) (aCons (eB gIxA (eB gIxA (eV 6) (eV 15)) (eC (.int 1))) (aCons (eC (.int 0)) aNil))))) [15]))
    (sExpr (eMt isL gApp (eV 7) (aCons (eIf (eT (eB gIs (eB gIxA (eV 9) (eC (.int 1))) (eC .non))) (eV 9) (eDef row_behind_ 5 (aCons (eV 8) (aCons (eV 11) (aCons (eB gIxA (eV 9) (eC (.int 2))) (aCons (eV 3) (aCons (eV 4) aNil))))))) aNil))))))
    (sRet (eCall gTuple (aCons (eV 7) aNil))))))
      [some (netV n), some (stV s), some wv, some (.int most), some (.int age), some (.tup (ws.map wireV)), none, none, none, none, none, none, none, none, none, none] S) (fun _ U => False) (fun v U => v = stV (rnd n s ws most age) ∧ Kn S U) := by
    intro S wv
    array_get_dec
    refine wDc ?_
    array_get_dec
    refine .inl ⟨_, rfl, ?_⟩
    refine dc_inv (fun i a T => (∀ x, valA a (.inr x) = (bestOf (s.take i) x).map bsV) ∧ a.length ≤ i ∧ i ≤ s.length ∧ T = S) (fun _ _ _ _ _ => trivial) (fun i a T ⟨_, h, h2, _⟩ => by omega) ?_ ?_ ⟨fun x => rfl, Nat.le_refl _, Nat.zero_le _, rfl⟩
    · rintro i v a T hv ⟨h1, h2, h3, rfl⟩
      have lt : i < s.length := by
        have := (List.getElem?_eq_some_iff.mp hv).1
        rwa [List.length_map] at this
      have ev : v = rwV s[i] := by
        rw [List.getElem?_map, List.getElem?_eq_getElem lt] at hv
        exact (Option.some.inj hv).symm
      subst ev
      have tk : s.take (i + 1) = s.take i ++ [s[i]] := List.take_succ_eq_append_getElem lt
      have nin : s[i].name ∉ (s.take i).map Rw.name := by
        have nd2 : ((s.take (i + 1)).map Rw.name).Nodup := ((List.take_sublist _ _).map Rw.name).nodup nds
        rw [tk, List.map_append, List.nodup_append] at nd2
        exact fun m => nd2.2.2 _ m _ (by simp) rfl
      refine bn rfl ?_
      array_get_dec
      cases hb : s[i].best with
      | none =>
        refine brF rfl ⟨fun x => ?_, by omega, lt, rfl⟩
        rw [h1, tk, bestOf_snoc nin]
        by_cases e : x = s[i].name
        · rw [if_pos e, hb]
          have : bestOf (s.take i) x = none := by
            unfold bestOf
            rw [List.find?_eq_none.mpr]
            · rfl
            · intro q hq hd
              exact nin (List.mem_map.mpr ⟨q, hq, (of_decide_eq_true hd).trans e⟩)
          rw [this]
        · rw [if_neg e]
      | some b =>
        refine brT rfl ?_
        array_get_dec
        refine ⟨.inr s[i].name, rfl, fun x => ?_, by have := putA_len a (.inr s[i].name) (boV (some b)); omega, lt, rfl⟩
        rw [valA_put, tk, bestOf_snoc nin]
        by_cases e : x = s[i].name
        · rw [if_pos e, e, if_pos rfl, hb]
          rfl
        · rw [if_neg e, if_neg (fun z : (Sum.inr x : Key) = .inr s[i].name => e (Sum.inr.inj z)), h1]
    · rintro kvs T ⟨h1, _, _, rfl⟩
      rw [List.length_map, List.take_length] at h1
      intro S1 d e_d l_S1 g_d k_S1
      array_get_dec
      intro S2 rr e_rr l_S2 g_rr k_S2
      array_get_dec
      refine ⟨_, _, rfl, ?_⟩
      have lz : (zipV (n.ms.map mbV) (s.map rwV)).length = n.ms.length := by
        unfold zipV
        rw [List.length_map, List.length_zip, List.length_map, List.length_map, ls, Nat.min_self]
      refine ws_loop (fun i ρ U => ∃ a8 a9 a10 a11 a12 a13 a14 a15, ρ = [some (netV n), some (stV s), some wv, some (.int most), some (.int age), some (.tup (ws.map wireV)), some (.ref d), some (.ref rr), a8, a9, a10, a11, a12, a13, a14, a15] ∧ U[rr]? = some (.lst (((rnd n s ws most age).take i).map rwV)) ∧ Kx rr S2 U ∧ i ≤ n.ms.length) ⟨_, _, _, _, _, _, _, _, rfl, g_rr, .refl _ _, Nat.zero_le _⟩ (fun _ _ _ _ _ => trivial) ?_ ?_
      · rintro i v ρ U hv ⟨a8, a9, a10, a11, a12, a13, a14, a15, rfl, gU, kU, li⟩
        have i1 : i < n.ms.length := by
          have := (List.getElem?_eq_some_iff.mp hv).1
          rwa [lz] at this
        have i2 : i < s.length := by omega
        obtain ⟨x, y, hx, hy, rfl⟩ := zipV_get hv
        rw [List.getElem?_map, List.getElem?_eq_getElem i1] at hx
        rw [List.getElem?_map, List.getElem?_eq_getElem i2] at hy
        cases hx
        cases hy
        refine bn rfl ?_
        dsimp only [List.set_cons_zero, List.set_cons_succ]
        have ddr : d ≠ rr := by
          have := lt_of_at g_d
          omega
        refine ws_cut' (each_wp (rows := (rnd n s ws most age).take i) hn so w a4 m9 (kU _ _ ddr (k_S2 _ _ g_d)) h1 gU (by rw [List.length_take]; omega) i1 i2) ?_ (fun _ _ h => h.elim)
        rintro _ V ⟨a10, a11, a15, rfl, gV, kV⟩
        have lt : i < (rnd n s ws most age).length := by omega
        have tk : (rnd n s ws most age).take (i + 1) = (rnd n s ws most age).take i ++ [rowN s ws most age n.ms[i] s[i]] := by
          rw [List.take_succ_eq_append_getElem lt]
          congr 2
          simp [rnd]
        exact ⟨_, _, _, _, _, _, _, _, rfl, by rw [tk]; exact gV, kU.trans kV, i1⟩
      · rintro ρ U ⟨a8, a9, a10, a11, a12, a13, a14, a15, rfl, gU, kU, li⟩
        rw [lz, ← lR, List.take_length] at gU
        array_get_dec
        refine ⟨rfl, fun q o hq => ?_⟩
        have := lt_of_at hq
        exact kU _ _ (by omega) (k_S2 _ _ (k_S1 _ _ hq))
  refine AL.wf ?_
  simp only [List.map_cons, List.map_nil, List.length_cons, List.length_nil, Nat.reduceAdd, Nat.reduceSub, List.replicate_succ, List.replicate_zero, List.cons_append, List.nil_append]
  unfold state_round_B
  rcases hw with rfl | ⟨rfl, rfl⟩
  · refine ws_seq (ws_asg (weI (wT (wB (wv rfl (wc (vIs rfl (tb rfl (brF rfl (wv rfl (bn rfl ?_)))))))))))
    exact ws_cut (rest S _) (fun _ _ h => h.elim)
  · refine ws_seq (ws_asg (weI (wT (wB (wv rfl (wc (vIs rfl (tb rfl (brT rfl (wB (wv rfl (wc (vIxT rfl rfl rfl (bn rfl ?_))))))))))))))
    exact ws_cut (rest S _) (fun _ _ h => h.elim)
end
end K57
namespace K57
open PySem PySem.Spec PyProof.Rows L2 G Th AL KL Fr Od
open K37 (fmod_lt p60 p40 TxOk Sh ShL valA_put putA_len merge_app)
open K08 (ws_cut)
section
variable {S : Sto} {Q : Val → Sto → Prop}
theorem Kn.up {S U V : Sto} {r : Nat} (h : Kn S U) (k : Kx r U V) (l : S.length ≤ r) : Kn S V := fun q o hq => k q o (by have := lt_of_at hq; omega) (h q o hq)
theorem vDictN {n : Nat} {vs : List Val} {kvs : List (Key × Val)} (h : S[n]? = some (.lst vs)) (hk : pairsK vs = some kvs) (nd : (kvs.map (·.1)).Nodup) (q : Nw S (.dic kvs) Q) : Wp (gDict [.ref n] S) Q := by
  have e : mergeA [] kvs = kvs := merge_app kvs [] (by simpa using nd)
  exact ⟨_, _, by simp only [gDict, h, hk, e], q.use⟩
theorem vLtD {x y : Val} (h1 : okV x = true) (h2 : okV y = true) (h3 : smV x y = true) (q : Q (.bl (ltV x y)) S) : Wp (gLtD x y S) Q := ⟨_, _, if_pos ⟨h1, h2, h3⟩, q⟩
theorem pairs_map {α : Type} (f : α → Str) (g : α → Val) : ∀ l : List α, pairsK (l.map fun a => .tup [.str (f a), g a]) = some (l.map fun a => (.inr (f a), g a))
  | [] => rfl
  | a :: l => by
    have ih := pairs_map f g l
    unfold pairsK at ih ⊢
    rw [List.map_cons, mapO, ih]
    rfl
theorem keys_map {α : Type} (f : α → Str) (g : α → Val) : ∀ l : List α, keysS (l.map fun a => (.inr (f a), g a)) = some (l.map f)
  | [] => rfl
  | a :: l => by rw [List.map_cons, keysS, keys_map f g l]; rfl
theorem val_map {α : Type} (f : α → Str) (g : α → Val) (x : Str) : ∀ l : List α, valA (l.map fun a => (.inr (f a), g a)) (.inr x) = (l.find? fun a => decide (f a = x)).map g
  | [] => rfl
  | a :: l => by
    have ih := val_map f g x l
    unfold valA at ih ⊢
    rw [List.map_cons, List.find?_cons, List.find?_cons]
    by_cases e : f a = x
    · simp [e]
    · have e2 : ¬ ((Sum.inr (f a) : Key) = .inr x) := fun z => e (Sum.inr.inj z)
      rw [decide_eq_false e, decide_eq_false e2]
      exact ih
theorem nd_inr {α : Type} (f : α → Str) (g : α → Val) {l : List α} (h : (l.map f).Nodup) : ((l.map fun a => ((.inr (f a), g a) : Key × Val)).map (·.1)).Nodup := by
  rw [List.map_map]
  exact List.pairwise_map.mpr ((List.pairwise_map.mp h).imp fun h e => h (Sum.inr.inj e))
def hdK (h : Hd) : Key × Val := (.inr h.who, hdV h)
def putH (l : List Hd) (f : Hd) : List Hd := if f.who ∈ l.map Hd.who then l.map (fun h => if h.who = f.who then f else h) else l ++ [f]
theorem put_map (l : List Hd) (f : Hd) : putA (l.map hdK) (.inr f.who) (hdV f) = (putH l f).map hdK := by
  have a : ((l.map hdK).any fun kv => decide (kv.1 = .inr f.who)) = decide (f.who ∈ l.map Hd.who) := by
    rw [Bool.eq_iff_iff, List.any_eq_true, decide_eq_true_eq, List.mem_map]
    constructor
    · rintro ⟨kv, hk, e⟩
      obtain ⟨h, hh, rfl⟩ := List.mem_map.mp hk
      exact ⟨h, hh, Sum.inr.inj (of_decide_eq_true e)⟩
    · rintro ⟨h, hh, e⟩
      exact ⟨hdK h, List.mem_map_of_mem hh, by rw [← e]; exact decide_eq_true rfl⟩
  unfold putA putH
  rw [a]
  by_cases c : f.who ∈ l.map Hd.who
  · rw [if_pos (decide_eq_true c), if_pos c, List.map_map, List.map_map]
    refine List.map_congr_left fun h _ => ?_
    show (if (Sum.inr h.who : Key) = .inr f.who then ((Sum.inr h.who : Key), hdV f) else hdK h) = hdK (if h.who = f.who then f else h)
    by_cases e : h.who = f.who
    · rw [if_pos e, if_pos (congrArg Sum.inr e), e]
      rfl
    · rw [if_neg e, if_neg fun z => e (Sum.inr.inj z)]
  · rw [if_neg (by simpa using c), if_neg c, List.map_append]
    rfl
theorem putH_who (l : List Hd) (f : Hd) : (putH l f).map Hd.who = if f.who ∈ l.map Hd.who then l.map Hd.who else l.map Hd.who ++ [f.who] := by
  unfold putH
  split
  · rw [List.map_map]
    refine List.map_congr_left fun h _ => ?_
    show (if h.who = f.who then f else h).who = h.who
    split
    · next e => exact e.symm
    · rfl
  · rw [List.map_append]
    rfl
theorem putH_nd {l : List Hd} {f : Hd} (h : (l.map Hd.who).Nodup) : ((putH l f).map Hd.who).Nodup := by
  rw [putH_who]
  split
  · exact h
  · next c =>
    rw [List.nodup_append]
    exact ⟨h, by simp, fun a ha b hb e => c (by rw [← List.mem_singleton.mp hb, ← e]; exact ha)⟩
theorem putH_mem {l : List Hd} {f h : Hd} : h ∈ putH l f ↔ h = f ∨ (h ∈ l ∧ h.who ≠ f.who) := by
  unfold putH
  split
  · next c =>
    rw [List.mem_map]
    constructor
    · rintro ⟨g, hg, e⟩
      by_cases z : g.who = f.who
      · rw [if_pos z] at e
        exact .inl e.symm
      · rw [if_neg z] at e
        exact .inr ⟨e ▸ hg, e ▸ z⟩
    · rintro (rfl | ⟨hg, z⟩)
      · obtain ⟨g, hg, e⟩ := List.mem_map.mp c
        exact ⟨g, hg, if_pos e⟩
      · exact ⟨h, hg, if_neg z⟩
  · next c =>
    rw [List.mem_append, List.mem_singleton]
    constructor
    · rintro (hg | rfl)
      · exact .inr ⟨hg, fun e => c (e ▸ List.mem_map_of_mem hg)⟩
      · exact .inl rfl
    · rintro (rfl | ⟨hg, _⟩)
      · exact .inr rfl
      · exact .inl hg
theorem putH_len (l : List Hd) (f : Hd) : (putH l f).length ≤ l.length + 1 := by
  unfold putH
  split
  · rw [List.length_map]
    omega
  · rw [List.length_append]
    exact Nat.le_refl _

structure Kpt (s : List Rw) (D0 : List Hd) (es : List Str) (Ds : List Hd) : Prop where
  nd : (Ds.map Hd.who).Nodup
  mem : ∀ h, h ∈ Ds ↔ h ∈ frs s es ∨ (h ∈ D0 ∧ h.who ∉ (frs s es).map Hd.who)
  len : Ds.length ≤ D0.length + es.length
theorem frs_app (s : List Rw) (es : List Str) (e : Str) : frs s (es ++ [e]) = frs s es ++ (match bestOf s e with | some b => [⟨e, b.key, b.st, 0⟩] | none => []) := by
  unfold frs
  rw [List.filterMap_append]
  congr 1
  cases h : bestOf s e with
  | none => simp [h]
  | some b => simp [h]
theorem Kpt.no {s : List Rw} {D0 Ds : List Hd} {es : List Str} {e : Str} (h : Kpt s D0 es Ds) (hb : bestOf s e = none) : Kpt s D0 (es ++ [e]) Ds := by
  have e1 : frs s (es ++ [e]) = frs s es := by rw [frs_app, hb]; simp
  exact ⟨h.nd, by rw [e1]; exact h.mem, by have := h.len; rw [List.length_append]; omega⟩
theorem Kpt.yes {s : List Rw} {D0 Ds : List Hd} {es : List Str} {e : Str} {b : Bs} (h : Kpt s D0 es Ds) (ne : e ∉ es) (hb : bestOf s e = some b) : Kpt s D0 (es ++ [e]) (putH Ds ⟨e, b.key, b.st, 0⟩) := by
  have e1 : frs s (es ++ [e]) = frs s es ++ [⟨e, b.key, b.st, 0⟩] := by rw [frs_app, hb]
  refine ⟨putH_nd h.nd, fun x => ?_, by have := h.len; have := putH_len Ds ⟨e, b.key, b.st, 0⟩; rw [List.length_append, List.length_singleton]; omega⟩
  rw [putH_mem, h.mem, e1, List.mem_append, List.mem_singleton, List.map_append, List.mem_append]
  constructor
  · rintro (rfl | ⟨hx | ⟨hx, hx2⟩, z⟩)
    · exact .inl (.inr rfl)
    · exact .inl (.inl hx)
    · exact .inr ⟨hx, fun w => w.elim hx2 fun w => z (by simpa using w)⟩
  · rintro ((hx | rfl) | ⟨hx, hx2⟩)
    · refine .inr ⟨.inl hx, fun z => ?_⟩
      obtain ⟨_, m, _, _⟩ := mem_frs.mp hx
      rw [show x.who = e from z] at m
      exact ne m
    · exact .inl rfl
    · exact .inr ⟨.inr ⟨hx, fun w => hx2 (.inl w)⟩, fun z => hx2 (.inr (by simpa using z))⟩
def kps0 (hs : List Hd) (age : Int) : List Hd := (hs.filter fun h => decide (h.old < age)).map fun h => ⟨h.who, h.key, h.st, h.old + 1⟩
theorem mem_kps0 {hs : List Hd} {age : Int} {h : Hd} : h ∈ kps0 hs age ↔ ∃ g ∈ hs, g.old < age ∧ h = ⟨g.who, g.key, g.st, g.old + 1⟩ := by
  unfold kps0
  simp only [List.mem_map, List.mem_filter, decide_eq_true_eq]
  constructor
  · rintro ⟨g, ⟨h1, h3⟩, rfl⟩
    exact ⟨g, h1, h3, rfl⟩
  · rintro ⟨g, h1, h3, rfl⟩
    exact ⟨g, ⟨h1, h3⟩, rfl⟩
theorem kps0_who (hs : List Hd) (age : Int) : ((kps0 hs age).map Hd.who).Sublist (hs.map Hd.who) := by
  unfold kps0
  rw [List.map_map]
  exact (List.filter_sublist (l := hs)).map Hd.who
theorem frs_iff {s : List Rw} {es es' : List Str} (h : ∀ x, x ∈ es ↔ x ∈ es') (z : Hd) : z ∈ frs s es ↔ z ∈ frs s es' := by
  rw [mem_frs, mem_frs]
  exact ⟨fun ⟨b, a, c⟩ => ⟨b, (h _).mp a, c⟩, fun ⟨b, a, c⟩ => ⟨b, (h _).mpr a, c⟩⟩

theorem Kpt.all {s : List Rw} {hs Ds : List Hd} {es es' : List Str} {age : Int} (h : Kpt s (kps0 hs age) es Ds) (e : ∀ x, x ∈ es ↔ x ∈ es') (nd' : es'.Nodup) (ndh : (hs.map Hd.who).Nodup) : sortH Ds = sortH (frs s es' ++ kps (frs s es') hs age) := by
  have fw : ∀ x, x ∈ (frs s es).map Hd.who ↔ x ∈ (frs s es').map Hd.who := fun x => by
    simp only [List.mem_map]
    exact ⟨fun ⟨a, b, c⟩ => ⟨a, (frs_iff e a).mp b, c⟩, fun ⟨a, b, c⟩ => ⟨a, (frs_iff e a).mpr b, c⟩⟩
  refine sortH_uniq (both_nd nd' ndh) (sortH_pw Ds) ((sortH_perm Ds).trans (nd_perm (fun x => ?_) h.nd (both_nd nd' ndh)))
  rw [h.mem, List.mem_append, frs_iff e, fw]
  refine or_congr Iff.rfl ?_
  rw [mem_kps0, mem_kps]
  constructor
  · rintro ⟨⟨g, h1, h2, rfl⟩, h3⟩
    exact ⟨g, h1, h3, h2, rfl⟩
  · rintro ⟨g, h1, h3, h2, rfl⟩
    exact ⟨⟨g, h1, h2, rfl⟩, h3⟩
theorem sortH_who (l : List Hd) : (sortH l).map Hd.who = sortS (l.map Hd.who) := sortS_eq (List.pairwise_map.mpr (sortH_pw l)) ((sortH_perm l).map Hd.who)
end
end K57
namespace K57
open PySem PySem.Spec PyProof.Rows L2 G Th AL KL Fr Od
open K37 (fmod_lt p60 p40 TxOk Sh ShL valA_put putA_len merge_app)
open K08 (ws_cut)
section
variable {S : Sto} {n : Net} {s : List Rw} {ws : List (Str × Str)} {most age : Int}
def pairV : Val → Val
  | .tup (a :: b :: _) => .tup [a, b]
  | _ => .non
def isO (age : Int) : Val → Bool
  | .tup [_, _, _, .int o] => decide (o < age)
  | _ => false
def upP : Val → Val
  | .tup [w, k, s, .int o] => .tup [w, .tup [w, k, s, .int (o + 1)]]
  | _ => .non
def lookV (l : List Hd) : Val → Val
  | .str w => (valA (l.map hdK) (.inr w)).getD .non
  | _ => .non
theorem look_hd {l : List Hd} (nd : (l.map Hd.who).Nodup) {h : Hd} (hh : h ∈ l) : valA (l.map hdK) (.inr h.who) = some (hdV h) := by
  have := val_map Hd.who hdV h.who l
  rw [show l.map hdK = l.map fun a : Hd => ((.inr a.who, hdV a) : Key × Val) from rfl, this]
  have f : ∃ g, l.find? (fun a => decide (a.who = h.who)) = some g := by
    cases e : l.find? (fun a => decide (a.who = h.who)) with
    | none => exact absurd (decide_eq_true (p := h.who = h.who) rfl) (by simpa using List.find?_eq_none.mp e h hh)
    | some g => exact ⟨g, rfl⟩
  obtain ⟨g, hg⟩ := f
  have e1 : g.who = h.who := of_decide_eq_true (List.find?_some (p := fun a : Hd => decide (a.who = h.who)) hg)
  have e2 : g = h := who_inj nd (List.mem_of_find?_eq_some hg) hh e1
  rw [hg, e2]
  rfl

theorem bests_at (so : SOk n s) {x : Str} (hx : x ∈ n.names) : valA (s.map fun r => (.inr r.name, boV r.best)) (.inr x) = some (boV (bestOf s x)) := by
  rw [val_map Rw.name (fun r => boV r.best) x s]
  rw [← so.nm] at hx
  obtain ⟨r, hr, e⟩ := List.mem_map.mp hx
  cases f : s.find? (fun a => decide (a.name = x)) with
  | none => exact absurd (decide_eq_true (p := r.name = x) e) (by simpa using List.find?_eq_none.mp f r hr)
  | some q =>
    unfold bestOf
    rw [f]
    rfl

theorem keep_wp (hn : NOk n) (so : SOk n s) {D0 : List Hd} {es : List Str} (ein : ∀ x ∈ es, x ∈ n.names) (end_ : es.Nodup) (e8 : es.length ≤ 8) (d8 : D0.length ≤ 8) (dnd : (D0.map Hd.who).Nodup) {db dk re : Nat} {a1 a2 a3 a4 a6 a7 a8 a9 a10 a12 a13 a14 a15 a16 : Option Val} (g1 : S[db]? = some (.dic (s.map fun r => (.inr r.name, boV r.best)))) (g2 : S[dk]? = some (.dic (D0.map hdK))) (g3 : S[re]? = some (.lst (es.map .str))) (n1 : db ≠ dk) (n2 : re ≠ dk) :
    Ws (forR (.nm 12) (sIf (eT (eB gIsN (eB gIxA (eV 5) (eV 12)) (eC .non))) (sSub gSetA (eV 11) (eV 12) (eTup (aCons (eV 12) (aCons (eB gIxA (eB gIxA (eV 5) (eV 12)) (eC (.int 0))) (aCons (eB gIxA (eB gIxA (eV 5) (eV 12)) (eC (.int 1))) (aCons (eC (.int 0)) aNil)))))) sNil) (fun U => U[re]? = some (.lst (es.map .str))) (es.map .str)
      [some (netV n), a1, a2, a3, a4, some (.ref db), a6, a7, a8, a9, a10, some (.ref dk), a12, a13, a14, a15, a16] S)
      (fun ρ U => ∃ (w12 : Option Val) (Ds : List Hd), ρ = [some (netV n), a1, a2, a3, a4, some (.ref db), a6, a7, a8, a9, a10, some (.ref dk), w12, a13, a14, a15, a16] ∧ U[dk]? = some (.dic (Ds.map hdK)) ∧ Kpt s D0 es Ds ∧ Kx dk S U) (fun _ _ => False) := by
  refine ws_loop (fun i ρ U => ∃ (w12 : Option Val) (Ds : List Hd), ρ = [some (netV n), a1, a2, a3, a4, some (.ref db), a6, a7, a8, a9, a10, some (.ref dk), w12, a13, a14, a15, a16] ∧ U[dk]? = some (.dic (Ds.map hdK)) ∧ Kpt s D0 (es.take i) Ds ∧ Kx dk S U ∧ i ≤ es.length) ⟨a12, D0, rfl, g2, ⟨dnd, fun h => by simp [frs], by simp⟩, .refl _ _, Nat.zero_le _⟩ (fun i ρ U _ ⟨_, _, _, _, _, k, _⟩ => k _ _ n2 g3) ?_ ?_
  · rintro i v ρ U hv ⟨w12, Ds, rfl, gU, kp, kU, li⟩
    have lt : i < es.length := by
      have := (List.getElem?_eq_some_iff.mp hv).1
      rwa [List.length_map] at this
    have ev : v = .str es[i] := by
      rw [List.getElem?_map, List.getElem?_eq_getElem lt] at hv
      exact (Option.some.inj hv).symm
    subst ev
    have tk : es.take (i + 1) = es.take i ++ [es[i]] := List.take_succ_eq_append_getElem lt
    have nin : es[i] ∉ es.take i := by
      have nd2 : (es.take (i + 1)).Nodup := (List.take_sublist _ _).nodup end_
      rw [tk, List.nodup_append] at nd2
      exact fun m => nd2.2.2 _ m _ (by simp) rfl
    have gb := kU _ _ n1 g1
    have hb := bests_at so (ein _ (List.getElem_mem lt))
    refine bn rfl ?_
    array_get_dec
    refine vIxD rfl gb rfl hb ?_
    array_get_dec
    cases h : bestOf s es[i] with
    | none =>
      refine brF rfl ?_
      array_get_dec
      exact ⟨_, Ds, rfl, gU, by rw [tk]; exact kp.no h, kU, lt⟩
    | some b =>
      rw [h] at hb
      refine brT rfl ?_
      array_get_dec
      refine vIxD rfl gb rfl hb ?_
      array_get_dec
      refine vIxD rfl gb rfl hb ?_
      array_get_dec
      have lD := kp.len
      rw [List.length_take] at lD
      refine vPut gU rfl ?_ (small (by rw [List.length_map]; omega))
      intro V l_V g_V k_V
      refine ⟨_, putH Ds ⟨es[i], b.key, b.st, 0⟩, rfl, ?_, by rw [tk]; exact kp.yes nin h, kU.trans k_V, lt⟩
      rw [g_V, ← put_map]
      rfl
  · rintro ρ U ⟨w12, Ds, rfl, gU, kp, kU, li⟩
    rw [List.length_map, List.take_length] at kp
    exact ⟨w12, Ds, rfl, gU, kp, kU⟩

theorem best_wp {H : List Hd} {b0 : Bs} (ok0 : okV (bsV b0) = true) (ok : ∀ h ∈ H, NmOk h.who ∧ NmOk h.key.nm) {a0 a1 a2 a4 a5 a6 a7 a8 a10 a11 a12 a13 a14 a15 a16 : Option Val} :
    Ws (forR (.tp [(.nm 13), (.nm 14), (.nm 15), (.nm 16)]) (sIf (bAnd (eT (eB gLt (eV 15) (eV 3))) (eT (eB gLtD (eTup (aCons (eV 14) (aCons (eB gAdd (eV 15) (eC (.int 1))) (aCons (eV 13) aNil)))) (eV 9)))) (sAsg (.nm 9) (eTup (aCons (eV 14) (aCons (eB gAdd (eV 15) (eC (.int 1))) (aCons (eV 13) aNil))))) sNil) (fun _ => True) (H.map hdV)
      [a0, a1, a2, some (.int most), a4, a5, a6, a7, a8, some (bsV b0), a10, a11, a12, a13, a14, a15, a16] S)
      (fun ρ U => ∃ w13 w14 w15 w16, ρ = [a0, a1, a2, some (.int most), a4, a5, a6, a7, a8, some (bsV (minB b0 (offers most H))), a10, a11, a12, w13, w14, w15, w16] ∧ S = U) (fun _ _ => False) := by
  refine ws_loop (fun i ρ U => ∃ w13 w14 w15 w16, ρ = [a0, a1, a2, some (.int most), a4, a5, a6, a7, a8, some (bsV (minB b0 (offers most (H.take i)))), a10, a11, a12, w13, w14, w15, w16] ∧ S = U ∧ i ≤ H.length ∧ okV (bsV (minB b0 (offers most (H.take i)))) = true) ⟨_, _, _, _, rfl, rfl, Nat.zero_le _, ok0⟩ (fun _ _ _ _ _ => trivial) ?_ ?_
  · rintro i v ρ U hv ⟨w13, w14, w15, w16, rfl, rfl, li, okb⟩
    have lt : i < H.length := by
      have := (List.getElem?_eq_some_iff.mp hv).1
      rwa [List.length_map] at this
    have ev : v = hdV H[i] := by
      rw [List.getElem?_map, List.getElem?_eq_getElem lt] at hv
      exact (Option.some.inj hv).symm
    subst ev
    have tk : H.take (i + 1) = H.take i ++ [H[i]] := List.take_succ_eq_append_getElem lt
    have oko := ok _ (List.getElem_mem lt)
    refine bn rfl ?_
    array_get_dec
    refine Br.of (fun c => ?_) (fun c => ?_)
    · have c : H[i].st < most := of_decide_eq_true c
      have eo : offers most (H.take (i + 1)) = offers most (H.take i) ++ [⟨H[i].key, H[i].st + 1, H[i].who⟩] := by
        rw [tk]
        unfold offers
        rw [List.filter_append, List.map_append, List.filter_cons_of_pos (by simpa using c)]
        rfl
      have okn : okV (bsV ⟨H[i].key, H[i].st + 1, H[i].who⟩) = true := bs_okV oko.2 oko.1
      array_get_dec
      refine vLtD okn okb (bs_sm ⟨H[i].key, H[i].st + 1, H[i].who⟩ (minB b0 (offers most (H.take i)))) ?_
      array_get_dec
      rw [eo, minB_snoc]
      unfold bet
      refine Br.of (fun d => ?_) (fun d => ?_)
      · have d : ltV (bsV ⟨H[i].key, H[i].st + 1, H[i].who⟩) (bsV (minB b0 (offers most (H.take i)))) = true := d
        array_get_dec
        rw [if_pos d]
        exact ⟨_, _, _, _, rfl, rfl, lt, okn⟩
      · have d : ltV (bsV ⟨H[i].key, H[i].st + 1, H[i].who⟩) (bsV (minB b0 (offers most (H.take i)))) = false := d
        array_get_dec
        rw [if_neg (by rw [d]; decide)]
        exact ⟨_, _, _, _, rfl, rfl, lt, okb⟩
    · have c : ¬ H[i].st < most := of_decide_eq_false c
      have eo : offers most (H.take (i + 1)) = offers most (H.take i) := by
        rw [tk]
        unfold offers
        rw [List.filter_append, List.map_append, List.filter_cons_of_neg (by simpa using c)]
        simp
      array_get_dec
      rw [eo]
      exact ⟨_, _, _, _, rfl, rfl, lt, okb⟩
  · rintro ρ U ⟨w13, w14, w15, w16, rfl, rfl, li, _⟩
    rw [List.length_map, List.take_length]
    exact ⟨_, _, _, _, rfl, rfl⟩
theorem turned_wp (hn : NOk n) (so : SOk n s) (w : WOk n.names ws) (a4 : age ≤ 4) (m9 : most ≤ 9) : Wp (turnedL_ [netV n, stV s, .tup (ws.map wireV), .int most, .int age] S) fun v U => v = stV (rnd n s ws most age) ∧ Kn S U := by
  have h8 := hn.len
  have ls := so.len
  have nds := so.nd hn
  have lR : (rnd n s ws most age).length = n.ms.length := by
    unfold rnd
    rw [List.length_zipWith, ls, Nat.min_self]
  have eb : ((s.map rwV).filter fun _ => true).map pairV = s.map fun r => .tup [.str r.name, boV r.best] := by
    rw [List.filter_eq_self.mpr fun _ _ => rfl, List.map_map]
    rfl
  refine AL.wf ?_; simp only [List.map_cons, List.map_nil, List.length_cons, List.length_nil, Nat.reduceAdd, Nat.reduceSub, List.replicate_succ, List.replicate_zero, List.cons_append, List.nil_append]; unfold turnedL_B; array_get_dec
  refine .inl ⟨_, rfl, ?_⟩
  refine lc_pure (fun _ => true) pairV trivial (by rw [List.length_map]; omega) (fun v hv => ?_) ?_
  · obtain ⟨r, _, rfl⟩ := List.mem_map.mp hv
    refine bn rfl ?_
    array_get_dec
    exact ⟨rfl, rfl, fun _ => by array_get_dec; exact ⟨rfl, rfl⟩⟩
  rw [eb]
  intro S1 r1 e_r1 l_S1 g_r1 k_S1
  array_get_dec
  refine vDictN g_r1 (pairs_map Rw.name (fun r => boV r.best) s) (nd_inr _ _ nds) ?_
  intro S2 db e_db l_S2 g_db k_S2
  array_get_dec
  intro S3 rf e_rf l_S3 g_rf k_S3
  array_get_dec
  refine ⟨_, rfl, ?_, by rw [List.length_map]; omega, by rw [List.length_map]; omega⟩
  rw [List.length_map]
  have lz : (rangeV 0 (n.ms.length : Int).toNat).length = n.ms.length := by simp [rangeV]
  have K3 : Kn S S3 := k_S1.trans (k_S2.trans k_S3)
  have dbf : db ≠ rf := by omega
  refine ws_loop (fun i ρ U => ∃ a7 a8 a9 a10 a11 a12 a13 a14 a15 a16, ρ = [some (netV n), some (stV s), some (.tup (ws.map wireV)), some (.int most), some (.int age), some (.ref db), some (.ref rf), a7, a8, a9, a10, a11, a12, a13, a14, a15, a16] ∧ U[rf]? = some (.lst (((rnd n s ws most age).take i).map rwV)) ∧ Kx rf S3 U ∧ i ≤ n.ms.length) ⟨_, _, _, _, _, _, _, _, _, _, rfl, g_rf, .refl _ _, Nat.zero_le _⟩ (fun _ _ _ _ _ => trivial) ?_ ?_
  · rintro i v ρ U hv ⟨a7, a8, a9, a10, a11, a12, a13, a14, a15, a16, rfl, gU, kU, li⟩
    have i1 : i < n.ms.length := by
      have := (List.getElem?_eq_some_iff.mp hv).1
      rwa [lz] at this
    have i2 : i < s.length := by omega
    have ev : v = .int (i : Nat) := by
      simp only [rangeV, List.getElem?_map] at hv
      obtain ⟨m, hm, rfl⟩ := Option.map_eq_some_iff.mp hv
      obtain ⟨_, rfl⟩ := List.getElem?_eq_some_iff.mp hm
      simp
    subst ev
    have en := so.name i2 i1
    have ro := so.row s[i] (List.getElem_mem i2)
    have lt : i < (rnd n s ws most age).length := by omega
    have tk : (rnd n s ws most age).take (i + 1) = (rnd n s ws most age).take i ++ [rowN s ws most age n.ms[i] s[i]] := by
      rw [List.take_succ_eq_append_getElem lt]
      congr 2
      simp [rnd]
    have lU : S3.length ≤ U.length := by
      have : ∀ k, k ≠ rf → k < S3.length → k < U.length := fun k h1 h2 => lt_of_at (kU k _ h1 (List.getElem?_eq_getElem h2))
      have := lt_of_at gU
      have := this
      by_cases c : S3.length ≤ U.length
      · exact c
      · omega
    have put : ∀ (bo : Option Bs) (hs : List Hd) (a11 a12 a13 a14 a15 a16 : Option Val) (V : Sto), (⟨s[i].name, bo, hs⟩ : Rw) = rowN s ws most age n.ms[i] s[i] → V[rf]? = some (.lst (((rnd n s ws most age).take i).map rwV)) → Kx rf S3 V →
        Ws (sExpr (eMt isL gApp (eV 6) (aCons (eTup (aCons (eV 8) (aCons (eV 9) (aCons (eV 10) aNil)))) aNil)) [some (netV n), some (stV s), some (.tup (ws.map wireV)), some (.int most), some (.int age), some (.ref db), some (.ref rf), some (.int (i : Nat)), some (.str s[i].name), some (boV bo), some (.tup (hs.map hdV)), a11, a12, a13, a14, a15, a16] V) (fun ρ U => ∃ a7 a8 a9 a10 a11 a12 a13 a14 a15 a16, ρ = [some (netV n), some (stV s), some (.tup (ws.map wireV)), some (.int most), some (.int age), some (.ref db), some (.ref rf), a7, a8, a9, a10, a11, a12, a13, a14, a15, a16] ∧ U[rf]? = some (.lst (((rnd n s ws most age).take (i + 1)).map rwV)) ∧ Kx rf S3 U ∧ i + 1 ≤ n.ms.length) (fun v U => v = stV (rnd n s ws most age) ∧ Kn S U) := by
      intro bo hs a11 a12 a13 a14 a15 a16 V e gV kV
      array_get_dec
      refine vApp rfl gV ?_ (small (by rw [List.length_map, List.length_take]; omega))
      intro W l_W g_W k_W
      refine ⟨_, _, _, _, _, _, _, _, _, _, rfl, ?_, kV.trans k_W, i1⟩
      rw [g_W, tk, List.map_append, ← e]
      rfl
    refine bn rfl ?_
    array_get_dec
    refine vIxT rfl rfl (atI_nat (j := i) (by rw [List.getElem?_map, List.getElem?_eq_getElem i2]; rfl)) ?_
    array_get_dec
    cases hb : s[i].best with
    | none =>
      have e : rowN s ws most age n.ms[i] s[i] = s[i] := by
        unfold rowN
        rw [hb]
      refine brF rfl (ws_nil ?_)
      refine put none s[i].hs _ _ _ _ _ _ U ?_ gU kU
      rw [e, ← hb]
    | some b =>
      have e : rowN s ws most age n.ms[i] s[i] = ⟨s[i].name, some (minB (own n.ms[i]) (offers most (heardN s ws age s[i]))), heardN s ws age s[i]⟩ := by
        unfold rowN
        rw [hb]
      have l8 := ro.len hn
      have ek : ((s[i].hs.map hdV).filter (isO age)).map upP = (kps0 s[i].hs age).map fun h => .tup [.str h.who, hdV h] := by
        unfold kps0
        rw [List.filter_map, List.map_map, List.map_map]
        rfl
      have d8 : (kps0 s[i].hs age).length ≤ 8 := by
        unfold kps0
        rw [List.length_map]
        exact Nat.le_trans (List.length_filter_le _ _) l8
      have dnd := (kps0_who s[i].hs age).nodup ro.nd
      refine brT rfl ?_
      array_get_dec
      refine .inl ⟨_, rfl, ?_⟩
      refine lc_pure (isO age) upP trivial (by rw [List.length_map]; omega) (fun v hv => ?_) ?_
      · obtain ⟨h, _, rfl⟩ := List.mem_map.mp hv
        refine bn rfl ?_
        array_get_dec
        exact ⟨rfl, rfl, fun _ => by array_get_dec; exact ⟨rfl, rfl⟩⟩
      rw [ek]
      intro U1 r2 e_r2 l_U1 g_r2 k_U1
      array_get_dec
      refine vDictN g_r2 (pairs_map Hd.who hdV _) (nd_inr _ _ dnd) ?_
      intro U2 dk e_dk l_U2 g_dk k_U2
      array_get_dec
      refine (endsL_wp w.len).imp ?_
      rintro _ U3 ⟨re, rfl, ge, k3, lre⟩
      have ein : ∀ x ∈ ends ws s[i].name, x ∈ n.names := fun x hx => w.ends_in ((sortS_perm _).mem_iff.mp hx)
      have endn : (ends ws s[i].name).Nodup := (sortS_perm _).nodup_iff.mpr (w.ends_nd _)
      have e8 : (ends ws s[i].name).length ≤ 8 := by
        unfold ends
        rw [(sortS_perm _).length_eq]
        exact w.ends_len (by unfold Net.names; rw [List.length_map]; exact h8) _
      have kU3 : Kn U U3 := k_U1.trans (k_U2.trans k3)
      have gb3 := kU3 _ _ (kU _ _ dbf (k_S3 _ _ g_db))
      have gd3 : U3[dk]? = some (.dic ((kps0 s[i].hs age).map hdK)) := k3 _ _ g_dk
      have l0 := lt_of_at (kU _ _ dbf (k_S3 _ _ g_db))
      refine .inr ⟨re, _, rfl, ge, ?_⟩
      refine ws_cut' (keep_wp hn so ein endn e8 d8 dnd gb3 gd3 ge (by omega) (by have := lt_of_at g_dk; omega)) ?_ (fun _ _ h => h.elim)
      rintro _ V ⟨w12, Ds, rfl, gV, kp, kV⟩
      have lD : Ds.length ≤ 16 := by
        have := kp.len
        omega
      have eq := kp.all (es' := oes ws s[i].name) (fun x => by
        rw [show x ∈ ends ws s[i].name ↔ x ∈ endsL ws s[i].name from (sortS_perm _).mem_iff, (oes_perm fun u hu => (w.mem u hu).2.2).mem_iff]) (oes_nd w _) ro.nd
      have eH : sortH Ds = heardN s ws age s[i] := eq
      array_get_dec
      refine vSortGD rfl gV (keys_map Hd.who hdV Ds) (by rw [List.length_map]; omega) ?_
      rw [← sortH_who]
      intro V1 r5 e_r5 l_V1 g_r5 k_V1
      refine .inr ⟨r5, _, rfl, g_r5, ?_⟩
      refine lc_pure (fun _ => true) (lookV Ds) g_r5 (by rw [List.length_map, List.length_map, (sortH_perm _).length_eq]; omega) (fun v hv => ?_) ?_
      · obtain ⟨x, hx, rfl⟩ := List.mem_map.mp hv
        obtain ⟨h, hh, rfl⟩ := List.mem_map.mp hx
        have lk := look_hd kp.nd ((sortH_perm Ds).mem_iff.mp hh)
        refine bn rfl ?_
        array_get_dec
        refine ⟨rfl, rfl, fun _ => ?_⟩
        array_get_dec
        refine vIxD rfl (k_V1 _ _ gV) rfl lk ⟨?_, rfl⟩
        unfold lookV
        simp only [lk]
        rfl
      have el : ((((sortH Ds).map Hd.who).map Val.str).filter fun _ => true).map (lookV Ds) = (sortH Ds).map hdV := by
        rw [List.filter_eq_self.mpr fun _ _ => rfl, List.map_map, List.map_map]
        refine List.map_congr_left fun h hh => ?_
        have lk := look_hd kp.nd ((sortH_perm Ds).mem_iff.mp hh)
        show lookV Ds (.str h.who) = hdV h
        unfold lookV
        simp only [lk]
        rfl
      rw [el, eH]
      intro V2 r6 e_r6 l_V2 g_r6 k_V2
      array_get_dec
      refine vIxT rfl rfl (atI_nat (j := i) (by rw [List.getElem?_map, List.getElem?_eq_getElem i1]; rfl)) ?_
      array_get_dec
      refine keyL_wp.imp ?_
      rintro _ _ ⟨rfl, rfl⟩
      array_get_dec
      have okm := hn.nm (List.mem_map_of_mem (List.getElem_mem i1))
      have okh : ∀ h ∈ heardN s ws age s[i], NmOk h.who ∧ NmOk h.key.nm := fun h hh => by
        rcases List.mem_append.mp ((sortH_perm _).mem_iff.mp hh) with hh | hh
        · have := hd_fr so (fun x hx => oes_in w hx) hh
          exact ⟨hn.nm this.who, this.key.nm⟩
        · have := hd_kp ro a4 hh
          exact ⟨hn.nm this.who, this.key.nm⟩
      have eo : Val.tup [keyV (mkey n.ms[i]), .int 0, .str s[i].name] = bsV (own n.ms[i]) := by rw [en]; rfl
      rw [eo]
      refine .inl ⟨_, rfl, ?_⟩
      refine ws_cut' (best_wp (bs_okV okm okm) okh) ?_ (fun _ _ h => h.elim)
      rintro _ _ ⟨w13, w14, w15, w16, rfl, rfl⟩
      have rfdk : rf ≠ dk := by
        have := lt_of_at gU
        omega
      refine put (some (minB (own n.ms[i]) (offers most (heardN s ws age s[i])))) (heardN s ws age s[i]) _ _ _ _ _ _ V2 e.symm (k_V2 _ _ (k_V1 _ _ (kV _ _ rfdk (kU3 _ _ gU)))) ?_
      intro q o hq h
      have := lt_of_at h
      exact k_V2 _ _ (k_V1 _ _ (kV _ _ (by omega) (kU3 _ _ (kU _ _ hq h))))
  · rintro ρ U ⟨a7, a8, a9, a10, a11, a12, a13, a14, a15, a16, rfl, gU, kU, li⟩
    rw [lz, ← lR, List.take_length] at gU
    array_get_dec
    refine ⟨rfl, fun q o hq => ?_⟩
    have := lt_of_at hq
    exact kU _ _ (by omega) (K3 _ _ hq)
end
end K57
namespace K57
open PySem PySem.Spec PyProof.Rows L2 G Th AL KL Fr Od
open K37 (fmod_lt p60 p40 TxOk Sh ShL valA_put putA_len merge_app)
open K08 (ws_cut)
theorem sh_small {i : Int} (h0 : 0 ≤ i) (h1 : i < 1024) : Sh 0 10 (.int i) := Sh.int (b := 10) (by omega) (by decide)
theorem sh_ky {k : Ky} (h : KyOk k) : Sh 1 40 (keyV k) := by
  have a := h.p0
  have b := h.p1
  have c := h.c0
  have d := h.c1
  exact ((ShL.cons (sh_small a (by omega)) (ShL.cons (sh_small c (by omega)) (ShL.cons (Sh.str h.nm) (ShL.nil (w := 0))))).tup).mono (by omega) (by omega)
theorem sh_bs {ns : List Str} {b : Bs} (h : BsOk ns b) (nm : NmOk b.who) : Sh 2 70 (bsV b) := by
  have a := h.s0
  have c := h.s1
  exact ((ShL.cons (sh_ky h.key) (ShL.cons ((sh_small a (by omega)).mono (n' := 1) (by omega) (Nat.le_refl _)) (ShL.cons ((Sh.str nm).mono (n' := 1) (by omega) (Nat.le_refl _)) (ShL.nil (w := 0))))).tup).mono (by omega) (by omega)
theorem sh_hd {ns : List Str} {x : Hd} (h : HdOk ns x) (nm : NmOk x.who) : Sh 2 80 (hdV x) := by
  have a := h.s0
  have c := h.s1
  have d := h.o0
  have e := h.o1
  exact ((ShL.cons ((Sh.str nm).mono (n' := 1) (by omega) (Nat.le_refl _)) (ShL.cons (sh_ky h.key) (ShL.cons ((sh_small a (by omega)).mono (n' := 1) (by omega) (Nat.le_refl _)) (ShL.cons ((sh_small d (by omega)).mono (n' := 1) (by omega) (Nat.le_refl _)) (ShL.nil (w := 0)))))).tup).mono (by omega) (by omega)
section
variable {n : Net} {s : List Rw} {ws : List (Str × Str)} {most age : Int}
theorem sh_row (hn : NOk n) {r : Rw} (h : RwOk n.names r) (nm : NmOk r.name) : Sh 4 800 (rwV r) := by
  have l8 := h.len hn
  have hb : Sh 2 70 (boV r.best) := by
    cases e : r.best with
    | none => exact Sh.non
    | some b => exact sh_bs (h.best b e) (hn.nm (h.best b e).who)
  have hh : Sh 3 650 (.tup (r.hs.map hdV)) := (ShL.map (f := hdV) r.hs fun x hx => sh_hd (h.hs x hx) (hn.nm (h.hs x hx).who)).tup.mono (by omega) (by omega)
  exact ((ShL.cons ((Sh.str nm).mono (n' := 3) (by omega) (Nat.le_refl _)) (ShL.cons (hb.mono (n' := 3) (by omega) (Nat.le_refl _)) (ShL.cons hh (ShL.nil (w := 0))))).tup).mono (by omega) (by omega)
theorem SOk.nms (hn : NOk n) (so : SOk n s) {r : Rw} (hr : r ∈ s) : NmOk r.name := hn.nm (so.nm ▸ List.mem_map_of_mem hr)
theorem sh_st (hn : NOk n) (so : SOk n s) : Sh 5 6500 (stV s) := by
  have l8 := hn.len
  have ls := so.len
  exact (ShL.map (f := rwV) s fun r hr => sh_row hn (so.row r hr) (so.nms hn hr)).tup.mono (by omega) (by omega)
theorem reprL {k w : Nat} {vs : List Val} (h : ShL k w vs) (hk : k < 38) (hw : w ≤ 40000) : ∃ x : Str, ∀ (S : Sto) (a : Nat), S[a]? = some (.lst vs) → gRepr [.ref a] S = some (.str x, S) := by
  obtain ⟨ds, o1, o2, o3, o4⟩ := h
  refine ⟨(PyData.list ds).shown, fun S a ha => ?_⟩
  have D : Dt S (k + 1) w (.ref a) (.list ds) := Dt.lst ha ⟨o1, o2, o3, fun j hj => o4 S j hj⟩
  exact D.repr (by omega) hw
def itr (n : Net) (ws : List (Str × Str)) (most age : Int) (s : List Rw) : Nat → List Rw
  | 0 => s
  | k + 1 => rnd n (itr n ws most age s k) ws most age
theorem itr_ok (hn : NOk n) (so : SOk n s) (w : WOk n.names ws) (a4 : age ≤ 4) (m9 : most ≤ 9) : ∀ k, SOk n (itr n ws most age s k)
  | 0 => so
  | k + 1 => rnd_ok hn (itr_ok hn so w a4 m9 k) w a4 m9
variable {S : Sto}
end
end K57
namespace AL
open PySem PySem.Spec PyProof.Rows L2 G Th
theorem kn_app {S : Sto} {o : Ob} : Kn S (S ++ [o]) := fun n x h => by
  have := (List.getElem?_eq_some_iff.mp h).1
  rw [List.getElem?_append_left this]
  exact h
end AL
namespace K56
open PySem PySem.Spec PyProof.Rows L2 G Th AL KL Fr Od
open K57 (own_best_ own_best_B feedL_ feedL_B drawL_ drawL_B keyL_ keyL_B endsL_ endsL_B)
open K57 (wireV Mb mbV Net netV WOk NOk NmOk keyV Ky KyOk Tf draw_wp Rw rwV stV SOk RwOk BsOk HdOk Bs Hd hdV boV bsV K2 feed_wp own own_wp mkey keyL_wp endsL_wp ends sortS_perm vInL)
open K37 (fmod_lt p60 p40 TxOk Sh ShL)
open K08 (ws_cut)
section
variable {n : Net} {s : List Rw} {S : Sto} {x : Str} {B : Int}
def fst (m : Mb) : Rw := ⟨m.name, some (own m), []⟩
def rowU (m : Mb) (r : Rw) (t : Bool) : Rw := if t = r.best.isSome then r else ⟨m.name, if t then some (own m) else none, []⟩
def fsV : Val → Val
  | .tup [.str x, .int p, .int c] => rwV (fst ⟨x, p, c⟩)
  | _ => .non
theorem fsV_mb (m : Mb) : fsV (mbV m) = rwV (fst m) := rfl
theorem first_wp (hl : n.ms.length ≤ 8) : Wp (first_state_ [netV n] S) fun v U => v = stV (n.ms.map fst) ∧ Kn S U := by
  refine AL.wf ?_; simp only [List.map_cons, List.map_nil, List.length_cons, List.length_nil, Nat.reduceAdd, Nat.reduceSub, List.replicate_succ, List.replicate_zero, List.cons_append, List.nil_append]; unfold first_state_B; array_get_dec
  refine .inl ⟨_, rfl, ?_⟩
  refine lc_pure (fun _ => true) fsV trivial (by rw [List.length_map]; omega) (fun v hv => ?_) ?_
  · obtain ⟨m, hm, rfl⟩ := List.mem_map.mp hv
    refine bn rfl ?_
    array_get_dec
    refine ⟨rfl, rfl, fun _ => ?_⟩
    array_get_dec
    refine own_wp.imp ?_
    rintro _ _ ⟨rfl, rfl⟩
    array_get_dec
    exact ⟨rfl, rfl⟩
  have e : (((n.ms.map mbV).filter fun _ => true).map fsV) = (n.ms.map fst).map rwV := by
    rw [List.filter_eq_self.mpr fun _ _ => rfl, List.map_map, List.map_map]
    exact List.map_congr_left fun m _ => fsV_mb m
  rw [e]
  intro U r e_r l_U g_r k_U
  array_get_dec
  exact ⟨rfl, k_U⟩
theorem row_up_wp {m : Mb} {r : Rw} {t : Bool} : Wp (row_up_ [mbV m, rwV r, .bl t] S) fun v U => v = rwV (rowU m r t) ∧ S = U := by
  refine AL.wf ?_; simp only [List.map_cons, List.map_nil, List.length_cons, List.length_nil, Nat.reduceAdd, Nat.reduceSub, List.replicate_succ, List.replicate_zero, List.cons_append, List.nil_append]; unfold row_up_B; array_get_dec
  obtain ⟨nm, bo, hs⟩ := r
  cases bo with
  | none =>
    cases t with
    | false =>
      array_get_dec
      exact ⟨rfl, rfl⟩
    | true =>
      array_get_dec
      refine own_wp.imp ?_
      rintro _ _ ⟨rfl, rfl⟩
      array_get_dec
      exact ⟨rfl, rfl⟩
  | some b =>
    cases t with
    | false =>
      array_get_dec
      exact ⟨rfl, rfl⟩
    | true =>
      array_get_dec
      exact ⟨rfl, rfl⟩
theorem up_len (so : SOk n s) : s.length = n.ms.length := by
  have := congrArg List.length so.nm
  unfold Net.names at this
  rwa [List.length_map, List.length_map] at this
theorem up_nm (so : SOk n s) {i : Nat} {m : Mb} {r : Rw} (hm : n.ms[i]? = some m) (hr : s[i]? = some r) : r.name = m.name := by
  have h1 : (s.map Rw.name)[i]? = some r.name := by rw [List.getElem?_map, hr]; rfl
  have h2 : n.names[i]? = some m.name := by unfold Net.names; rw [List.getElem?_map, hm]; rfl
  rw [so.nm, h2] at h1
  exact (Option.some.inj h1).symm
def upR (x : Str) (t : Bool) (p : Mb × Rw) : Rw := if p.2.name = x then rowU p.1 p.2 t else p.2
def up (n : Net) (s : List Rw) (x : Str) (t : Bool) : List Rw := (n.ms.zip s).map (upR x t)
theorem own_ok (hn : NOk n) {m : Mb} (hm : m ∈ n.ms) : BsOk n.names (own m) := ⟨K57.mkey_ok hn hm, Int.le_refl 0, by show (0 : Int) ≤ 9; decide, List.mem_map_of_mem hm⟩
theorem zip_at {i : Nat} {p : Mb × Rw} (h : (n.ms.zip s)[i]? = some p) : n.ms[i]? = some p.1 ∧ s[i]? = some p.2 := List.getElem?_zip_eq_some.mp h
theorem up_ok (hn : NOk n) (so : SOk n s) (x : Str) (t : Bool) : SOk n (up n s x t) := by
  have hl := up_len so
  have hnm : ∀ p ∈ n.ms.zip s, p.2.name = p.1.name ∧ p.1 ∈ n.ms ∧ p.2 ∈ s := fun p hp => by
    obtain ⟨i, hi⟩ := List.getElem?_of_mem hp
    obtain ⟨h1, h2⟩ := zip_at hi
    exact ⟨up_nm so h1 h2, List.mem_of_getElem? h1, List.mem_of_getElem? h2⟩
  refine ⟨?_, fun r hr => ?_⟩
  · have e : (n.ms.zip s).map (fun p => p.1) = n.ms := List.map_fst_zip (by omega)
    unfold up Net.names
    rw [List.map_map]
    conv => rhs; rw [← e]
    rw [List.map_map]
    refine List.map_congr_left fun p hp => ?_
    obtain ⟨h1, _⟩ := hnm p hp
    show (upR x t p).name = p.1.name
    unfold upR rowU
    split
    · split
      · exact h1
      · rfl
    · exact h1
  · obtain ⟨p, hp, rfl⟩ := List.mem_map.mp hr
    obtain ⟨_, h2, h3⟩ := hnm p hp
    have ro := so.row _ h3
    unfold upR rowU
    split
    · split
      · exact ro
      · refine ⟨fun b hb => ?_, by simp, by simp⟩
        cases t
        · cases hb
        · cases hb
          exact own_ok hn h2
    · exact ro
theorem fst_ok (hn : NOk n) : SOk n (n.ms.map fst) := by
  refine ⟨by unfold Net.names; rw [List.map_map]; rfl, fun r hr => ?_⟩
  obtain ⟨m, hm, rfl⟩ := List.mem_map.mp hr
  exact ⟨fun b hb => by cases hb; exact own_ok hn hm, by simp [fst], by simp [fst]⟩
def prV (p : Mb × Rw) : Val := .tup [mbV p.1, rwV p.2]
theorem zipV_eq : ∀ (ms : List Mb) (s : List Rw), zipV (ms.map mbV) (s.map rwV) = (ms.zip s).map prV
  | [], _ => rfl
  | _ :: _, [] => rfl
  | m :: ms, r :: s => by
    show _ = prV (m, r) :: (ms.zip s).map prV
    rw [← zipV_eq ms s]
    rfl

theorem lc_all {α : Type} {ok : Sto → Prop} {p : Pat} {t : BF} {f : EF} {ρ : Rho} {A : List Val → Sto → Prop} (hok : ok S) (L : List α) (k : α → Val) (g : α → Val) (hl : L.length < 900000)
    (h : ∀ a ∈ L, Bn (p.bind (k a) ρ) fun ρ1 => Wp (t ρ1 S) fun c T => c = true ∧ T = S ∧ Wp (f ρ1 S) fun y T => y = g a ∧ T = S) (q : A (L.map g) S) : Wp (lcR p t f ok ρ (L.map k) [] S) A := by
  refine lc_inv (fun i a V => a = (L.take i).map g ∧ V = S) (by rw [List.length_map]; omega) ⟨rfl, rfl⟩ (fun i a V _ ⟨_, e⟩ => e ▸ hok) (fun i a V ⟨e, _⟩ => by rw [e, List.length_map, List.length_take]; omega) ?_ ?_
  · rintro i v a V hv ⟨rfl, rfl⟩
    rw [List.getElem?_map] at hv
    obtain ⟨x, hx, rfl⟩ := Option.map_eq_some_iff.mp hv
    obtain ⟨lt, ex⟩ := List.getElem?_eq_some_iff.mp hx
    obtain ⟨ρ1, hb, z⟩ := h x (List.mem_of_getElem? hx)
    refine ⟨ρ1, hb, z.imp fun c T ⟨c1, c2, z2⟩ => ?_⟩
    subst c1 c2
    refine brT rfl (z2.imp fun y U ⟨y1, y2⟩ => ?_)
    rw [List.take_succ_eq_append_getElem lt, ex, List.map_append, y1]
    exact ⟨rfl, y2⟩
  · rintro a V ⟨rfl, rfl⟩
    rw [List.length_map, List.take_length]
    exact q
theorem isX_st (s : List Rw) : isX (stV s) = none := by cases s <;> rfl
theorem state_up_wp (hn : NOk n) (so : SOk n s) {t : Bool} : Wp (state_up_ [netV n, stV s, .str x, .bl t] S) fun v U => ((x ∈ n.names ∧ v = stV (up n s x t)) ∨ (x ∉ n.names ∧ v = xv "NoHouse" [.str x])) ∧ Kn S U := by
  have l8 := hn.len
  have hl := up_len so
  refine AL.wf ?_; simp only [List.map_cons, List.map_nil, List.length_cons, List.length_nil, Nat.reduceAdd, Nat.reduceSub, List.replicate_succ, List.replicate_zero, List.cons_append, List.nil_append]; unfold state_up_B; array_get_dec
  refine .inl ⟨_, rfl, ?_⟩
  refine lc_all trivial n.ms mbV (fun m => .str m.name) (by omega) (fun m hm => ?_) ?_
  · refine bn rfl ?_
    array_get_dec
    exact ⟨rfl, rfl, by array_get_dec; exact ⟨rfl, rfl⟩⟩
  have e : n.ms.map (fun m => Val.str m.name) = n.names.map .str := by unfold Net.names; rw [List.map_map]; rfl
  rw [e]
  intro U r e_r l_U g_r k_U
  array_get_dec
  refine vInL g_r ?_
  array_get_dec
  refine Br.of (fun c => ?_) (fun c => ?_)
  · have c : x ∉ n.names := by simpa using c
    refine ws_raise (wa1 ?_)
    array_get_dec
    exact ⟨.inr ⟨c, rfl⟩, k_U⟩
  · have c : x ∈ n.names := by simpa using c
    refine ws_nil ?_
    refine ws_retN ?_
    array_get_dec
    refine ⟨_, _, rfl, ?_⟩
    rw [zipV_eq]
    refine lc_all trivial (n.ms.zip s) prV (fun p => rwV (upR x t p)) (by rw [List.length_zip]; omega) (fun p hp => ?_) ?_
    · refine bn rfl ?_
      array_get_dec
      refine ⟨rfl, rfl, ?_⟩
      array_get_dec
      refine Br.of (fun c => ?_) (fun c => ?_)
      · have c : p.2.name = x := by simpa using c
        array_get_dec
        refine row_up_wp.imp ?_
        rintro _ _ ⟨rfl, rfl⟩
        exact ⟨by unfold upR; rw [if_pos c], rfl⟩
      · have c : ¬ p.2.name = x := by simpa using c
        array_get_dec
        exact ⟨by unfold upR; rw [if_neg c], rfl⟩
    have e2 : (n.ms.zip s).map (fun p => rwV (upR x t p)) = (up n s x t).map rwV := by unfold up; rw [List.map_map]; rfl
    rw [e2]
    intro V q e_q l_V g_q k_V
    array_get_dec
    exact ⟨isX_st _, .inl ⟨c, rfl⟩, k_U.trans k_V⟩
end
end K56
namespace K56
open PySem PySem.Spec PyProof.Rows L2 G Th AL KL Fr Od
open K57 (own_best_ own_best_B feedL_ feedL_B drawL_ drawL_B keyL_ keyL_B endsL_ endsL_B)
open K57 (wireV Mb mbV Net netV WOk NOk NmOk keyV Ky KyOk Tf draw_wp sh_st Rw rwV stV SOk RwOk BsOk HdOk Bs Hd hdV boV bsV K2 feed_wp own own_wp mkey keyL_wp endsL_wp ends sortS_perm vInL)
open K37 (fmod_lt p60 p40 TxOk Sh ShL)
open K08 (ws_cut)
section
variable {n : Net} {s s0 : List Rw} {S : Sto} {x : Str} {B : Int} {ns : List Int} {i : Nat}
theorem eqA_of {x y : Val} {d e : PyData} (h : eqS x y = none) (h1 : toD S 40 x = some d) (h2 : toD S 40 y = some e) (s1 : SeqAt.shaped d = true) (s2 : SeqAt.shaped e = true) : eqA S x y = some (PyData.eqv d e) := by
  unfold eqA
  simp only [h, h1, h2, s1, s2, and_self, if_true]
theorem nobody {x : Str} (hn : NOk n) (hx : x ∈ (["nobody", "zzzzzzz"] : List Str)) : x ∉ n.names := fun h => by
  have := hn.inp x h
  simp only [List.mem_cons, List.not_mem_nil, or_false] at hx
  rcases hx with rfl | rfl <;> exact absurd this (by decide +kernel)
end
end K56
namespace K57
open PySem PySem.Spec PyProof.Rows L2 G Th AL KL Fr Od
open K37 (fmod_lt p60 p40 TxOk Sh ShL valA_put putA_len merge_app)
open K08 (ws_cut)
end K57
namespace Bf
section
variable {α : Type} {nb : α → α → Prop} {s x y z : α}

inductive W (nb : α → α → Prop) (s : α) : Nat → α → Prop
  | nil : W nb s 0 s
  | snoc {n : Nat} {x y : α} : W nb s n x → nb x y → W nb s (n + 1) y
theorem W.trans {n : Nat} (h : W nb s n x) : ∀ {m : Nat} {y : α}, W nb x m y → W nb s (n + m) y := by
  intro m y g
  induction g with
  | nil => exact h
  | snoc _ e ih => exact ih.snoc e
theorem W.one (h : nb x y) : W nb x 1 y := .snoc .nil h
theorem W.symm (sy : ∀ a b, nb a b → nb b a) {n : Nat} (h : W nb s n x) : W nb x n s := by
  induction h with
  | nil => exact .nil
  | @snoc n x y _ e ih =>
    have := (W.one (sy _ _ e)).trans ih
    rwa [Nat.add_comm] at this
def Rc (nb : α → α → Prop) (s x : α) : Prop := ∃ n, W nb s n x
theorem Rc.refl : Rc nb s s := ⟨0, .nil⟩
theorem Rc.trans (h : Rc nb s x) (g : Rc nb x y) : Rc nb s y := let ⟨n, a⟩ := h; let ⟨m, b⟩ := g; ⟨n + m, a.trans b⟩
theorem Rc.symm (sy : ∀ a b, nb a b → nb b a) (h : Rc nb s x) : Rc nb x s := let ⟨n, a⟩ := h; ⟨n, a.symm sy⟩

structure BF (nb : α → α → Prop) (s : α) (D : List (α × Nat)) : Prop where
  nd : (D.map (·.1)).Nodup
  st : (s, 0) ∈ D
  wk : ∀ x d, (x, d) ∈ D → W nb s d x
  cl : ∀ x d y, (x, d) ∈ D → nb x y → ∃ e, e ≤ d + 1 ∧ (y, e) ∈ D
theorem at_uniq : ∀ {D : List (α × Nat)} {x : α} {d e : Nat}, (D.map (·.1)).Nodup → (x, d) ∈ D → (x, e) ∈ D → d = e
  | [], _, _, _, _, h, _ => nomatch h
  | p :: D, x, d, e, nd, h, g => by
    rw [List.map_cons, List.nodup_cons] at nd
    have out : ∀ {c : Nat}, (p.1, c) ∈ D → False := fun {c} g => nd.1 (List.mem_map_of_mem (f := (·.1)) g)
    rcases List.mem_cons.mp h with h1 | h1 <;> rcases List.mem_cons.mp g with g1 | g1
    · rw [← h1] at g1
      exact (congrArg Prod.snd g1).symm
    · exact (out (by rw [← h1]; exact g1)).elim
    · exact (out (by rw [← g1]; exact h1)).elim
    · exact at_uniq nd.2 h1 g1
theorem BF.all {D : List (α × Nat)} (h : BF nb s D) {n : Nat} (w : W nb s n x) : ∃ d, d ≤ n ∧ (x, d) ∈ D := by
  induction w with
  | nil => exact ⟨0, Nat.le_refl _, h.st⟩
  | snoc _ e ih =>
    obtain ⟨d, l, m⟩ := ih
    obtain ⟨d', l', m'⟩ := h.cl _ _ _ m e
    exact ⟨d', by omega, m'⟩
theorem BF.le {D : List (α × Nat)} (h : BF nb s D) {n d : Nat} (w : W nb s n x) (m : (x, d) ∈ D) : d ≤ n := by
  obtain ⟨d', l, m'⟩ := h.all w
  rw [at_uniq h.nd m m']
  exact l
theorem BF.mem {D : List (α × Nat)} (h : BF nb s D) : x ∈ D.map (·.1) ↔ Rc nb s x := by
  constructor
  · intro m
    obtain ⟨⟨y, d⟩, m', rfl⟩ := List.mem_map.mp m
    exact ⟨d, h.wk _ _ m'⟩
  · rintro ⟨n, w⟩
    obtain ⟨d, _, m⟩ := h.all w
    exact List.mem_map_of_mem (f := (·.1)) m

theorem BF.near {D : List (α × Nat)} (h : BF nb s D) {d : Nat} (m : (x, d + 1) ∈ D) : ∃ y, nb y x ∧ (y, d) ∈ D := by
  have w := h.wk _ _ m
  cases w with
  | @snoc n y x w e =>
    obtain ⟨d', l, m'⟩ := h.all w
    obtain ⟨d2, l2, m2⟩ := h.cl _ _ _ m' e
    have := at_uniq h.nd m m2
    exact ⟨y, e, by rwa [show d = d' by omega]⟩

structure Qu (nb : α → α → Prop) (s : α) (D : List (α × Nat)) (p : Nat) : Prop where
  nd : (D.map (·.1)).Nodup
  st : (s, 0) ∈ D
  wk : ∀ x d, (x, d) ∈ D → W nb s d x
  so : D.Pairwise fun a b => a.2 ≤ b.2
  le : p ≤ D.length
  hi : ∀ q, D[p]? = some q → ∀ r ∈ D, r.2 ≤ q.2 + 1
  cl : ∀ i x d y, i < p → D[i]? = some (x, d) → nb x y → ∃ e, e ≤ d + 1 ∧ (y, e) ∈ D
theorem Qu.init : Qu nb s [(s, 0)] 0 := ⟨by simp, by simp, fun x d h => by
  rw [List.mem_singleton] at h
  cases h
  exact .nil, by simp, by simp, fun q hq r hr => by
    rw [List.mem_singleton] at hr
    subst hr
    exact Nat.zero_le _, fun i x d y h => absurd h (Nat.not_lt_zero _)⟩
theorem Qu.fin {D : List (α × Nat)} (h : Qu nb s D D.length) : BF nb s D := ⟨h.nd, h.st, h.wk, fun x d y m e => by
  obtain ⟨i, hi⟩ := List.getElem?_of_mem m
  exact h.cl i x d y (List.getElem?_eq_some_iff.mp hi).1 hi e⟩

structure Qi (nb : α → α → Prop) (s : α) (D : List (α × Nat)) (p : Nat) (x : α) (d : Nat) (ys : List α) : Prop where
  at_ : D[p]? = some (x, d)
  nd : (D.map (·.1)).Nodup
  st : (s, 0) ∈ D
  wk : ∀ x d, (x, d) ∈ D → W nb s d x
  so : D.Pairwise fun a b => a.2 ≤ b.2
  hi : ∀ r ∈ D, r.2 ≤ d + 1
  cl : ∀ i x d y, i < p → D[i]? = some (x, d) → nb x y → ∃ e, e ≤ d + 1 ∧ (y, e) ∈ D
  ys : ∀ y ∈ ys, ∃ e, e ≤ d + 1 ∧ (y, e) ∈ D
theorem Qu.open_ {D : List (α × Nat)} {p : Nat} {d : Nat} (h : Qu nb s D p) (e : D[p]? = some (x, d)) : Qi nb s D p x d [] := ⟨e, h.nd, h.st, h.wk, h.so, h.hi _ e, h.cl, fun _ h => nomatch h⟩
theorem Qi.old {D : List (α × Nat)} {p d : Nat} {ys : List α} (h : Qi nb s D p x d ys) (m : y ∈ D.map (·.1)) : Qi nb s D p x d (ys ++ [y]) := ⟨h.at_, h.nd, h.st, h.wk, h.so, h.hi, h.cl, fun z hz => by
  rcases List.mem_append.mp hz with hz | hz
  · exact h.ys z hz
  · rw [List.mem_singleton] at hz
    subst hz
    obtain ⟨⟨z, e⟩, m', rfl⟩ := List.mem_map.mp m
    exact ⟨e, h.hi _ m', m'⟩⟩
theorem Qi.new {D : List (α × Nat)} {p d : Nat} {ys : List α} (h : Qi nb s D p x d ys) (m : y ∉ D.map (·.1)) (e : nb x y) : Qi nb s (D ++ [(y, d + 1)]) p x d (ys ++ [y]) := by
  have lp := (List.getElem?_eq_some_iff.mp h.at_).1
  refine ⟨by rw [List.getElem?_append_left lp]; exact h.at_, ?_, List.mem_append_left _ h.st, fun z c hz => ?_, ?_, fun r hr => ?_, fun i z c u hi hz hn => ?_, fun z hz => ?_⟩
  · rw [List.map_append, List.nodup_append]
    refine ⟨h.nd, by simp, fun a ha b hb => ?_⟩
    simp only [List.map_cons, List.map_nil, List.mem_singleton] at hb
    subst hb
    exact fun q => m (q ▸ ha)
  · rcases List.mem_append.mp hz with hz | hz
    · exact h.wk _ _ hz
    · rw [List.mem_singleton] at hz
      cases hz
      exact (h.wk _ _ (List.mem_of_getElem? h.at_)).snoc e
  · rw [List.pairwise_append]
    refine ⟨h.so, by simp, fun a ha b hb => ?_⟩
    rw [List.mem_singleton] at hb
    subst hb
    exact h.hi a ha
  · rcases List.mem_append.mp hr with hr | hr
    · exact h.hi r hr
    · rw [List.mem_singleton] at hr
      subst hr
      exact Nat.le_refl _
  · rw [List.getElem?_append_left (by omega)] at hz
    obtain ⟨c', l, m⟩ := h.cl i z c u hi hz hn
    exact ⟨c', l, List.mem_append_left _ m⟩
  · rcases List.mem_append.mp hz with hz | hz
    · obtain ⟨c', l, m⟩ := h.ys z hz
      exact ⟨c', l, List.mem_append_left _ m⟩
    · rw [List.mem_singleton] at hz
      subst hz
      exact ⟨d + 1, Nat.le_refl _, by simp⟩
theorem Qi.close {D : List (α × Nat)} {p d : Nat} {ys : List α} (h : Qi nb s D p x d ys) (all : ∀ y, nb x y → y ∈ ys) : Qu nb s D (p + 1) := by
  have lp := (List.getElem?_eq_some_iff.mp h.at_).1
  refine ⟨h.nd, h.st, h.wk, h.so, lp, fun q hq r hr => ?_, fun i z c u hi hz hn => ?_⟩
  · have h1 := h.hi r hr
    have h2 : d ≤ q.2 := by
      obtain ⟨l2, e2⟩ := List.getElem?_eq_some_iff.mp hq
      obtain ⟨l1, e1⟩ := List.getElem?_eq_some_iff.mp h.at_
      have := List.pairwise_iff_getElem.mp h.so p (p + 1) l1 l2 (Nat.lt_succ_self _)
      rw [e1, e2] at this
      exact this
    omega
  · rcases Nat.lt_or_ge i p with c | c
    · exact h.cl i _ _ u c hz hn
    · obtain rfl : i = p := by omega
      rw [h.at_] at hz
      cases hz
      exact h.ys u (all u hn)

structure Lv (nb : α → α → Prop) (s : α) (D : List (α × Nat)) (E : List α) (m : Nat) : Prop where
  nd : (D.map (·.1)).Nodup
  st : (s, 0) ∈ D
  wk : ∀ x d, (x, d) ∈ D → W nb s d x
  hi : ∀ r ∈ D, r.2 ≤ m
  ed : ∀ x, x ∈ E ↔ (x, m) ∈ D
  cl : ∀ x d y, d < m → (x, d) ∈ D → nb x y → ∃ e, e ≤ d + 1 ∧ (y, e) ∈ D
theorem Lv.init : Lv nb s [(s, 0)] [s] 0 := ⟨by simp, by simp, fun x d h => by
  rw [List.mem_singleton] at h
  cases h
  exact .nil, by simp, by simp, fun x d y h => absurd h (Nat.not_lt_zero _)⟩
theorem Lv.fin {D : List (α × Nat)} {m : Nat} (h : Lv nb s D [] m) : BF nb s D := ⟨h.nd, h.st, h.wk, fun x d y hm e => by
  have h1 := h.hi _ hm
  have h2 : d ≠ m := fun z => by
    subst z
    exact nomatch (h.ed x).mpr hm
  have h1 : d ≤ m := h1
  exact h.cl x d y (by omega) hm e⟩

structure Li (nb : α → α → Prop) (s : α) (D : List (α × Nat)) (E : List α) (m : Nat) (M : List α) (xs : List α) (x : α) (ys : List α) : Prop where
  nd : (D.map (·.1)).Nodup
  st : (s, 0) ∈ D
  wk : ∀ x d, (x, d) ∈ D → W nb s d x
  hi : ∀ r ∈ D, r.2 ≤ m + 1
  ed : ∀ x, x ∈ E ↔ (x, m) ∈ D
  mo : ∀ x, x ∈ M ↔ (x, m + 1) ∈ D
  cl : ∀ x d y, d < m → (x, d) ∈ D → nb x y → ∃ e, e ≤ d + 1 ∧ (y, e) ∈ D
  xs : ∀ x ∈ xs, ∀ y, nb x y → y ∈ D.map (·.1)
  ys : ∀ y ∈ ys, nb x y → y ∈ D.map (·.1)
theorem Lv.open_ {D : List (α × Nat)} {E : List α} {m : Nat} (h : Lv nb s D E m) (x : α) : Li nb s D E m [] [] x [] := by
  refine ⟨h.nd, h.st, h.wk, fun r hr => Nat.le_succ_of_le (h.hi r hr), h.ed, fun x => ⟨fun z => (List.not_mem_nil z).elim, fun z => ?_⟩, h.cl, fun _ h => (List.not_mem_nil h).elim, fun _ h => (List.not_mem_nil h).elim⟩
  have : m + 1 ≤ m := h.hi _ z
  omega
theorem Li.old {D : List (α × Nat)} {E M : List α} {m : Nat} {xs ys : List α} (h : Li nb s D E m M xs x ys) (q : nb x y → y ∈ D.map (·.1)) : Li nb s D E m M xs x (ys ++ [y]) := ⟨h.nd, h.st, h.wk, h.hi, h.ed, h.mo, h.cl, h.xs, fun z hz => by
  rcases List.mem_append.mp hz with hz | hz
  · exact h.ys z hz
  · rw [List.mem_singleton] at hz
    subst hz
    exact q⟩
theorem Li.new {D : List (α × Nat)} {E M : List α} {m : Nat} {xs ys : List α} (h : Li nb s D E m M xs x ys) (hx : x ∈ E) (q : y ∉ D.map (·.1)) (e : nb x y) : Li nb s (D ++ [(y, m + 1)]) E m (M ++ [y]) xs x (ys ++ [y]) := by
  have up : ∀ z, z ∈ D.map (·.1) → z ∈ (D ++ [(y, m + 1)]).map (·.1) := fun z hz => by rw [List.map_append]; exact List.mem_append_left _ hz
  refine ⟨?_, List.mem_append_left _ h.st, fun z c hz => ?_, fun r hr => ?_, fun z => ?_, fun z => ?_, fun z c u hc hz hn => ?_, fun z hz u hu => up _ (h.xs z hz u hu), fun z hz hu => ?_⟩
  · rw [List.map_append, List.nodup_append]
    refine ⟨h.nd, by simp, fun a ha b hb => ?_⟩
    simp only [List.map_cons, List.map_nil, List.mem_singleton] at hb
    subst hb
    exact fun z => q (z ▸ ha)
  · rcases List.mem_append.mp hz with hz | hz
    · exact h.wk _ _ hz
    · rw [List.mem_singleton] at hz
      cases hz
      exact (h.wk _ _ ((h.ed x).mp hx)).snoc e
  · rcases List.mem_append.mp hr with hr | hr
    · exact h.hi r hr
    · rw [List.mem_singleton] at hr
      subst hr
      exact Nat.le_refl _
  · rw [h.ed z, List.mem_append, List.mem_singleton]
    exact ⟨.inl, fun g => g.elim id fun z => by cases z⟩
  · rw [List.mem_append, h.mo z, List.mem_append, List.mem_singleton, List.mem_singleton]
    exact ⟨fun g => g.imp id fun z => by rw [z], fun g => g.imp id fun z => (Prod.mk.inj z).1⟩
  · rcases List.mem_append.mp hz with hz | hz
    · obtain ⟨c', l, m⟩ := h.cl z c u hc hz hn
      exact ⟨c', l, List.mem_append_left _ m⟩
    · rw [List.mem_singleton] at hz
      cases hz
      omega
  · rcases List.mem_append.mp hz with hz | hz
    · exact up _ (h.ys z hz hu)
    · rw [List.mem_singleton] at hz
      subst hz
      simp
theorem Li.next {D : List (α × Nat)} {E M : List α} {m : Nat} {xs ys : List α} (h : Li nb s D E m M xs x ys) (all : ∀ y, nb x y → y ∈ ys) (x' : α) : Li nb s D E m M (xs ++ [x]) x' [] := ⟨h.nd, h.st, h.wk, h.hi, h.ed, h.mo, h.cl, fun z hz u hu => by
  rcases List.mem_append.mp hz with hz | hz
  · exact h.xs z hz u hu
  · rw [List.mem_singleton] at hz
    subst hz
    exact h.ys u (all u hu) hu, fun _ h => nomatch h⟩
theorem Li.close {D : List (α × Nat)} {E M : List α} {m : Nat} {xs ys : List α} (h : Li nb s D E m M xs x ys) (all : ∀ z ∈ E, z ∈ xs) : Lv nb s D M (m + 1) := ⟨h.nd, h.st, h.wk, h.hi, h.mo, fun z c u hc hz hn => by
  rcases Nat.lt_or_ge c m with l | l
  · exact h.cl z c u l hz hn
  · obtain rfl : c = m := by omega
    have := h.xs z (all z ((h.ed z).mpr hz)) u hn
    obtain ⟨⟨u', e⟩, m', rfl⟩ := List.mem_map.mp this
    exact ⟨e, h.hi _ m', m'⟩⟩
end
end Bf
namespace K13
open PySem PySem.Spec PyProof.Rows L2 G Th AL


end K13
namespace K13
open PySem PySem.Spec PyProof.Rows L2 G Th AL K37 KL Fr
open K08 (F8 Sc wAt sok)
theorem wDspP {ρ : Rho} {S : Sto} {ga : AF} {Q : Val → Sto → Prop} {vs : List Val} {kvs : List (Key × Val)} (h : ∀ T, Wp (ga ρ T) fun ws T' => ws = vs ∧ T' = T) (hk : pairUp vs = some kvs) (h15 : kvs.length ≤ 15) (q : Nw S (.dic (mergeA [] kvs)) Q) : Wp (eDsp ga ρ S) Q := by
  obtain ⟨ws, T, e, rfl, rfl⟩ := h (S ++ [.dic []])
  refine ⟨.ref S.length, S ++ [.dic (mergeA [] kvs)], ?_, q.use⟩
  unfold eDsp
  rw [e]
  have z : (S ++ [Ob.dic []])[S.length]? = some (.dic []) := by simp
  simp only [Option.bind_some, hk, z]
  rw [if_pos h15]
  simp
theorem at_last {xs : List Val} {v : Val} : atI (xs ++ [v]) (-1) = some v := by
  have e : ixN (xs ++ [v]).length (-1) = some xs.length := by
    unfold ixN
    simp
    omega
  unfold atI
  rw [e]
  simp
def Stp (es : List Ev) (a b : Nat) : Prop := (es.getD b dEv).deed = .hear a ∨ lastAt es b (es.getD b dEv).name = some a
inductive Rch (es : List Ev) (x : Nat) : Nat → Prop
  | refl : Rch es x x
  | step {a b : Nat} : Rch es x a → Stp es a b → Rch es x b
section
variable {fl : Fl} {es : List Ev} {ws : List Fq} {x a b k : Nat}
end
end K13
namespace K60
open PySem PySem.Spec PyProof.Rows L2 G Th AL KL Fr Od Bf
open K57 (other_ends_ other_ends_B own_best_ own_best_B feedL_ feedL_B drawL_ drawL_B keyL_ keyL_B endsL_ endsL_B)
open K57 (wireV Mb mbV Net netV pool WOk NOk NmOk endsL ends oes oes_perm mem_endsL other_wp endsL_wp keyV mkey own own_wp bsV keyL_wp vInL vInD vDictN pairs_map val_map nd_inr nd_len tl tl_inj sortS_perm sortS_pw sortS_eq oes_in oes_nd)
open K37 (fmod_lt p60 p40 TxOk Sh ShL valA_put putA_len merge_app)
open K08 (ws_cut)
def nbl (ws : List (Str × Str)) (up : List Str) (x : Str) : List Str := (oes ws x).filter fun y => decide (y ∈ up)
def Nb (ws : List (Str × Str)) (up : List Str) (x y : Str) : Prop := y ∈ up ∧ y ∈ endsL ws x

structure UOk (n : Net) (up : List Str) (ws : List (Str × Str)) : Prop where
  sub : up.Sublist n.names
  w : WOk n.names ws
theorem nm_tx {x : Str} (h : NmOk x) : TxOk x := h
section
variable {n : Net} {up : List Str} {ws : List (Str × Str)} {S : Sto} {x y s : Str}
theorem UOk.nd (hn : NOk n) (u : UOk n up ws) : up.Nodup := u.sub.nodup hn.nd
theorem UOk.len (hn : NOk n) (u : UOk n up ws) : up.length ≤ 8 := by
  have := u.sub.length_le
  have h := hn.len
  unfold Net.names at this
  rw [List.length_map] at this
  omega
theorem UOk.nm (hn : NOk n) (u : UOk n up ws) (h : x ∈ up) : NmOk x := hn.nm (u.sub.subset h)
theorem UOk.oes (u : UOk n up ws) (x : Str) : (oes ws x).Perm (endsL ws x) := oes_perm fun v hv => (u.w.mem v hv).2.2
theorem UOk.nbl (u : UOk n up ws) : y ∈ nbl ws up x ↔ Nb ws up x y := by
  unfold K60.nbl Nb
  rw [List.mem_filter, (u.oes x).mem_iff]
  simp [and_comm]
theorem nb_symm (hx : x ∈ up) (h : Nb ws up x y) : Nb ws up y x := ⟨hx, by
  have := h.2
  rw [mem_endsL] at this ⊢
  exact this.symm⟩
theorem UOk.oes_len (hn : NOk n) (u : UOk n up ws) (x : Str) : (K57.oes ws x).length ≤ 8 := by
  rw [(u.oes x).length_eq]
  exact u.w.ends_len (by have := hn.len; unfold Net.names; rw [List.length_map]; exact this) x
theorem UOk.nbl_len (hn : NOk n) (u : UOk n up ws) (x : Str) : (K60.nbl ws up x).length ≤ 8 := Nat.le_trans (List.length_filter_le _ _) (u.oes_len hn x)

theorem putA_no {kvs : List (Key × Val)} {k : Key} {v : Val} (h : k ∉ kvs.map (·.1)) : putA kvs k v = kvs ++ [(k, v)] := by
  unfold putA
  rw [if_neg]
  intro z
  obtain ⟨q, hq, e⟩ := List.any_eq_true.mp z
  exact h (List.mem_map.mpr ⟨q, hq, of_decide_eq_true e⟩)
theorem valA_at : ∀ {kvs : List (Key × Val)} {k : Key} {v : Val}, (kvs.map (·.1)).Nodup → (k, v) ∈ kvs → valA kvs k = some v
  | [], _, _, _, h => nomatch h
  | p :: kvs, k, v, nd, h => by
    rw [List.map_cons, List.nodup_cons] at nd
    unfold valA
    by_cases e : p.1 = k
    · have : p = (k, v) := by
        rcases List.mem_cons.mp h with h | h
        · exact h.symm
        · exact absurd (List.mem_map.mpr ⟨_, h, rfl⟩) (e ▸ nd.1)
      rw [List.find?_cons, show decide (p.1 = k) = true from decide_eq_true e, this]
      rfl
    · rw [List.find?_cons, show decide (p.1 = k) = false from decide_eq_false e]
      refine valA_at nd.2 ?_
      rcases List.mem_cons.mp h with h | h
      · exact absurd (congrArg Prod.fst h).symm e
      · exact h
theorem valA_no {kvs : List (Key × Val)} {k : Key} (h : k ∉ kvs.map (·.1)) : valA kvs k = none := by
  unfold valA
  rw [List.find?_eq_none.mpr]
  · rfl
  · intro q hq e
    exact h (List.mem_map.mpr ⟨q, hq, of_decide_eq_true e⟩)
structure Nr (S : Sto) (d : Nat) (ws : List (Str × Str)) (up : List Str) : Prop where
  dic : ∃ kvs, S[d]? = some (.dic kvs) ∧ ∀ x ∈ up, ∃ r, valA kvs (.inr x) = some (.ref r) ∧ S[r]? = some (.lst ((K60.nbl ws up x).map .str))
theorem Nr.kn {T : Sto} {d : Nat} (h : Nr S d ws up) (k : Kn S T) : Nr T d ws up := by
  obtain ⟨kvs, h1, h2⟩ := h.dic
  refine ⟨kvs, k _ _ h1, fun x hx => ?_⟩
  obtain ⟨r, e, g⟩ := h2 x hx
  exact ⟨r, e, k _ _ g⟩
def inU (up : List Str) : Val → Bool
  | .str x => decide (x ∈ up)
  | _ => false
theorem vInT {neg : Bool} {Q : Val → Sto → Prop} (q : Q (.bl (if neg then !decide (x ∈ up) else decide (x ∈ up))) S) : Wp (gIn neg (.str x) (.tup (up.map .str)) S) Q := by
  refine ⟨_, S, ?_, q⟩
  simp only [gIn, gInS, K57.flat_strs, K57.in_strs, flatA, Bool.true_and, Bool.and_true, Bool.and_self, if_true]
theorem near_names_wp (hn : NOk n) (u : UOk n up ws) {wv : Val} (hw : wv = .tup (ws.map wireV) ∨ (wv = .non ∧ ws = n.ws)) :
    Wp (near_names_ [netV n, .tup (up.map .str), wv] S) fun v U => ∃ d, v = .ref d ∧ Nr U d ws up ∧ Kn S U ∧ S.length ≤ d := by
  have u8 := u.len hn
  have und := u.nd hn
  have rest : ∀ (S : Sto) (wv : Val), Ws ((sSeq (sAsg (.nm 4) eDic)
    (sSeq (sFor (.nm 5) (iSeq (eV 1)) (sSub gSetA (eV 4) (eV 5) (eLc (.nm 6) (iSeq (eDef other_ends_ 2 (aCons (eV 3) (aCons (eV 5) aNil)))) (eT (eB (gIn false) (eV 6) (eV 1))) (eV 6) [6])))
    (sRet (eV 4)))) [some (netV n), some (.tup (up.map .str)), some wv, some (.tup (ws.map wireV)), none, none, none] S) (fun _ U => False) (fun v U => ∃ d, v = .ref d ∧ Nr U d ws up ∧ Kn S U ∧ S.length ≤ d) := by
    intro S wv
    array_get_dec
    intro S1 d e_d l_S1 g_d k_S1
    array_get_dec
    refine .inl ⟨_, rfl, ?_⟩
    refine ws_loop (fun i ρ U => ∃ a5 a6 kvs, ρ = [some (netV n), some (.tup (up.map .str)), some wv, some (.tup (ws.map wireV)), some (.ref d), a5, a6] ∧ U[d]? = some (.dic kvs) ∧ (kvs.map (·.1) = (up.take i).map Sum.inr) ∧ (∀ x ∈ up.take i, ∃ r, valA kvs (.inr x) = some (.ref r) ∧ d < r ∧ U[r]? = some (.lst ((K60.nbl ws up x).map .str))) ∧ Kx d S1 U) ⟨_, _, _, rfl, g_d, rfl, by simp, .refl _ _⟩ (fun _ _ _ _ _ => trivial) ?_ ?_
    · rintro i v ρ U hv ⟨a5, a6, kvs, rfl, gU, hk, hr, kU⟩
      rw [List.getElem?_map] at hv
      obtain ⟨x, hx, rfl⟩ := Option.map_eq_some_iff.mp hv
      obtain ⟨lt, ex⟩ := List.getElem?_eq_some_iff.mp hx
      have tk : up.take (i + 1) = up.take i ++ [x] := by rw [List.take_succ_eq_append_getElem lt, ex]
      have nin : x ∉ up.take i := by
        have nd2 : (up.take (i + 1)).Nodup := (List.take_sublist _ _).nodup und
        rw [tk, List.nodup_append] at nd2
        exact fun m => nd2.2.2 _ m _ (by simp) rfl
      refine bn rfl ?_
      array_get_dec
      refine (other_wp u.w.len).imp ?_
      rintro _ U1 ⟨r, rfl, g1, k1, l1⟩
      refine .inr ⟨r, _, rfl, g1, ?_⟩
      refine lc_pure (inU up) id g1 (by have := u.oes_len hn x; rw [List.length_map]; omega) (fun v hv2 => ?_) ?_
      · obtain ⟨e, _, rfl⟩ := List.mem_map.mp hv2
        refine bn rfl ?_
        array_get_dec
        refine vInT ?_
        array_get_dec
        exact ⟨rfl, rfl, fun _ => by array_get_dec; exact ⟨rfl, rfl⟩⟩
      have e1 : (((oes ws x).map Val.str).filter (inU up)).map id = (K60.nbl ws up x).map Val.str := by
        unfold K60.nbl
        rw [List.map_id, List.filter_map]
        rfl
      rw [e1]
      intro U2 r2 e_r2 l_U2 g_r2 k_U2
      array_get_dec
      have gd2 : U2[d]? = some (.dic kvs) := k_U2 _ _ (k1 _ _ gU)
      have lk : kvs.length = i := by
        have := congrArg List.length hk
        simp at this
        omega
      refine vPut gd2 rfl ?_ (small (by omega))
      intro V l_V g_V k_V
      have ld := lt_of_at gU
      have ll1 : U.length ≤ U1.length := by
        rcases Nat.lt_or_ge U1.length U.length with c | c
        · exfalso
          have h1 : U[U1.length]? = some U[U1.length] := List.getElem?_eq_getElem c
          exact absurd (lt_of_at (k1 _ _ h1)) (Nat.lt_irrefl _)
        · exact c
      have put : putA kvs (.inr x) (.ref r2) = kvs ++ [(.inr x, .ref r2)] := putA_no (by
        rw [hk]
        intro z
        obtain ⟨y, hy, e⟩ := List.mem_map.mp z
        cases e
        exact nin hy)
      have stay : ∀ q o, q ≠ d → U[q]? = some o → V[q]? = some o := fun q o hq ho => k_V _ _ hq (k_U2 _ _ (k1 _ _ ho))
      refine ⟨_, _, _, rfl, g_V, ?_, fun y hy => ?_, fun q o hq ho => stay q o hq (kU q o hq ho)⟩
      · rw [put, List.map_append, hk, tk, List.map_append]
        rfl
      · rw [tk] at hy
        rcases List.mem_append.mp hy with hy | hy
        · obtain ⟨r', e', l', g'⟩ := hr y hy
          have : y ≠ x := fun z => nin (z ▸ hy)
          exact ⟨r', by rw [valA_put, if_neg (fun z => this (Sum.inr.inj z))]; exact e', l', stay _ _ (by omega) g'⟩
        · rw [List.mem_singleton] at hy
          subst hy
          refine ⟨r2, by rw [valA_put, if_pos rfl], by omega, k_V _ _ (by omega) g_r2⟩
    · rintro ρ U ⟨a5, a6, kvs, rfl, gU, hk, hr, kU⟩
      rw [List.length_map, List.take_length] at hr
      array_get_dec
      refine ⟨d, rfl, ⟨kvs, gU, fun x hx => ?_⟩, fun q o hq => ?_, by omega⟩
      · obtain ⟨r, e, _, g⟩ := hr x hx
        exact ⟨r, e, g⟩
      · have := lt_of_at hq
        exact kU _ _ (by omega) (k_S1 _ _ hq)
  refine AL.wf ?_
  simp only [List.map_cons, List.map_nil, List.length_cons, List.length_nil, Nat.reduceAdd, Nat.reduceSub, List.replicate_succ, List.replicate_zero, List.cons_append, List.nil_append]
  unfold near_names_B
  rcases hw with rfl | ⟨rfl, rfl⟩
  · refine ws_seq (ws_asg (weI (wT (wB (wv rfl (wc (vIs rfl (tb rfl (brF rfl (wv rfl (bn rfl ?_)))))))))))
    exact ws_cut (rest S _) (fun _ _ h => h.elim)
  · refine ws_seq (ws_asg (weI (wT (wB (wv rfl (wc (vIs rfl (tb rfl (brT rfl (wB (wv rfl (wc (vIxT rfl rfl rfl (bn rfl ?_))))))))))))))
    exact ws_cut (rest S _) (fun _ _ h => h.elim)

def kyD (n : Net) : List (Key × Val) := n.ms.map fun m => (.inr m.name, keyV (mkey m))
theorem kyD_at (hn : NOk n) {m : Mb} (hm : m ∈ n.ms) : valA (kyD n) (.inr m.name) = some (keyV (mkey m)) := by
  refine valA_at ?_ (List.mem_map.mpr ⟨m, hm, rfl⟩)
  unfold kyD
  rw [List.map_map]
  have : (n.names.map fun x => (Sum.inr x : Key)).Nodup := List.Pairwise.map _ (fun a b h z => h (Sum.inr.inj z)) hn.nd
  unfold Net.names at this
  rwa [List.map_map] at this
theorem own_keys_wp (hn : NOk n) : Wp (own_keys_ [netV n] S) fun v U => ∃ r, v = .ref r ∧ U[r]? = some (.dic (kyD n)) ∧ Kn S U ∧ S.length ≤ r := by
  have h8 := hn.len
  refine AL.wf ?_; simp only [List.map_cons, List.map_nil, List.length_cons, List.length_nil, Nat.reduceAdd, Nat.reduceSub, List.replicate_succ, List.replicate_zero, List.cons_append, List.nil_append]; unfold own_keys_B; array_get_dec
  refine wDc ?_
  array_get_dec
  refine .inl ⟨_, rfl, ?_⟩
  refine dc_inv (fun i a T => a = kyD ⟨n.ms.take i, n.ws⟩ ∧ i ≤ n.ms.length ∧ T = S) (fun _ _ _ _ _ => trivial) (fun i a T ⟨h, h2, _⟩ => by rw [h]; unfold kyD; rw [List.length_map, List.length_take]; omega) ?_ ?_ ⟨rfl, Nat.zero_le _, rfl⟩
  · rintro i v a T hv ⟨rfl, h3, rfl⟩
    rw [List.getElem?_map] at hv
    obtain ⟨m, hm, rfl⟩ := Option.map_eq_some_iff.mp hv
    obtain ⟨lt, em⟩ := List.getElem?_eq_some_iff.mp hm
    refine bn rfl ?_
    array_get_dec
    refine own_wp.imp ?_
    rintro _ _ ⟨rfl, rfl⟩
    array_get_dec
    refine ⟨.inr m.name, rfl, ?_, lt, rfl⟩
    have tk : n.ms.take (i + 1) = n.ms.take i ++ [m] := by rw [List.take_succ_eq_append_getElem lt, em]
    have : putA (kyD ⟨n.ms.take i, n.ws⟩) (.inr m.name) (keyV (mkey m)) = kyD ⟨n.ms.take i, n.ws⟩ ++ [(.inr m.name, keyV (mkey m))] := putA_no (by
      unfold kyD
      rw [List.map_map]
      intro z
      obtain ⟨q, hq, e⟩ := List.mem_map.mp z
      have nd2 : ((n.ms.take (i + 1)).map Mb.name).Nodup := ((List.take_sublist _ _).map _).nodup hn.nd
      rw [tk, List.map_append, List.nodup_append] at nd2
      exact nd2.2.2 _ (List.mem_map_of_mem (f := Mb.name) hq) _ (by simp) (Sum.inr.inj e))
    refine Eq.trans this ?_
    unfold kyD
    show _ = (n.ms.take (i + 1)).map _
    rw [tk, List.map_append]
    rfl
  · rintro a T ⟨rfl, _, rfl⟩
    rw [List.length_map, List.take_length]
    intro S1 r e_r l_S1 g_r k_S1
    array_get_dec
    exact ⟨r, rfl, g_r, k_S1, by omega⟩
end
end K60
namespace K47
open PySem PySem.Spec PyProof.Rows L2 G Th AL

end K47
namespace K47
open PySem PySem.Spec PyProof.Rows L2 G Th AL K37 KL Fr
def lowOk (p : Pr) (x : Fq) : Bool := match p.1 with
  | none => true
  | some l => !decide (x.1 * l.2 < l.1 * x.2)
def highOk (p : Pr) (x : Fq) : Bool := match p.2 with
  | none => true
  | some h => !decide (h.1 * x.2 < x.1 * h.2)
def isIn (p : Pr) (x : Fq) : Bool := lowOk p x && highOk p x
def count (ps : List Pr) (x : Fq) : Nat := (ps.filter fun p => isIn p x).length
def opens (b : Bool) (ps : List Pr) : Nat := (ps.filter fun p => (sel b p).isNone).length
def most (ps : List Pr) : Int := maxI (opens false ps : Nat) ((ps.filterMap (sel false)).map fun e => (count ps e : Int))
end K47
namespace K47
open PySem PySem.Spec PyProof.Rows L2 G Th AL K37 KL Fr
section
variable {S : Sto} {Q : Val → Sto → Prop}
theorem shL_shaped {n w : Nat} {vs : List Val} (h : ShL n w vs) (hn : n < 39) {a : Nat} (ha : S[a]? = some (.lst vs)) : ∃ ds, toD S 40 (.ref a) = some (.list ds) ∧ SeqAt.shaped (.list ds) = true ∧ mapO (toD S 39) vs = some ds := by
  obtain ⟨ds, o1, o2, o3, o4⟩ := h
  have e := o4 S 39 (by omega)
  have dl : toD S 40 (.ref a) = some (.list ds) := by
    rw [show (40 : Nat) = 39 + 1 from rfl, toD]
    simp only [ha, e, Option.map_some]
  refine ⟨ds, dl, ?_, e⟩
  have c := (ok_showAll ds o1).2.2.1
  show (PyData.canLayAll0 ds && decide ((PyData.list ds).depth ≤ 64)) = true
  rw [c, decide_eq_true (by simp only [PyData.depth]; omega)]
  rfl
theorem mapO_len {f : Val → Option PyData} : ∀ {vs : List Val} {ds : List PyData}, mapO f vs = some ds → ds.length = vs.length
  | [], _, h => by cases h; rfl
  | v :: vs, ds, h => by
    simp only [mapO] at h
    obtain ⟨b, _, h⟩ := Option.bind_eq_some_iff.mp h
    obtain ⟨bs, h2, h⟩ := Option.bind_eq_some_iff.mp h
    cases h
    rw [List.length_cons, List.length_cons, mapO_len h2]
theorem eqv_nil {ds : List PyData} : PyData.eqv (.list ds) (.list []) = ds.isEmpty := by
  cases ds <;> rfl
theorem empty_len {α β : Type} {xs : List α} {ys : List β} (h : xs.length = ys.length) : xs.isEmpty = ys.isEmpty := by
  cases xs <;> cases ys <;> first | rfl | cases h
theorem vNeNilL {n w a b : Nat} {x y : Val} {vs : List Val} (h : ShL n w vs) (hn : n < 39) (hx : x = .ref a) (hy : y = .ref b) (ha : S[a]? = some (.lst vs)) (hb : S[b]? = some (.lst [])) (q : Q (.bl (!vs.isEmpty)) S) : Wp (gNe x y S) Q := by
  subst hx hy
  obtain ⟨ds, e1, e2, e3⟩ := shL_shaped h hn ha
  obtain ⟨_, f1, f2, f3⟩ := shL_shaped (S := S) (ShL.nil (n := 0) (w := 0)) (by decide) hb
  cases f3
  refine ⟨_, _, ?_, q⟩
  simp only [gNe, eqA, eqS, e1, f1, e2, f2, and_self, if_true, Option.map_some, eqv_nil, empty_len (mapO_len e3)]
end
end K47
namespace K60
open PySem PySem.Spec PyProof.Rows L2 G Th AL KL Fr Od Bf
open K57 (other_ends_ other_ends_B own_best_ own_best_B feedL_ feedL_B drawL_ drawL_B keyL_ keyL_B endsL_ endsL_B)
open K57 (wireV Mb mbV Net netV pool WOk NOk NmOk endsL ends oes oes_perm mem_endsL other_wp endsL_wp keyV mkey own own_wp bsV keyL_wp vInL vInD vDictN pairs_map val_map nd_inr nd_len tl tl_inj sortS_perm sortS_pw sortS_eq oes_in oes_nd K2)
open K37 (fmod_lt p60 p40 TxOk Sh ShL valA_put putA_len merge_app)
open K08 (ws_cut)
open K13 (wDspP)
open K47 (vNeNilL)
def dK (D : List (Str × Nat)) : List (Key × Val) := D.map fun p => (.inr p.1, .int ((p.2 : Nat) : Int))
theorem dK_keys (D : List (Str × Nat)) : (dK D).map (·.1) = (D.map (·.1)).map Sum.inr := by
  unfold dK
  rw [List.map_map, List.map_map]
  rfl
theorem dK_nd {D : List (Str × Nat)} (nd : (D.map (·.1)).Nodup) : ((dK D).map (·.1)).Nodup := by
  rw [dK_keys]
  exact List.Pairwise.map _ (fun a b h z => h (Sum.inr.inj z)) nd
theorem dK_at {D : List (Str × Nat)} (nd : (D.map (·.1)).Nodup) {x : Str} {d : Nat} (h : (x, d) ∈ D) : valA (dK D) (.inr x) = some (.int ((d : Nat) : Int)) := valA_at (dK_nd nd) (List.mem_map.mpr ⟨_, h, rfl⟩)
theorem dK_in {D : List (Str × Nat)} (nd : (D.map (·.1)).Nodup) (x : Str) : (valA (dK D) (.inr x)).isSome = decide (x ∈ D.map (·.1)) := by
  by_cases h : x ∈ D.map (·.1)
  · obtain ⟨⟨y, d⟩, hd, rfl⟩ := List.mem_map.mp h
    rw [dK_at nd hd]
    simp [h]
  · rw [valA_no]
    · simp [h]
    · rw [dK_keys]
      intro z
      obtain ⟨y, hy, e⟩ := List.mem_map.mp z
      cases e
      exact h hy
theorem dK_put {D : List (Str × Nat)} {x : Str} {d : Nat} (h : x ∉ D.map (·.1)) : putA (dK D) (.inr x) (.int ((d : Nat) : Int)) = dK (D ++ [(x, d)]) := by
  rw [putA_no]
  · unfold dK
    rw [List.map_append]
    rfl
  · rw [dK_keys]
    intro z
    obtain ⟨y, hy, e⟩ := List.mem_map.mp z
    cases e
    exact h hy
theorem dK_len (D : List (Str × Nat)) : (dK D).length = D.length := List.length_map ..
section
variable {n : Net} {up : List Str} {ws : List (Str × Str)} {S : Sto} {x y s : Str}
theorem keys_len {D : List (Str × Nat)} (nd : (D.map (·.1)).Nodup) (su : ∀ x ∈ D.map (·.1), x ∈ up) (u8 : up.length ≤ 8) : D.length ≤ 8 := by
  have := nd_len nd su
  rw [List.length_map] at this
  omega
theorem sub_snoc {D : List (Str × Nat)} {d : Nat} (su : ∀ x ∈ D.map (·.1), x ∈ up) (hy : y ∈ up) : ∀ x ∈ (D ++ [(y, d)]).map (·.1), x ∈ up := fun x hx => by
  rw [List.map_append] at hx
  rcases List.mem_append.mp hx with hx | hx
  · exact su x hx
  · simp only [List.map_cons, List.map_nil, List.mem_singleton] at hx
    exact hx ▸ hy
theorem steps_wp (hn : NOk n) (u : UOk n up ws) {d : Nat} (nr : Nr S d ws up) (hs : s ∈ up) :
    Wp (steps_from_ [.ref d, .str s] S) fun v U => ∃ r D, v = .ref r ∧ U[r]? = some (.dic (dK D)) ∧ BF (Nb ws up) s D ∧ (∀ x ∈ D.map (·.1), x ∈ up) ∧ Kn S U ∧ S.length ≤ r := by
  have u8 := u.len hn
  refine AL.wf ?_; simp only [List.map_cons, List.map_nil, List.length_cons, List.length_nil, Nat.reduceAdd, Nat.reduceSub, List.replicate_succ, List.replicate_zero, List.cons_append, List.nil_append]; unfold steps_from_B; array_get_dec
  refine wDspP (vs := [.str s, .int 0]) (kvs := [(.inr s, .int 0)]) (fun T => ?_) rfl (by simp) ?_
  · array_get_dec
    exact ⟨rfl, rfl⟩
  intro S1 rd e_rd l_S1 g_rd k_S1
  have gd1 : S1[rd]? = some (.dic (dK [(s, 0)])) := g_rd
  array_get_dec
  intro S2 rw_ e_rw_ l_S2 g_rw_ k_S2
  have gd2 := k_S2 _ _ gd1
  have gw2 : S2[rw_]? = some (.lst (([(s, 0)].drop 0).map fun p : Str × Nat => Val.str p.1)) := g_rw_
  have l1 : rd < S1.length := lt_of_at gd1
  have l0 : S.length ≤ rd := by omega
  have ne : rd ≠ rw_ := by omega
  have kn2 : Kn S S2 := k_S1.trans k_S2
  array_get_dec
  refine ws_while (fun _ T => match T[rd]?, T[rw_]? with | some (.dic kvs), some (.lst vs) => 2 * (8 - kvs.length) + vs.length | _, _ => 0)
    (fun ρ T => ∃ (a4 a5 : Option Val) (D : List (Str × Nat)) (p : Nat), ρ = [some (.ref d), some (.str s), some (.ref rd), some (.ref rw_), a4, a5] ∧ T[rd]? = some (.dic (dK D)) ∧ T[rw_]? = some (.lst ((D.drop p).map fun p => .str p.1)) ∧ Qu (Nb ws up) s D p ∧ (∀ x ∈ D.map (·.1), x ∈ up) ∧ K2 rd rw_ S T)
    ⟨none, none, [(s, 0)], 0, rfl, gd2, gw2, Qu.init, by simpa using hs, K2.kn kn2⟩ ?_
  rintro _ T ⟨a4, a5, D, p, rfl, gd, gw, q, su, kT⟩
  have D8 := keys_len q.nd su u8
  have knT : Kn S T := fun k o ho => by
    have := lt_of_at ho
    exact kT k o (by omega) (by omega) ho
  array_get_dec
  refine Br.of (fun c => ?_) (fun c => ?_)
  · have c : 0 < (D.drop p).length := by
      have := of_decide_eq_true c
      simp only [List.length_map] at this
      omega
    rw [List.length_drop] at c
    have lp : p < D.length := by omega
    obtain ⟨⟨x, dd⟩, hq⟩ : ∃ r, D[p]? = some r := ⟨_, List.getElem?_eq_getElem lp⟩
    have dr : D.drop p = (x, dd) :: D.drop (p + 1) := by
      rw [List.drop_eq_getElem_cons lp]
      congr 1
      exact (List.getElem?_eq_some_iff.mp hq).2
    have hM : 2 * (8 - (dK D).length) + ((D.drop p).map fun p : Str × Nat => Val.str p.1).length = 2 * (8 - D.length) + (D.length - p) := by rw [dK_len, List.length_map, List.length_drop]
    rw [dr, List.map_cons] at gw
    have xu : x ∈ up := su x (List.mem_map.mpr ⟨_, List.mem_of_getElem? hq, rfl⟩)
    obtain ⟨kvs, g1, g2⟩ := nr.dic
    obtain ⟨r, er, gr⟩ := g2 x xu
    array_get_dec
    refine vPop rfl gw (k := 0) rfl rfl (by simp only [List.length_cons, List.length_map, List.length_drop]; omega) ?_
    intro T1 l_T1 g_T1 k_T1
    have gd1' : T1[rd]? = some (.dic (dK D)) := k_T1 _ _ ne gd
    have knT1 : Kn S T1 := fun k o ho => by
      have := lt_of_at ho
      exact k_T1 k o (by omega) (knT k o ho)
    array_get_dec
    refine vIxD rfl (knT1 _ _ g1) rfl er ?_
    refine .inr ⟨r, _, rfl, knT1 _ _ gr, ?_⟩
    have lr := lt_of_at gr
    refine ws_loop (fun i ρ U => ∃ (a5 : Option Val) (D' : List (Str × Nat)), ρ = [some (.ref d), some (.str s), some (.ref rd), some (.ref rw_), some (.str x), a5] ∧ U[rd]? = some (.dic (dK D')) ∧ U[rw_]? = some (.lst ((D'.drop (p + 1)).map fun p => .str p.1)) ∧ Qi (Nb ws up) s D' p x dd ((nbl ws up x).take i) ∧ (∀ x ∈ D'.map (·.1), x ∈ up) ∧ K2 rd rw_ S U ∧ D.length ≤ D'.length)
      ⟨a5, D, rfl, gd1', g_T1, by rw [List.take_zero]; exact q.open_ hq, su, fun k o h1 h2 ho => knT1 k o ho, Nat.le_refl _⟩ (fun i ρ U _ ⟨_, _, _, _, _, _, _, k, _⟩ => k _ _ (by omega) (by omega) gr) ?_ ?_
    · rintro i v ρ U hv ⟨a5, D', rfl, gd', gw', qi, su', kU, lD⟩
      rw [List.getElem?_map] at hv
      obtain ⟨y, hy, rfl⟩ := Option.map_eq_some_iff.mp hv
      obtain ⟨lt, ey⟩ := List.getElem?_eq_some_iff.mp hy
      have tk : (nbl ws up x).take (i + 1) = (nbl ws up x).take i ++ [y] := by rw [List.take_succ_eq_append_getElem lt, ey]
      have nby : Nb ws up x y := u.nbl.mp (List.mem_of_getElem? hy)
      have D8' := keys_len qi.nd su' u8
      refine bn rfl ?_
      array_get_dec
      refine vInD gd' ?_
      array_get_dec
      have e0 : (!(valA (dK D') (.inr y)).isSome) = !decide (y ∈ D'.map (·.1)) := by rw [dK_in qi.nd]
      refine Br.of (fun c => ?_) (fun c => ?_)
      · have c : (!(valA (dK D') (.inr y)).isSome) = true := c
        rw [e0] at c
        have nin : y ∉ D'.map (·.1) := by simpa using c
        have at_ := dK_at qi.nd (List.mem_of_getElem? qi.at_)
        array_get_dec
        refine vIxD rfl gd' rfl at_ ?_
        array_get_dec
        refine vPut gd' rfl ?_ (small (by rw [dK_len]; omega))
        rw [show ((dd : Nat) : Int) + 1 = ((dd + 1 : Nat) : Int) by omega, dK_put nin]
        intro V l_V g_V k_V
        array_get_dec
        refine vApp rfl (k_V _ _ (Ne.symm ne) gw') ?_ (small (by simp only [List.length_map, List.length_drop]; omega))
        intro V2 l_V2 g_V2 k_V2
        have lpp := (List.getElem?_eq_some_iff.mp qi.at_).1
        refine ⟨_, D' ++ [(y, dd + 1)], rfl, k_V2 _ _ ne g_V, ?_, by rw [tk]; exact qi.new nin nby, sub_snoc su' nby.1, kU.trans ((K2.kx k_V).trans (K2.ky k_V2)), by simp; omega⟩
        rw [g_V2, List.drop_append_of_le_length (by omega), List.map_append]
        rfl
      · have c : (!(valA (dK D') (.inr y)).isSome) = false := c
        rw [e0] at c
        have yin : y ∈ D'.map (·.1) := by simpa using c
        array_get_dec
        exact ⟨_, D', rfl, gd', gw', by rw [tk]; exact qi.old yin, su', kU, lD⟩
    · rintro ρ U ⟨a5, D', rfl, gd', gw', qi, su', kU, lD⟩
      rw [List.length_map, List.take_length] at qi
      have D8' := keys_len qi.nd su' u8
      refine ⟨⟨_, _, D', p + 1, rfl, gd', gw', qi.close fun z hz => u.nbl.mpr hz, su', kU⟩, ?_⟩
      have lpp := (List.getElem?_eq_some_iff.mp qi.at_).1
      simp only [gd', gw', gd, gw, dK_len, List.length_map, List.length_drop, List.length_cons]
      omega
  · have c : ¬ 0 < (D.drop p).length := by
      have := of_decide_eq_false c
      simp only [List.length_map] at this
      omega
    rw [List.length_drop] at c
    have lp : p = D.length := by have := q.le; omega
    subst lp
    array_get_dec
    exact ⟨rd, D, rfl, gd, q.fin, su, knT, l0⟩
def esz : Option Ob → Nat
  | some (.lst []) => 0
  | _ => 1
theorem sh_names (hn : NOk n) (u : UOk n up ws) : ∀ {E : List Str}, (∀ x ∈ E, x ∈ up) → ShL 0 (9 * E.length) (E.map .str) := fun {E} h => ShL.map (f := Val.str) E fun x hx => Sh.str (nm_tx (u.nm hn (h x hx)))
theorem far_wp (hn : NOk n) (u : UOk n up ws) (hs : s ∈ up) :
    Wp (farL_ [.tup (up.map .str), .tup (ws.map wireV), .str s] S) fun v U => ∃ r D, v = .ref r ∧ U[r]? = some (.dic (dK D)) ∧ BF (Nb ws up) s D ∧ (∀ x ∈ D.map (·.1), x ∈ up) ∧ Kn S U ∧ S.length ≤ r := by
  have u8 := u.len hn
  refine AL.wf ?_; simp only [List.map_cons, List.map_nil, List.length_cons, List.length_nil, Nat.reduceAdd, Nat.reduceSub, List.replicate_succ, List.replicate_zero, List.cons_append, List.nil_append]; unfold farL_B; array_get_dec
  refine wDspP (vs := [.str s, .int 0]) (kvs := [(.inr s, .int 0)]) (fun T => ?_) rfl (by simp) ?_
  · array_get_dec
    exact ⟨rfl, rfl⟩
  intro S1 rd e_rd l_S1 g_rd k_S1
  have gd1 : S1[rd]? = some (.dic (dK [(s, 0)])) := g_rd
  array_get_dec
  intro S2 re e_re l_S2 g_re k_S2
  have gd2 := k_S2 _ _ gd1
  have ge2 : S2[re]? = some (.lst (([s] : List Str).map .str)) := g_re
  have l1 : rd < S1.length := lt_of_at gd1
  have l0 : S.length ≤ rd := by omega
  have kn2 : Kn S S2 := k_S1.trans k_S2
  array_get_dec
  refine ws_while (fun ρ T => match T[rd]?, ρ with | some (.dic kvs), [_, _, _, _, some (.ref re), _, _, _, _] => 2 * (8 - kvs.length) + esz T[re]? | _, _ => 0)
    (fun ρ T => ∃ (a6 a7 a8 : Option Val) (D : List (Str × Nat)) (E : List Str) (m re : Nat), ρ = [some (.tup (up.map .str)), some (.tup (ws.map wireV)), some (.str s), some (.ref rd), some (.ref re), some (.int (m : Nat)), a6, a7, a8] ∧ T[rd]? = some (.dic (dK D)) ∧ T[re]? = some (.lst (E.map .str)) ∧ Lv (Nb ws up) s D E m ∧ (∀ x ∈ D.map (·.1), x ∈ up) ∧ Kn S T ∧ re ≠ rd ∧ E.length ≤ D.length)
    ⟨none, none, none, [(s, 0)], [s], 0, re, rfl, gd2, ge2, Lv.init, by simpa using hs, kn2, by omega, by simp⟩ ?_
  rintro _ T ⟨a6, a7, a8, D, E, m, re, rfl, gd, ge, q, su, kT, ne, lE⟩
  have D8 := keys_len q.nd su u8
  have eu : ∀ x ∈ E, x ∈ up := fun x hx => su x (List.mem_map.mpr ⟨_, (q.ed x).mp hx, rfl⟩)
  array_get_dec
  intro T1 r0 e_r0 l_T1 g_r0 k_T1
  refine vNeNilL (sh_names hn u eu) (by decide) rfl rfl (k_T1 _ _ ge) g_r0 ?_
  refine tb rfl (Br.of (fun c => ?_) (fun c => ?_))
  · have eN : E ≠ [] := by
      intro z
      subst z
      cases c
    have ez : esz T[re]? = 1 := by
      rw [ge]
      cases E with
      | nil => exact absurd rfl eN
      | cons a b => rfl
    array_get_dec
    intro T2 rm e_rm l_T2 g_rm k_T2
    have gd2 : T2[rd]? = some (.dic (dK D)) := k_T2 _ _ (k_T1 _ _ gd)
    have ge2 : T2[re]? = some (.lst (E.map .str)) := k_T2 _ _ (k_T1 _ _ ge)
    have kn2 : Kn S T2 := kT.trans (k_T1.trans k_T2)
    have lrd := lt_of_at gd
    have lre := lt_of_at ge
    have ll : T.length ≤ T1.length := by omega
    array_get_dec
    rw [show ((m : Nat) : Int) + 1 = ((m + 1 : Nat) : Int) by omega]
    refine .inr ⟨re, _, rfl, ge2, ?_⟩
    refine ws_loop (fun i ρ U => ∃ (a6 a8 : Option Val) (D' : List (Str × Nat)) (M : List Str), ρ = [some (.tup (up.map .str)), some (.tup (ws.map wireV)), some (.str s), some (.ref rd), some (.ref re), some (.int ((m + 1 : Nat) : Int)), a6, some (.ref rm), a8] ∧ U[rd]? = some (.dic (dK D')) ∧ U[rm]? = some (.lst (M.map .str)) ∧ (∀ x, Li (Nb ws up) s D' E m M (E.take i) x []) ∧ (∀ x ∈ D'.map (·.1), x ∈ up) ∧ K2 rd rm T2 U ∧ D'.length = D.length + M.length)
      ⟨_, _, D, [], rfl, gd2, g_rm, fun x => by rw [List.take_zero]; exact q.open_ x, su, K2.refl _, rfl⟩ (fun i ρ U _ ⟨_, _, _, _, _, _, _, _, _, k, _⟩ => k _ _ (by omega) (by omega) ge2) ?_ ?_
    · rintro i v ρ U hv ⟨a6, a8, D', M, rfl, gd', gm', li, su', kU, lM⟩
      rw [List.getElem?_map] at hv
      obtain ⟨x, hx, rfl⟩ := Option.map_eq_some_iff.mp hv
      obtain ⟨lt, ex⟩ := List.getElem?_eq_some_iff.mp hx
      have tk : E.take (i + 1) = E.take i ++ [x] := by rw [List.take_succ_eq_append_getElem lt, ex]
      have xE := List.mem_of_getElem? hx
      refine bn rfl ?_
      array_get_dec
      refine (endsL_wp u.w.len).imp ?_
      rintro _ U1 ⟨r, rfl, g1, k1, lr⟩
      refine .inr ⟨r, _, rfl, g1, ?_⟩
      have ld' := lt_of_at gd'
      have lm' := lt_of_at gm'
      refine ws_loop (fun j ρ V => ∃ (a8 : Option Val) (D' : List (Str × Nat)) (M : List Str), ρ = [some (.tup (up.map .str)), some (.tup (ws.map wireV)), some (.str s), some (.ref rd), some (.ref re), some (.int ((m + 1 : Nat) : Int)), some (.str x), some (.ref rm), a8] ∧ V[rd]? = some (.dic (dK D')) ∧ V[rm]? = some (.lst (M.map .str)) ∧ Li (Nb ws up) s D' E m M (E.take i) x ((ends ws x).take j) ∧ (∀ x ∈ D'.map (·.1), x ∈ up) ∧ K2 rd rm U1 V ∧ D'.length = D.length + M.length)
        ⟨_, D', M, rfl, k1 _ _ gd', k1 _ _ gm', by rw [List.take_zero]; exact li x, su', K2.refl _, lM⟩ (fun i ρ V _ ⟨_, _, _, _, _, _, _, _, k, _⟩ => k _ _ (by omega) (by omega) g1) ?_ ?_
      · rintro j v ρ V hv ⟨a8, D', M, rfl, gd', gm', li, su', kV, lM⟩
        rw [List.getElem?_map] at hv
        obtain ⟨y, hy, rfl⟩ := Option.map_eq_some_iff.mp hv
        obtain ⟨lt, ey⟩ := List.getElem?_eq_some_iff.mp hy
        have tk : (ends ws x).take (j + 1) = (ends ws x).take j ++ [y] := by rw [List.take_succ_eq_append_getElem lt, ey]
        have yE : y ∈ endsL ws x := (sortS_perm _).mem_iff.mp (List.mem_of_getElem? hy)
        have D8' := keys_len li.nd su' u8
        refine bn rfl ?_
        array_get_dec
        refine vInT ?_
        array_get_dec
        refine Br.of (fun c => ?_) (fun c => ?_)
        · have yu : y ∈ up := by
            have c : decide (y ∈ up) = true := c
            exact of_decide_eq_true c
          array_get_dec
          refine vInD gd' ?_
          array_get_dec
          have e0 : (!(valA (dK D') (.inr y)).isSome) = !decide (y ∈ D'.map (·.1)) := by rw [dK_in li.nd]
          refine Br.of (fun c => ?_) (fun c => ?_)
          · have c : (!(valA (dK D') (.inr y)).isSome) = true := c
            rw [e0] at c
            have nin : y ∉ D'.map (·.1) := by simpa using c
            array_get_dec
            refine vPut gd' rfl ?_ (small (by rw [dK_len]; omega))
            rw [dK_put nin]
            intro V1 l_V1 g_V1 k_V1
            array_get_dec
            refine vApp rfl (k_V1 _ _ (by omega) gm') ?_ (small (by rw [List.length_map]; omega))
            intro V2 l_V2 g_V2 k_V2
            refine ⟨_, D' ++ [(y, m + 1)], M ++ [y], rfl, k_V2 _ _ (by omega) g_V1, by rw [g_V2, List.map_append]; rfl, by rw [tk]; exact li.new xE nin ⟨yu, yE⟩, sub_snoc su' yu, kV.trans ((K2.kx k_V1).trans (K2.ky k_V2)), by simp; omega⟩
          · have c : (!(valA (dK D') (.inr y)).isSome) = false := c
            rw [e0] at c
            have yin : y ∈ D'.map (·.1) := by simpa using c
            array_get_dec
            exact ⟨_, D', M, rfl, gd', gm', by rw [tk]; exact li.old fun _ => yin, su', kV, lM⟩
        · have yu : y ∉ up := by
            have c : decide (y ∈ up) = false := c
            exact of_decide_eq_false c
          array_get_dec
          exact ⟨_, D', M, rfl, gd', gm', by rw [tk]; exact li.old fun h => absurd h.1 yu, su', kV, lM⟩
      · rintro ρ V ⟨a8, D', M, rfl, gd', gm', li, su', kV, lM⟩
        rw [List.length_map, List.take_length] at li
        exact ⟨_, _, D', M, rfl, gd', gm', fun x' => by rw [tk]; exact li.next (fun y hy => (sortS_perm _).mem_iff.mpr hy.2) x', su', kU.trans ((K2.kn k1).trans kV), lM⟩
    · rintro ρ U ⟨a6, a8, D', M, rfl, gd', gm', li, su', kU, lM⟩
      rw [List.length_map, List.take_length] at li
      have D8' := keys_len (li s).nd su' u8
      array_get_dec
      refine ⟨⟨_, _, _, D', M, m + 1, rm, rfl, gd', gm', (li s).close fun _ h => h, su', fun k o ho => ?_, by omega, by omega⟩, ?_⟩
      · have := lt_of_at ho
        have h2 := kn2 k o ho
        have := lt_of_at (kT k o ho)
        exact kU k o (by omega) (by omega) h2
      · simp only [gd', gd, gm', ez, dK_len]
        cases M with
        | nil =>
          have e1 : esz (some (.lst (List.map Val.str []))) = 0 := rfl
          rw [e1]
          simp at lM
          omega
        | cons a b =>
          have e1 : esz (some (.lst (List.map Val.str (a :: b)))) = 1 := rfl
          rw [e1]
          simp at lM
          omega
  · have eN : E = [] := by
      cases E with
      | nil => rfl
      | cons a b => cases c
    subst eN
    array_get_dec
    exact ⟨rd, D, rfl, k_T1 _ _ gd, q.fin, su, kT.trans k_T1, l0⟩
end
end K60
namespace K60
open PySem PySem.Spec PyProof.Rows L2 G Th AL KL Fr Od Bf
open K57 (other_ends_ other_ends_B own_best_ own_best_B feedL_ feedL_B drawL_ drawL_B keyL_ keyL_B endsL_ endsL_B)
open K57 (wireV Mb mbV Net netV pool WOk NOk NmOk endsL ends oes oes_perm mem_endsL other_wp endsL_wp keyV mkey own own_wp bsV keyL_wp vInL vInD vDictN pairs_map val_map nd_inr nd_len tl tl_inj tl_asym sortS_perm sortS_pw sortS_eq oes_in oes_nd K2 vSortGS vSortGD vSortGT ok_sort keys_map lt_of_leS)
open K37 (fmod_lt p60 p40 TxOk Sh ShL valA_put putA_len merge_app)
open K08 (ws_cut)
mutual
theorem toD_dV {S : Sto} : ∀ (v : Val) (k : Nat), pureV v = true → (dV v).depth < k → toD S k v = some (dV v)
  | v, 0, _, hk => absurd hk (Nat.not_lt_zero _)
  | .int i, k + 1, _, _ => rfl
  | .str x, k + 1, _, _ => rfl
  | .tup vs, k + 1, h, hk => by
    have h : pureVs vs = true := by rw [pureV] at h; exact h
    have hk : (PyData.tuple (dVs vs)).depth < k + 1 := hk
    simp only [PyData.depth] at hk
    show (mapO (toD S k) vs).map PyData.tuple = some (.tuple (dVs vs))
    rw [toD_dVs vs k h (by omega)]
    rfl
  | .non, k + 1, h, _ => by simp [pureV] at h
  | .bl b, k + 1, h, _ => by simp [pureV] at h
  | .ref n, k + 1, h, _ => by simp [pureV] at h
  | .scr ns, k + 1, h, _ => by simp [pureV] at h
  | .lam _ _ _ _ _, k + 1, h, _ => by simp [pureV] at h
  | .exc _ _ _ _, k + 1, h, _ => by simp [pureV] at h
  | .ptu _, k + 1, h, _ => by simp [pureV] at h
theorem toD_dVs {S : Sto} : ∀ (vs : List Val) (k : Nat), pureVs vs = true → PyData.depthAll (dVs vs) < k → mapO (toD S k) vs = some (dVs vs)
  | [], k, _, _ => rfl
  | v :: vs, k, h, hk => by
    simp only [pureVs, Bool.and_eq_true] at h
    simp only [dVs, PyData.depthAll] at hk
    unfold mapO
    rw [toD_dV v k h.1 (by omega), toD_dVs vs k h.2 (by omega)]
    rfl
end
theorem any_mem {ds : List PyData} {vs : List Val} {x : Val} (e : ds = dVs vs) (hv : ∀ v ∈ vs, pureV v = true ∧ smV v x = true) (hx : pureV x = true) : (ds.any fun z => PyData.eqv z (dV x)) = true ↔ x ∈ vs := by
  subst e
  induction vs with
  | nil => simp [dVs]
  | cons v vs ih =>
    rw [dVs, List.any_cons, Bool.or_eq_true, ih fun u hu => hv u (List.mem_cons_of_mem _ hu), List.mem_cons]
    have h := hv v List.mem_cons_self
    have : PyData.eqv (dV v) (dV x) = true ↔ x = v := by
      rw [eqv_iff _ _ h.2]
      exact ⟨fun e => (trV_inj v x h.1 hx e).symm, fun e => by rw [e]⟩
    rw [this]
theorem vInDp {S : Sto} {Q : Val → Sto → Prop} {n : Nat} {neg b : Bool} {x : Val} {vs : List Val} (h : S[n]? = some (.lst vs)) (hx : okV x = true) (dx : (dV x).depth < 30) (hv : ∀ v ∈ vs, okV v = true ∧ smV v x = true ∧ (dV v).depth < 30) (hb : b = true ↔ x ∈ vs) (q : Q (.bl (if neg then !b else b)) S) : Wp (gInD neg x (.ref n) S) Q := by
  have ox := okV_all hx
  have pv : pureVs vs = true := dV_all fun v hv' => (okV_all (hv v hv').1).1
  have da : ∀ {vs : List Val}, (∀ v ∈ vs, (dV v).depth < 30) → PyData.depthAll (dVs vs) < 30 := fun {vs} h => by
    induction vs with
    | nil => simp [dVs, PyData.depthAll]
    | cons v vs ih =>
      have h1 := h v List.mem_cons_self
      have h2 := ih fun u hu => h u (List.mem_cons_of_mem _ hu)
      simp only [dVs, PyData.depthAll]
      omega
  have dd := da fun v hv' => (hv v hv').2.2
  have ca : ∀ {vs : List Val}, (∀ v ∈ vs, (dV v).canLay0 = true) → PyData.canLayAll0 (dVs vs) = true := fun {vs} h => by
    induction vs with
    | nil => rfl
    | cons v vs ih => simp only [dVs, PyData.canLayAll0, h v List.mem_cons_self, ih fun u hu => h u (List.mem_cons_of_mem _ hu), Bool.and_self]
  have cc := ca fun v hv' => (okV_all (hv v hv').1).2.1
  have t1 : toD S 40 x = some (dV x) := toD_dV x 40 ox.1 (by omega)
  have t2 : toD S 40 (.ref n) = some (.list (dVs vs)) := by
    rw [show (40 : Nat) = 39 + 1 from rfl, toD]
    simp only [h, toD_dVs vs 39 pv (by omega), Option.map_some]
  have s1 : SeqAt.shaped (dV x) = true := by
    unfold SeqAt.shaped
    rw [ox.2.1, decide_eq_true (by omega)]
    rfl
  have s2 : SeqAt.shaped (.list (dVs vs)) = true := by
    show (PyData.canLayAll0 (dVs vs) && decide ((PyData.list (dVs vs)).depth ≤ 64)) = true
    rw [cc, decide_eq_true (by simp only [PyData.depth]; omega)]
    rfl
  have eb : ((dVs vs).any fun z => PyData.eqv z (dV x)) = b := by
    rw [Bool.eq_iff_iff, hb]
    exact any_mem rfl (fun v hv' => ⟨(okV_all (hv v hv').1).1, (hv v hv').2.1⟩) ox.1
  refine ⟨_, S, ?_, q⟩
  simp only [gInD, t1, t2, s1, s2, and_self, if_true, eb]

def nmsV (xs : List Str) : Val := .tup (xs.map .str)
section
variable {n : Net} {up : List Str} {ws : List (Str × Str)} {S : Sto} {x y s : Str}
open Classical in
noncomputable def piece (ws : List (Str × Str)) (up : List Str) (x : Str) : List Str := up.filter fun y => decide (Rc (Nb ws up) x y)
theorem mem_piece : y ∈ piece ws up x ↔ y ∈ up ∧ Rc (Nb ws up) x y := by
  unfold piece
  rw [List.mem_filter]
  simp
theorem UOk.pw (hn : NOk n) (u : UOk n up ws) : up.Pairwise fun a b => leS a b = true := by
  have := sortS_pw n.names
  rw [hn.nsrt] at this
  exact this.sublist u.sub
theorem rc_up (hx : x ∈ up) (h : Rc (Nb ws up) x y) : y ∈ up := by
  obtain ⟨k, w⟩ := h
  cases w with
  | nil => exact hx
  | snoc _ e => exact e.1
theorem rc_symm (hx : x ∈ up) (h : Rc (Nb ws up) x y) : Rc (Nb ws up) y x := by
  obtain ⟨k, w⟩ := h
  have key : ∀ {k : Nat} {y : Str}, W (Nb ws up) x k y → W (Nb ws up) y k x := fun {k y} w => by
    induction w with
    | nil => exact .nil
    | @snoc k a b w e ih =>
      have au : a ∈ up := rc_up hx ⟨k, w⟩
      have := (W.one (nb_symm au e)).trans ih
      rwa [Nat.add_comm] at this
  exact ⟨k, key w⟩
theorem piece_eq (hx : x ∈ up) (h : Rc (Nb ws up) x y) : piece ws up x = piece ws up y := by
  unfold piece
  refine List.filter_congr fun z _ => ?_
  congr 1
  exact propext ⟨fun g => (rc_symm hx h).trans g, fun g => h.trans g⟩
theorem keys_sort (hn : NOk n) (u : UOk n up ws) {D : List (Str × Nat)} (b : BF (Nb ws up) s D) (su : ∀ x ∈ D.map (·.1), x ∈ up) : sortS (D.map (·.1)) = piece ws up s := by
  refine (sortS_eq ((u.pw hn).sublist List.filter_sublist) ?_).symm
  refine (List.perm_ext_iff_of_nodup ((List.filter_sublist).nodup (u.nd hn)) b.nd).mpr fun y => ?_
  show y ∈ piece ws up s ↔ y ∈ D.map (·.1)
  rw [mem_piece, b.mem]
  exact ⟨fun h => h.2, fun h => ⟨su y (b.mem.mpr h), h⟩⟩

def lead (ws : List (Str × Str)) (up : List Str) (x : Str) : Prop := ∀ y ∈ up, Rc (Nb ws up) x y → leS x y = true
open Classical in
noncomputable def leads (ws : List (Str × Str)) (up l : List Str) : List Str := l.filter fun x => decide (lead ws up x)
theorem leS_refl (x : Str) : leS x x = true := by
  have := leS_total x x
  simpa using this

theorem lead_or (hn : NOk n) (u : UOk n up ws) : ∀ (i : Nat) (lt : i < up.length), lead ws up up[i] ∨ ∃ z ∈ leads ws up (up.take i), Rc (Nb ws up) z up[i] := by
  have pw := List.pairwise_iff_getElem.mp (u.pw hn)
  intro i
  induction i using Nat.strongRecOn with
  | ind i ih =>
    intro lt
    by_cases h : lead ws up up[i]
    · exact .inl h
    refine .inr ?_
    have : ∃ y ∈ up, Rc (Nb ws up) up[i] y ∧ ¬ leS up[i] y = true := by
      apply Classical.byContradiction
      intro z
      exact h fun y hy r => Classical.byContradiction fun l => z ⟨y, hy, r, l⟩
    obtain ⟨y, hy, r, l⟩ := this
    obtain ⟨j, hj, rfl⟩ := List.getElem_of_mem hy
    have ji : j < i := by
      rcases Nat.lt_trichotomy j i with c | c | c
      · exact c
      · subst c
        exact absurd (leS_refl _) l
      · exact absurd (pw i j lt hj c) l
    rcases ih j ji hj with h2 | ⟨z, hz, rz⟩
    · refine ⟨up[j], ?_, rc_symm (List.getElem_mem lt) r⟩
      unfold leads
      rw [List.mem_filter]
      refine ⟨?_, by simpa using h2⟩
      rw [List.mem_take_iff_getElem]
      exact ⟨j, by omega, rfl⟩
    · refine ⟨z, ?_, rz.trans (rc_symm (List.getElem_mem lt) r)⟩
      unfold leads at hz ⊢
      rw [List.mem_filter] at hz ⊢
      refine ⟨?_, hz.2⟩
      have : up.take j = (up.take i).take j := by rw [List.take_take, Nat.min_eq_left (by omega)]
      rw [this] at hz
      exact (List.take_subset _ _) hz.1
theorem mem_leads {l : List Str} : x ∈ leads ws up l ↔ x ∈ l ∧ lead ws up x := by
  unfold leads
  rw [List.mem_filter]
  simp

theorem lead_one (hx : x ∈ up) (hy : y ∈ up) (h1 : lead ws up x) (h2 : lead ws up y) (r : Rc (Nb ws up) x y) : x = y := leS_anti (h1 y hy r) (h2 x hx (rc_symm hx r))
theorem leads_snoc {l : List Str} (h : lead ws up x) : leads ws up (l ++ [x]) = leads ws up l ++ [x] := by
  unfold leads
  rw [List.filter_append]
  simp [h]
theorem leads_skip {l : List Str} (h : ¬ lead ws up x) : leads ws up (l ++ [x]) = leads ws up l := by
  unfold leads
  rw [List.filter_append]
  simp [h]
noncomputable def pcs (ws : List (Str × Str)) (up l : List Str) : List Val := (leads ws up l).map fun x => nmsV (piece ws up x)
theorem leads_len (l : List Str) : (leads ws up l).length ≤ l.length := List.length_filter_le _ _
theorem merge_some : ∀ (b a : List (Key × Val)) (k : Key), (valA (mergeA a b) k).isSome = true ↔ (valA a k).isSome = true ∨ k ∈ b.map (·.1)
  | [], a, k => by simp [mergeA]
  | p :: b, a, k => by
    show (valA (mergeA (putA a p.1 p.2) b) k).isSome = true ↔ _
    rw [merge_some b, valA_put, List.map_cons, List.mem_cons]
    by_cases e : k = p.1
    · simp [e]
    · rw [if_neg e]
      exact ⟨fun h => h.imp id .inr, fun h => h.imp id fun h => h.resolve_left e⟩
theorem merge_len : ∀ (b a : List (Key × Val)), (mergeA a b).length ≤ a.length + b.length
  | [], a => Nat.le_refl _
  | p :: b, a => by
    have h1 := merge_len b (putA a p.1 p.2)
    have h2 := putA_len a p.1 p.2
    show (mergeA (putA a p.1 p.2) b).length ≤ _
    rw [List.length_cons]
    omega
def trK (l : List Str) : List (Key × Val) := l.map fun x => (.inr x, .bl true)
theorem piece_len (u8 : up.length ≤ 8) : (piece ws up x).length ≤ 8 := Nat.le_trans (List.length_filter_le _ _) u8
theorem piece_nd (und : up.Nodup) : (piece ws up x).Nodup := List.filter_sublist.nodup und
theorem dK_names (D : List (Str × Nat)) : ((dK D).map fun kv => kA kv.1) = (D.map (·.1)).map Val.str := by
  unfold dK
  rw [List.map_map, List.map_map]
  rfl
theorem pieces_wp (hn : NOk n) (u : UOk n up ws) {wv : Val} (hw : wv = .tup (ws.map wireV) ∨ (wv = .non ∧ ws = n.ws)) :
    Wp (pieces_of_ [netV n, .tup (up.map .str), wv] S) fun v U => v = .tup (pcs ws up up) ∧ Kn S U := by
  have u8 := u.len hn
  have und := u.nd hn
  refine AL.wf ?_; simp only [List.map_cons, List.map_nil, List.length_cons, List.length_nil, Nat.reduceAdd, Nat.reduceSub, List.replicate_succ, List.replicate_zero, List.cons_append, List.nil_append]; unfold pieces_of_B; array_get_dec
  refine (near_names_wp hn u hw).imp ?_
  rintro _ S1 ⟨d, rfl, nr, k1, l1⟩
  array_get_dec
  intro S2 pl e_pl l_S2 g_pl k_S2
  array_get_dec
  intro S3 rp e_rp l_S3 g_rp k_S3
  array_get_dec
  refine .inl ⟨_, rfl, ?_⟩
  have kn3 : Kn S S3 := k1.trans (k_S2.trans k_S3)
  have gpl3 : S3[pl]? = some (.dic []) := k_S3 _ _ g_pl
  have lpl := lt_of_at g_pl
  have ls : S.length ≤ S1.length := by
    rcases Nat.lt_or_ge S1.length S.length with c | c
    · exact absurd (lt_of_at (k1 _ _ (List.getElem?_eq_getElem c))) (Nat.lt_irrefl _)
    · exact c
  have nr3 : Nr S3 d ws up := nr.kn (k_S2.trans k_S3)
  refine ws_loop (fun i ρ U => ∃ (a6 a7 a8 : Option Val) (P : List (Key × Val)), ρ = [some (netV n), some (.tup (up.map .str)), some wv, some (.ref d), some (.ref pl), some (.ref rp), a6, a7, a8] ∧ U[pl]? = some (.dic P) ∧ U[rp]? = some (.lst (pcs ws up (up.take i))) ∧ (∀ y, (valA P (.inr y)).isSome = true ↔ ∃ x ∈ leads ws up (up.take i), y ∈ piece ws up x) ∧ P.length ≤ 8 * i ∧ K2 pl rp S1 U)
    ⟨_, _, _, [], rfl, gpl3, g_rp, fun y => by simp [leads, valA], by simp, K2.kn (k_S2.trans k_S3)⟩ (fun _ _ _ _ _ => trivial) ?_ ?_
  · rintro i v ρ U hv ⟨a6, a7, a8, P, rfl, gP, gR, hP, lP, kU⟩
    rw [List.getElem?_map] at hv
    obtain ⟨x, hx, rfl⟩ := Option.map_eq_some_iff.mp hv
    obtain ⟨lt, ex⟩ := List.getElem?_eq_some_iff.mp hx
    have xu : x ∈ up := List.mem_of_getElem? hx
    have tk : up.take (i + 1) = up.take i ++ [x] := by rw [List.take_succ_eq_append_getElem lt, ex]
    have nin : x ∉ up.take i := by
      have nd2 : (up.take (i + 1)).Nodup := (List.take_sublist _ _).nodup und
      rw [tk, List.nodup_append] at nd2
      exact fun m => nd2.2.2 _ m _ (by simp) rfl
    have knU : Kn S1 U := fun q o ho => by
      have := lt_of_at ho
      exact kU q o (by omega) (by omega) ho
    have plc : (valA P (.inr x)).isSome = true ↔ ¬ lead ws up x := by
      rw [hP]
      constructor
      · rintro ⟨z, hz, hm⟩ hl
        have hz := mem_leads.mp hz
        have zu : z ∈ up := (List.take_subset _ _) hz.1
        have := lead_one zu xu hz.2 hl (mem_piece.mp hm).2
        exact nin (this ▸ hz.1)
      · intro hl
        have := lead_or hn u i lt
        rw [ex] at this
        rcases this with h | ⟨z, hz, r⟩
        · exact absurd h hl
        · exact ⟨z, hz, mem_piece.mpr ⟨xu, r⟩⟩
    refine bn rfl ?_
    array_get_dec
    refine vInD gP ?_
    array_get_dec
    refine Br.of (fun c => ?_) (fun c => ?_)
    · have hl : lead ws up x := by
        have c : (!(valA P (.inr x)).isSome) = true := c
        apply Classical.byContradiction
        intro z
        rw [plc.mpr z] at c
        cases c
      array_get_dec
      refine (steps_wp hn u (nr.kn knU) xu).imp ?_
      rintro _ U1 ⟨rD, D, rfl, gD, b, su, kU1, lD⟩
      array_get_dec
      refine vListD rfl gD ?_
      rw [dK_names]
      intro U2 r2 e_r2 l_U2 g_r2 k_U2
      array_get_dec
      have D8 := keys_len b.nd su u8
      refine vSortGS rfl g_r2 (by rw [List.length_map]; omega) ?_
      rw [keys_sort hn u b su]
      intro U3 r3 e_r3 l_U3 g_r3 k_U3
      array_get_dec
      have k03 : Kn U U3 := kU1.trans (k_U2.trans k_U3)
      have ll := leads_len (ws := ws) (up := up) (up.take i)
      rw [List.length_take] at ll
      refine vApp rfl (k03 _ _ gR) ?_ (small (by unfold pcs; rw [List.length_map]; omega))
      intro U4 l_U4 g_U4 k_U4
      have gP4 := k_U4 _ _ (by omega) (k03 _ _ gP)
      have p8 := piece_len (ws := ws) (x := x) u8
      array_get_dec
      refine sd (by simp only [isD, gP4]) ?_
      array_get_dec
      refine wDc ?_
      array_get_dec
      refine .inl ⟨_, rfl, ?_⟩
      refine dc_inv (fun j a T => a = trK ((piece ws up x).take j) ∧ j ≤ (piece ws up x).length ∧ T = U4) (fun _ _ _ _ _ => trivial) (fun j a T ⟨h, h2, _⟩ => by rw [h]; unfold trK; rw [List.length_map, List.length_take]; omega) ?_ ?_ ⟨rfl, Nat.zero_le _, rfl⟩
      · rintro j v a T hv ⟨rfl, h3, rfl⟩
        rw [List.getElem?_map] at hv
        obtain ⟨y, hy, rfl⟩ := Option.map_eq_some_iff.mp hv
        obtain ⟨lt2, ey⟩ := List.getElem?_eq_some_iff.mp hy
        have tk2 : (piece ws up x).take (j + 1) = (piece ws up x).take j ++ [y] := by rw [List.take_succ_eq_append_getElem lt2, ey]
        refine bn rfl ?_
        array_get_dec
        refine ⟨.inr y, rfl, ?_, lt2, rfl⟩
        refine (putA_no ?_).trans ?_
        · unfold trK
          rw [List.map_map]
          intro z
          obtain ⟨q, hq, e⟩ := List.mem_map.mp z
          have nd2 : ((piece ws up x).take (j + 1)).Nodup := (List.take_sublist _ _).nodup (piece_nd und)
          rw [tk2, List.nodup_append] at nd2
          exact nd2.2.2 _ hq _ (by simp) (Sum.inr.inj e)
        · rw [tk2]
          unfold trK
          rw [List.map_append]
          rfl
      · rintro a T ⟨rfl, _, rfl⟩
        rw [List.length_map, List.take_length]
        intro U5 r5 e_r5 l_U5 g_r5 k_U5
        array_get_dec
        have lpU := lt_of_at gP
        have gP5 := k_U5 _ _ gP4
        have lp5 := lt_of_at gP4
        refine vUpd rfl rfl gP5 g_r5 (by omega) (Nat.le_trans (m := 1000) (by unfold trK; rw [List.length_map]; omega) (by decide)) ?_
        intro U6 l_U6 g_U6 k_U6
        refine ⟨_, _, _, _, rfl, g_U6, ?_, fun y => ?_, ?_, ?_⟩
        · have hr := k_U6 _ _ (by omega) (k_U5 _ _ g_U4)
          rw [hr, tk]
          unfold pcs
          rw [leads_snoc hl, List.map_append]
          rfl
        · rw [merge_some, hP, tk, leads_snoc hl]
          have e1 : (.inr y : Key) ∈ (trK (piece ws up x)).map (·.1) ↔ y ∈ piece ws up x := by
            unfold trK
            rw [List.map_map, List.mem_map]
            exact ⟨fun ⟨q, hq, e⟩ => (Sum.inr.inj e) ▸ hq, fun h => ⟨y, h, rfl⟩⟩
          rw [e1]
          constructor
          · rintro (⟨z, hz, h⟩ | h)
            · exact ⟨z, List.mem_append_left _ hz, h⟩
            · exact ⟨x, by simp, h⟩
          · rintro ⟨z, hz, h⟩
            rcases List.mem_append.mp hz with hz | hz
            · exact .inl ⟨z, hz, h⟩
            · rw [List.mem_singleton] at hz
              exact .inr (hz ▸ h)
        · have := merge_len (trK (piece ws up x)) P
          have e2 : (trK (piece ws up x)).length = (piece ws up x).length := List.length_map ..
          omega
        · have kk : K2 pl rp U U6 := (K2.kn k03).trans ((K2.ky k_U4).trans ((K2.kn k_U5).trans (K2.kx k_U6)))
          exact kU.trans kk
    · have hl : ¬ lead ws up x := by
        have c : (!(valA P (.inr x)).isSome) = false := c
        rw [← plc]
        simpa using c
      array_get_dec
      refine ⟨_, _, _, P, rfl, gP, ?_, fun y => ?_, by omega, kU⟩
      · rw [gR, tk]
        unfold pcs
        rw [leads_skip hl]
      · rw [tk, leads_skip hl]
        exact hP y
  · rintro ρ U ⟨a6, a7, a8, P, rfl, gP, gR, hP, lP, kU⟩
    rw [List.length_map, List.take_length] at gR
    array_get_dec
    refine ⟨rfl, fun q o ho => ?_⟩
    have := lt_of_at ho
    exact kU q o (by omega) (by omega) (k1 _ _ ho)
end
end K60
namespace K60
open PySem PySem.Spec PyProof.Rows L2 G Th AL KL Fr Od Bf
open K57 (other_ends_ other_ends_B own_best_ own_best_B feedL_ feedL_B drawL_ drawL_B keyL_ keyL_B endsL_ endsL_B)
open K57 (wireV Mb mbV Net netV pool WOk NOk NmOk endsL ends oes oes_perm mem_endsL other_wp endsL_wp keyV mkey own own_wp bsV keyL_wp vInL vInD vDictN pairs_map val_map nd_inr nd_len tl tl_inj tl_asym sortS_perm sortS_pw sortS_eq oes_in oes_nd K2 vSortGS vSortGD vSortGT ok_sort keys_map lt_of_leS Ky KyOk mkey_ok vMinGT)
open K37 (fmod_lt p60 p40 TxOk Sh ShL valA_put putA_len merge_app)
open K08 (ws_cut)
section
variable {n : Net} {up : List Str} {ws : List (Str × Str)} {S : Sto} {x y z s : Str}
theorem leads_pw (hn : NOk n) (u : UOk n up ws) : (leads ws up up).Pairwise fun a b => leS a b = true ∧ a ≠ b := by
  have h1 : (leads ws up up).Pairwise fun a b => leS a b = true := (u.pw hn).sublist List.filter_sublist
  have h2 : (leads ws up up).Nodup := List.filter_sublist.nodup (u.nd hn)
  exact h1.and h2
def keyN (n : Net) (x : Str) : Ky := match n.ms.find? fun m => decide (m.name = x) with
  | some m => mkey m
  | none => ⟨0, 0, x⟩
theorem keyN_at (hn : NOk n) {m : Mb} (hm : m ∈ n.ms) : keyN n m.name = mkey m := by
  have go : ∀ {l : List Mb}, (l.map Mb.name).Nodup → m ∈ l → l.find? (fun q => decide (q.name = m.name)) = some m := fun {l} nd hm => by
    induction l with
    | nil => cases hm
    | cons q l ih =>
      rw [List.map_cons, List.nodup_cons] at nd
      rcases List.mem_cons.mp hm with rfl | hm
      · simp
      · have : q.name ≠ m.name := fun e => nd.1 (e ▸ List.mem_map_of_mem hm)
        simp [this, ih nd.2 hm]
  have := go hn.nd hm
  unfold keyN
  rw [this]
theorem keyN_nm (n : Net) (x : Str) : (keyN n x).nm = x := by
  unfold keyN
  split
  · next m hm => exact of_decide_eq_true (List.find?_some (p := fun m : Mb => decide (m.name = x)) hm)
  · rfl
theorem key_at (hn : NOk n) (hx : x ∈ n.names) : valA (kyD n) (.inr x) = some (keyV (keyN n x)) := by
  obtain ⟨m, hm, rfl⟩ := List.mem_map.mp hx
  rw [kyD_at hn hm, keyN_at hn hm]
def kyV (n : Net) (x : Str) : Val := keyV (keyN n x)
theorem kyV_inj (h : kyV n x = kyV n y) : x = y := by
  have : (keyN n x).nm = (keyN n y).nm := by
    simp only [kyV, keyV, Val.tup.injEq, List.cons.injEq, Val.int.injEq, Val.str.injEq] at h
    exact h.2.2.1
  rwa [keyN_nm, keyN_nm] at this
theorem kyV_pure : pureV (kyV n x) = true := rfl
theorem kyV_ok (h : NmOk x) : okV (kyV n x) = true := by
  have : PyData.strOk (keyN n x).nm = true := by rw [keyN_nm]; exact h.1
  simp only [okV, kyV, keyV, pureV, pureVs, dV, dVs, PyData.canLay0, PyData.canLayAll0, this, PyData.depth, PyData.depthAll, Bool.and_true, Bool.true_and]
  decide
open Classical in
noncomputable def ldr (n : Net) (ws : List (Str × Str)) (up : List Str) (x : Str) : Str := if h : ∃ y ∈ piece ws up x, ∀ z ∈ piece ws up x, ltV (kyV n z) (kyV n y) = false then h.choose else x
theorem ldr_of (hx : x ∈ up) {l : List Str} (hl : ∀ y, y ∈ l ↔ y ∈ piece ws up x) : ∃ a r, l = a :: r ∧ minT (kyV n a) (r.map (kyV n)) = kyV n (ldr n ws up x) ∧ ldr n ws up x ∈ piece ws up x := by
  cases e : l with
  | nil =>
    subst e
    exact absurd ((hl x).mpr (mem_piece.mpr ⟨hx, Rc.refl⟩)) (by simp)
  | cons a r =>
    refine ⟨a, r, rfl, ?_⟩
    rw [e] at hl
    have m1 := minT_mem (kyV n a) (r.map (kyV n))
    rw [← List.map_cons] at m1
    obtain ⟨y, hy, ey⟩ := List.mem_map.mp m1
    have le : ∀ z ∈ piece ws up x, ltV (kyV n z) (kyV n y) = false := fun z hz => by
      rw [ey]
      refine minT_le _ _ _ ?_
      rw [← List.map_cons]
      exact List.mem_map_of_mem ((hl z).mpr hz)
    have ex : ∃ y ∈ piece ws up x, ∀ z ∈ piece ws up x, ltV (kyV n z) (kyV n y) = false := ⟨y, (hl y).mp hy, le⟩
    have sp := ex.choose_spec
    have el : ldr n ws up x = ex.choose := by
      unfold ldr
      rw [dif_pos ex]
    rw [el]
    refine ⟨?_, sp.1⟩
    rw [← ey]
    exact trV_inj _ _ kyV_pure kyV_pure (tot _ _ (sp.2 y ((hl y).mp hy)) (le _ sp.1))
theorem ldr_eq (hx : x ∈ up) (h : Rc (Nb ws up) x y) : ldr n ws up y = ldr n ws up x := by
  have e := piece_eq hx h
  have hy := rc_up hx h
  obtain ⟨a, r, e1, m1, _⟩ := ldr_of (n := n) (ws := ws) hx (l := piece ws up x) fun _ => .rfl
  obtain ⟨a', r', e2, m2, _⟩ := ldr_of (n := n) (ws := ws) hy (l := piece ws up y) fun _ => .rfl
  rw [← e, e1] at e2
  cases e2
  exact kyV_inj (m2.symm.trans m1)
def IsD (ws : List (Str × Str)) (up : List Str) (s x : Str) (d : Nat) : Prop := W (Nb ws up) s d x ∧ ∀ e, W (Nb ws up) s e x → d ≤ e
open Classical in
noncomputable def dst (ws : List (Str × Str)) (up : List Str) (s x : Str) : Nat := if h : ∃ d, IsD ws up s x d then h.choose else 0
theorem dst_of {d : Nat} (h : IsD ws up s x d) : dst ws up s x = d := by
  have ex : ∃ d, IsD ws up s x d := ⟨d, h⟩
  have sp := ex.choose_spec
  have el : dst ws up s x = ex.choose := by
    unfold dst
    rw [dif_pos ex]
  rw [el]
  have h1 := sp.2 d h.1
  have h2 := h.2 _ sp.1
  omega
theorem dst_at {D : List (Str × Nat)} (b : BF (Nb ws up) s D) {d : Nat} (h : (x, d) ∈ D) : dst ws up s x = d := dst_of ⟨b.wk _ _ h, fun _ w => b.le w h⟩
theorem bf_mem {D : List (Str × Nat)} (b : BF (Nb ws up) s D) (r : Rc (Nb ws up) s x) : (x, dst ws up s x) ∈ D := by
  obtain ⟨⟨y, d⟩, h, e⟩ := List.mem_map.mp (b.mem.mpr r)
  have e : y = x := e
  subst e
  rw [dst_at b h]
  exact h
theorem bf_bound {D : List (Str × Nat)} (b : BF (Nb ws up) s D) {d : Nat} (h : (x, d) ∈ D) : d < D.length := by
  have all : ∀ (k d : Nat) (x : Str), (x, d) ∈ D → k ≤ d → k ∈ D.map (·.2) := by
    intro k d
    induction d with
    | zero =>
      intro x h hk
      obtain rfl : k = 0 := by omega
      exact List.mem_map.mpr ⟨_, h, rfl⟩
    | succ d ih =>
      intro x h hk
      rcases Nat.lt_or_ge d k with c | c
      · obtain rfl : k = d + 1 := by omega
        exact List.mem_map.mpr ⟨_, h, rfl⟩
      · obtain ⟨y, _, hy⟩ := b.near h
        exact ih y hy c
  have := nd_len (xs := List.range (d + 1)) (ys := D.map (·.2)) List.nodup_range fun k hk => all k d x h (by rw [List.mem_range] at hk; omega)
  rw [List.length_range, List.length_map] at this
  omega

noncomputable def nrs (n : Net) (ws : List (Str × Str)) (up : List Str) (x : Str) : List Str := (ends ws x).filter fun z => decide (z ∈ up) && decide (dst ws up (ldr n ws up x) z + 1 = dst ws up (ldr n ws up x) x)
noncomputable def who (n : Net) (ws : List (Str × Str)) (up : List Str) (x : Str) : Str := (nrs n ws up x).headD x
noncomputable def trw (n : Net) (ws : List (Str × Str)) (up : List Str) (x : Str) : Val := .tup [.str x, kyV n (ldr n ws up x), .int ((dst ws up (ldr n ws up x) x : Nat) : Int), .str (who n ws up x)]
theorem mem_nrs : z ∈ nrs n ws up x ↔ Nb ws up x z ∧ dst ws up (ldr n ws up x) z + 1 = dst ws up (ldr n ws up x) x := by
  unfold nrs Nb ends
  rw [List.mem_filter, (sortS_perm _).mem_iff, Bool.and_eq_true, decide_eq_true_iff, decide_eq_true_iff]
  exact ⟨fun ⟨a, b, c⟩ => ⟨⟨b, a⟩, c⟩, fun ⟨⟨b, a⟩, c⟩ => ⟨a, b, c⟩⟩
theorem who_up (hx : x ∈ up) : who n ws up x ∈ up := by
  unfold who
  cases e : nrs n ws up x with
  | nil => exact hx
  | cons a r =>
    have : a ∈ nrs n ws up x := by rw [e]; exact List.mem_cons_self
    exact (mem_nrs.mp this).1.1
theorem ldr_up (hx : x ∈ up) : ldr n ws up x ∈ up ∧ Rc (Nb ws up) (ldr n ws up x) x := by
  obtain ⟨_, _, _, _, h⟩ := ldr_of (n := n) (ws := ws) hx (l := piece ws up x) fun _ => .rfl
  have h := mem_piece.mp h
  exact ⟨h.1, rc_symm hx h.2⟩
end
end K60
namespace K13
open PySem PySem.Spec PyProof.Rows L2 G Th AL K37 KL Fr
open K08 (F8 Sc wAt)
abbrev at_ (d : List (Key × Val)) (b : Nat) : Option Val := valA d (.inl (b : Int))
structure Cf (es : List Ev) (x i : Nat) (d : List (Key × Val)) : Prop where
  sz : d.length ≤ 1 + i
  self : at_ d x = some .non
  out : ∀ b v, b ≠ x → at_ d b = some v → ∃ a : Nat, v = .int (a : Int) ∧ Stp es a b ∧ (at_ d a).isSome ∧ b < i ∧ Rch es x b ∧ x < b
  inn : ∀ b, b < i → Rch es x b → (at_ d b).isSome
section
variable {fl : Fl} {es : List Ev} {ws : List Fq} {x i : Nat} {d : List (Key × Val)}
theorem Cf.nil : Cf es x 0 [(.inl (x : Int), .non)] := by
  have e : ∀ b : Nat, at_ [(.inl (x : Int), Val.non)] b = if b = x then some .non else none := fun b => by
    unfold at_ valA
    by_cases c : b = x
    · subst c
      simp
    · have : ¬ (x : Int) = b := by omega
      simp [c, this]
  refine ⟨by simp, by rw [e, if_pos rfl], fun b v hb hv => ?_, fun b hb => by omega⟩
  rw [e, if_neg hb] at hv
  cases hv
end
end K13
namespace K13
open PySem PySem.Spec PyProof.Rows L2 G Th AL K37 KL Fr
open K08 (F8 Sc wAt)
end K13
namespace K13
open PySem PySem.Spec PyProof.Rows L2 G Th AL K37 KL Fr
open K08 (F8 Sc wAt)
section
variable {fl : Fl} {es : List Ev} {ws : List Fq} {x : Nat} {S : Sto} {Q : Val → Sto → Prop}
theorem vExt {a b : Nat} {x : Val} {vs us : List Val} (hx : x = .ref a) (ha : S[a]? = some (.lst vs)) (hb : S[b]? = some (.lst us)) (hl : vs.length + us.length ≤ 1000000) (q : Pt S a (.lst (vs ++ us)) (Q .non)) : Wp (gExt x [.ref b] S) Q := by
  subst hx
  exact ⟨_, _, by simp only [gExt, ha, hb, if_pos (mill hl)], q.use ha⟩
end
end K13
namespace K60
open PySem PySem.Spec PyProof.Rows L2 G Th AL KL Fr Od Bf
open K57 (other_ends_ other_ends_B own_best_ own_best_B feedL_ feedL_B drawL_ drawL_B keyL_ keyL_B endsL_ endsL_B)
open K57 (wireV Mb mbV Net netV pool WOk NOk NmOk endsL ends oes oes_perm mem_endsL other_wp endsL_wp keyV mkey own own_wp bsV keyL_wp vInL vInD vDictN pairs_map val_map nd_inr nd_len tl tl_inj tl_asym sortS_perm sortS_pw sortS_eq oes_in oes_nd K2 vSortGS vSortGD vSortGT ok_sort keys_map lt_of_leS Ky KyOk mkey_ok vMinGT)
open K37 (fmod_lt p60 p40 TxOk Sh ShL valA_put putA_len merge_app)
open K08 (ws_cut)
open K13 (vExt)
theorem vMinGS {S : Sto} {Q : Val → Sto → Prop} {n : Nat} {a : Str} {l : List Str} (h : S[n]? = some (.lst ((a :: l).map .str))) (ok : ∀ x ∈ a :: l, NmOk x) (ll : l.length < 1000) (q : Q (minT (.str a) (l.map .str)) S) : Wp (gMinG [.ref n] S) Q := by
  have hok : okMin ((a :: l).map Val.str) = true := by
    unfold okMin
    rw [Bool.and_eq_true, List.all_eq_true, List.all_eq_true]
    refine ⟨fun v hv => ?_, fun v hv => List.all_eq_true.mpr fun u hu => ?_⟩
    · obtain ⟨x, hx, rfl⟩ := List.mem_map.mp hv
      simp only [okV, pureV, dV, PyData.canLay0, (ok x hx).1, PyData.depth, Bool.and_true, Bool.true_and]
      decide
    · obtain ⟨x, _, rfl⟩ := List.mem_map.mp hv
      obtain ⟨y, _, rfl⟩ := List.mem_map.mp hu
      rfl
  have e : gMinB [.ref n] S = none := by
    show gMinA [.ref n] S = none
    simp only [gMinA, h, List.map_cons, intsOf]
  refine ⟨_, S, ?_, q⟩
  unfold gMinG
  rw [e]
  rw [List.map_cons] at h hok
  simp only [gMinT, h, if_pos hok, Option.none_or]
section
variable {n : Net} {up : List Str} {ws : List (Str × Str)} {S : Sto} {x y z s : Str}
theorem str_lt {a b : Str} (h : leS a b = true) : ltV (.str b) (.str a) = false := by
  rw [leS_iff] at h
  exact decide_eq_false h
theorem nrs_pw : (nrs n ws up x).Pairwise fun a b => leS a b = true := (sortS_pw (endsL ws x)).sublist List.filter_sublist
noncomputable def nrB (l : Str) (ws : List (Str × Str)) (up : List Str) (x : Str) : Val → Bool
  | .str z => decide (dst ws up l z + 1 = dst ws up l x)
  | _ => false
theorem nearer_wp (hn : NOk n) (u : UOk n up ws) (hx : x ∈ up) {d rD : Nat} {D : List (Str × Nat)} (nr : Nr S d ws up) (gD : S[rD]? = some (.dic (dK D))) (b : BF (Nb ws up) (ldr n ws up x) D) (su : ∀ x ∈ D.map (·.1), x ∈ up) :
    Wp (nearer_ [.ref d, .ref rD, .str x] S) fun v U => v = .str (who n ws up x) ∧ Kn S U := by
  have lx := ldr_up (n := n) (ws := ws) hx
  have xD := bf_mem b lx.2
  have ax := dK_at b.nd xD
  have at_ : ∀ z, Nb ws up x z → valA (dK D) (.inr z) = some (.int ((dst ws up (ldr n ws up x) z : Nat) : Int)) := fun z h => dK_at b.nd (bf_mem b (lx.2.trans ⟨1, W.one h⟩))
  refine AL.wf ?_; simp only [List.map_cons, List.map_nil, List.length_cons, List.length_nil, Nat.reduceAdd, Nat.reduceSub, List.replicate_succ, List.replicate_zero, List.cons_append, List.nil_append]; unfold nearer_B; array_get_dec
  refine vIxD rfl gD rfl ax ?_
  array_get_dec
  refine Br.of (fun c => ?_) (fun c => ?_)
  · have c := of_decide_eq_true c
    array_get_dec
    refine ⟨?_, .refl _⟩
    have : nrs n ws up x = [] := by
      refine List.eq_nil_iff_forall_not_mem.mpr fun z hz => ?_
      have := (mem_nrs.mp hz).2
      omega
    unfold who
    rw [this]
    rfl
  · have c := of_decide_eq_false c
    obtain ⟨kvs, g1, g2⟩ := nr.dic
    obtain ⟨r, er, gr⟩ := g2 x hx
    have ln := u.nbl_len hn x
    array_get_dec
    refine vIxD rfl g1 rfl er ?_
    refine .inr ⟨r, _, rfl, gr, ?_⟩
    refine lc_pure (nrB (ldr n ws up x) ws up x) id gr (by rw [List.length_map]; omega) (fun v hv => ?_) ?_
    · obtain ⟨z, hz, rfl⟩ := List.mem_map.mp hv
      have hz := u.nbl.mp hz
      refine bn rfl ?_
      array_get_dec
      refine vIxD rfl gD rfl (at_ z hz) ?_
      array_get_dec
      refine vIxD rfl gD rfl ax ?_
      array_get_dec
      refine ⟨?_, rfl, fun _ => by array_get_dec; exact ⟨rfl, rfl⟩⟩
      show decide _ = decide (dst ws up (ldr n ws up x) z + 1 = dst ws up (ldr n ws up x) x)
      exact decide_eq_decide.mpr ⟨fun h => by omega, fun h => by omega⟩
    have e1 : ((((nbl ws up x).map Val.str).filter (nrB (ldr n ws up x) ws up x)).map id) = ((nbl ws up x).filter fun z => decide (dst ws up (ldr n ws up x) z + 1 = dst ws up (ldr n ws up x) x)).map Val.str := by
      rw [List.map_id, List.filter_map]
      rfl
    rw [e1]
    have hm : ∀ z, z ∈ (nbl ws up x).filter (fun z => decide (dst ws up (ldr n ws up x) z + 1 = dst ws up (ldr n ws up x) x)) ↔ z ∈ nrs n ws up x := fun z => by
      rw [List.mem_filter, u.nbl, decide_eq_true_iff, mem_nrs]
    generalize hL : (nbl ws up x).filter (fun z => decide (dst ws up (ldr n ws up x) z + 1 = dst ws up (ldr n ws up x) x)) = L at hm
    have lL : L.length ≤ 8 := by
      rw [← hL]
      exact Nat.le_trans (List.length_filter_le _ _) ln
    intro U1 r1 e_r1 l_U1 g_r1 k_U1
    array_get_dec
    obtain ⟨dd, hd⟩ : ∃ k, dst ws up (ldr n ws up x) x = k + 1 := ⟨dst ws up (ldr n ws up x) x - 1, by omega⟩
    rw [hd] at xD
    obtain ⟨y, ny, yD⟩ := b.near xD
    have yu : y ∈ up := su y (List.mem_map.mpr ⟨_, yD, rfl⟩)
    have yL : y ∈ nrs n ws up x := mem_nrs.mpr ⟨nb_symm yu ny, by rw [dst_at b yD, hd]⟩
    cases hN : nrs n ws up x with
    | nil => rw [hN] at yL; cases yL
    | cons w q =>
      cases L with
      | nil => exact absurd ((hm y).mpr yL) (by simp)
      | cons a l =>
        have nm : ∀ z ∈ a :: l, NmOk z := fun z hz => u.nm hn (mem_nrs.mp ((hm z).mp hz)).1.1
        refine vMinGS g_r1 nm (by simp at lL; omega) ?_
        refine ⟨?_, k_U1⟩
        have ew : who n ws up x = w := by
          unfold who
          rw [hN]
          rfl
        rw [ew]
        have pw := nrs_pw (n := n) (ws := ws) (up := up) (x := x)
        rw [hN] at pw
        have m1 := minT_mem (.str a) (l.map .str)
        have m2 : Val.str w ∈ Val.str a :: l.map .str := by
          rw [← List.map_cons]
          exact List.mem_map_of_mem ((hm w).mpr (by rw [hN]; exact List.mem_cons_self))
        have pv : ∀ v ∈ Val.str a :: l.map .str, pureV v = true := fun v hv => by
          rw [← List.map_cons] at hv
          obtain ⟨z, _, rfl⟩ := List.mem_map.mp hv
          rfl
        refine min_uniq m1 m2 (pv _ m1) rfl (minT_le _ _) fun v hv => ?_
        rw [← List.map_cons] at hv
        obtain ⟨z, hz, rfl⟩ := List.mem_map.mp hv
        refine str_lt ?_
        have := (hm z).mp hz
        rw [hN] at this
        rcases List.mem_cons.mp this with rfl | h
        · exact leS_refl _
        · exact (List.pairwise_cons.mp pw).1 z h
def kyF (n : Net) : Val → Val
  | .str x => kyV n x
  | _ => .non
theorem kyF_map (l : List Str) : (l.map Val.str).map (kyF n) = l.map (kyV n) := by
  rw [List.map_map]
  rfl
theorem vMinK {Q : Val → Sto → Prop} {r : Nat} {a : Str} {l : List Str} (h : S[r]? = some (.lst ((a :: l).map (kyV n)))) (ok : ∀ x ∈ a :: l, NmOk x) (q : Q (minT (kyV n a) (l.map (kyV n))) S) : Wp (gMinG [.ref r] S) Q := by
  have hok : okMin ((a :: l).map (kyV n)) = true := by
    unfold okMin
    rw [Bool.and_eq_true, List.all_eq_true, List.all_eq_true]
    refine ⟨fun v hv => ?_, fun v hv => List.all_eq_true.mpr fun u hu => ?_⟩
    · obtain ⟨x, hx, rfl⟩ := List.mem_map.mp hv
      exact kyV_ok (ok x hx)
    · obtain ⟨x, _, rfl⟩ := List.mem_map.mp hv
      obtain ⟨y, _, rfl⟩ := List.mem_map.mp hu
      rfl
  exact vMinGT h hok q
theorem ky_tup (n : Net) (x : Str) : kyV n x = .tup [.int (keyN n x).p, .int (keyN n x).c, .str x] := by
  unfold kyV keyV
  rw [keyN_nm]
theorem trw_ok (hn : NOk n) (u : UOk n up ws) (hx : x ∈ up) : okV (trw n ws up x) = true ∧ hd1 (dV (trw n ws up x)) = true := by
  refine ⟨?_, rfl⟩
  have h1 := (u.nm hn hx).1
  have h2 : PyData.strOk (keyN n (ldr n ws up x)).nm = true := by rw [keyN_nm]; exact (u.nm hn (ldr_up hx).1).1
  have h3 := (u.nm hn (who_up (n := n) (ws := ws) hx)).1
  simp only [okV, trw, kyV, keyV, pureV, pureVs, dV, dVs, PyData.canLay0, PyData.canLayAll0, h1, h2, h3, PyData.depth, PyData.depthAll, Bool.and_true, Bool.true_and]
  decide
theorem trw_srt (hn : NOk n) (u : UOk n up ws) : Srt (up.map (trw n ws up)) := by
  unfold Srt
  rw [List.pairwise_map]
  refine ((u.pw hn).and (u.nd hn)).imp fun {a b} h => ?_
  have c := lt_of_leS h.1 h.2
  have ne2 : Tr.s (tl b) ≠ Tr.s (tl a) := fun e => h.2 (tl_inj (Tr.s.inj e)).symm
  show lts (Tr.s (tl b) :: _) (Tr.s (tl a) :: _) = false
  rw [lts_other ne2, lt]
  exact decide_eq_false (tl_asym c)
theorem all_perm (hn : NOk n) (u : UOk n up ws) : ((leads ws up up).flatMap (piece ws up)).Perm up := by
  refine (List.perm_ext_iff_of_nodup ?_ (u.nd hn)).mpr fun y => ?_
  · unfold List.Nodup
    rw [List.pairwise_flatMap]
    refine ⟨fun a _ => piece_nd (u.nd hn), (leads_pw hn u).imp_of_mem fun {a b} ha hb h p hp q hq e => ?_⟩
    subst e
    have ha := mem_leads.mp ha
    have hb := mem_leads.mp hb
    have r := (mem_piece.mp hp).2.trans (rc_symm hb.1 (mem_piece.mp hq).2)
    exact h.2 (lead_one ha.1 hb.1 ha.2 hb.2 r)
  · rw [List.mem_flatMap]
    constructor
    · rintro ⟨a, _, h⟩
      exact (mem_piece.mp h).1
    · intro hy
      obtain ⟨i, lt, rfl⟩ := List.getElem_of_mem hy
      rcases lead_or hn u i lt with h | ⟨z, hz, r⟩
      · exact ⟨up[i], mem_leads.mpr ⟨hy, h⟩, mem_piece.mpr ⟨hy, Rc.refl⟩⟩
      · have hz := mem_leads.mp hz
        exact ⟨z, mem_leads.mpr ⟨(List.take_subset _ _) hz.1, hz.2⟩, mem_piece.mpr ⟨hy, r⟩⟩
theorem tree_wp (hn : NOk n) (u : UOk n up ws) {wv : Val} (hw : wv = .tup (ws.map wireV) ∨ (wv = .non ∧ ws = n.ws)) :
    Wp (tree_paper_ [netV n, .tup (up.map .str), wv] S) fun v U => v = .tup (up.map (trw n ws up)) ∧ Kn S U := by
  have u8 := u.len hn
  have und := u.nd hn
  refine AL.wf ?_; simp only [List.map_cons, List.map_nil, List.length_cons, List.length_nil, Nat.reduceAdd, Nat.reduceSub, List.replicate_succ, List.replicate_zero, List.cons_append, List.nil_append]; unfold tree_paper_B; array_get_dec
  refine (own_keys_wp hn).imp ?_
  rintro _ S1 ⟨rk, rfl, gk, k1, l1⟩
  array_get_dec
  refine (near_names_wp hn u hw).imp ?_
  rintro _ S2 ⟨d, rfl, nr, k2, l2⟩
  array_get_dec
  intro S3 rr e_rr l_S3 g_rr k_S3
  array_get_dec
  refine (pieces_wp hn u hw).imp ?_
  rintro _ S4 ⟨rfl, k4⟩
  refine .inl ⟨_, rfl, ?_⟩
  have gk4 : S4[rk]? = some (.dic (kyD n)) := k4 _ _ (k_S3 _ _ (k2 _ _ gk))
  have nr4 : Nr S4 d ws up := nr.kn (k_S3.trans k4)
  have gr4 : S4[rr]? = some (.lst []) := k4 _ _ g_rr
  have lrk := lt_of_at (k2 _ _ gk)
  obtain ⟨kvs, gn1, gn2⟩ := nr.dic
  have lnd := lt_of_at gn1
  have nrk : ∀ {T : Sto}, Kx rr S4 T → Nr T d ws up := fun {T} k => by
    refine ⟨kvs, k _ _ (by omega) (k4 _ _ (k_S3 _ _ gn1)), fun z hz => ?_⟩
    obtain ⟨r, e, g⟩ := gn2 z hz
    have := lt_of_at g
    exact ⟨r, e, k _ _ (by omega) (k4 _ _ (k_S3 _ _ g))⟩
  unfold pcs
  refine ws_loop (fun i ρ U => ∃ (a6 a7 a8 a9 : Option Val), ρ = [some (netV n), some (.tup (up.map .str)), some wv, some (.ref rk), some (.ref d), some (.ref rr), a6, a7, a8, a9] ∧ U[rr]? = some (.lst ((((leads ws up up).take i).flatMap (piece ws up)).map (trw n ws up))) ∧ Kx rr S4 U)
    ⟨_, _, _, _, rfl, gr4, .refl _ _⟩ (fun _ _ _ _ _ => trivial) ?_ ?_
  · rintro i v ρ U hv ⟨a6, a7, a8, a9, rfl, gR, kU⟩
    rw [List.getElem?_map] at hv
    obtain ⟨x, hx, rfl⟩ := Option.map_eq_some_iff.mp hv
    obtain ⟨lt, ex⟩ := List.getElem?_eq_some_iff.mp hx
    have xl := mem_leads.mp (List.mem_of_getElem? hx)
    have tk : (leads ws up up).take (i + 1) = (leads ws up up).take i ++ [x] := by rw [List.take_succ_eq_append_getElem lt, ex]
    have p8 := piece_len (ws := ws) (x := x) u8
    have gkU : U[rk]? = some (.dic (kyD n)) := kU _ _ (by omega) gk4
    refine bn rfl ?_
    array_get_dec
    refine .inl ⟨_, rfl, ?_⟩
    refine lc_pure (fun _ => true) (kyF n) trivial (by rw [List.length_map]; omega) (fun v hv => ?_) ?_
    · obtain ⟨z, hz, rfl⟩ := List.mem_map.mp hv
      have zu := (mem_piece.mp hz).1
      refine bn rfl ?_
      array_get_dec
      refine ⟨rfl, rfl, fun _ => ?_⟩
      array_get_dec
      refine vIxD rfl gkU rfl (key_at hn (u.sub.subset zu)) ⟨rfl, rfl⟩
    rw [List.filter_eq_self.mpr fun _ _ => rfl, kyF_map]
    obtain ⟨a, r, el, mn, lp⟩ := ldr_of (n := n) (ws := ws) xl.1 (l := piece ws up x) fun _ => .rfl
    have lu := (mem_piece.mp lp).1
    have nmp : ∀ z ∈ a :: r, NmOk z := fun z hz => by
      rw [← el] at hz
      exact u.nm hn (mem_piece.mp hz).1
    intro U1 r1 e_r1 l_U1 g_r1 k_U1
    array_get_dec
    rw [el] at g_r1
    refine vMinK g_r1 nmp ?_
    rw [mn, ky_tup]
    array_get_dec
    have k01 : Kx rr S4 U1 := kU.trans (k_U1.kx _)
    refine (steps_wp hn u (nrk k01) lu).imp ?_
    rintro _ U2 ⟨rD, D, rfl, gD, b, su, k2', lD⟩
    array_get_dec
    have k02 : Kx rr S4 U2 := k01.trans (k2'.kx _)
    refine .inl ⟨_, rfl, ?_⟩
    have gR2 := k2' _ _ (k_U1 _ _ gR)
    refine lc_inv (fun j a T => a = ((piece ws up x).take j).map (trw n ws up) ∧ Kn U2 T) (by rw [List.length_map]; omega) ⟨rfl, .refl _⟩ (fun _ _ _ _ _ => trivial) (fun j a T h => by rw [h.1, List.length_map, List.length_take]; omega) ?_ ?_
    · rintro j v aa T hv ⟨rfl, kT⟩
      rw [List.getElem?_map] at hv
      obtain ⟨z, hz, rfl⟩ := Option.map_eq_some_iff.mp hv
      obtain ⟨lt2, ez⟩ := List.getElem?_eq_some_iff.mp hz
      have zp := mem_piece.mp (List.mem_of_getElem? hz)
      have tk2 : (piece ws up x).take (j + 1) = (piece ws up x).take j ++ [z] := by rw [List.take_succ_eq_append_getElem lt2, ez]
      have le : ldr n ws up z = ldr n ws up x := ldr_eq xl.1 zp.2
      have lr := ldr_up (n := n) (ws := ws) zp.1
      rw [le] at lr
      refine bn rfl ?_
      array_get_dec
      refine vIxD rfl (kT _ _ gD) rfl (dK_at b.nd (bf_mem b lr.2)) ?_
      array_get_dec
      refine (nearer_wp hn u zp.1 (nrk (k02.trans (kT.kx _))) (kT _ _ gD) (by rw [le]; exact b) su).imp ?_
      rintro _ T2 ⟨rfl, kT2⟩
      array_get_dec
      refine ⟨?_, kT.trans kT2⟩
      rw [tk2, List.map_append]
      congr 1
      show [_] = [trw n ws up z]
      unfold trw
      rw [le, ky_tup]
    · rintro aa T ⟨rfl, kT⟩
      rw [List.length_map, List.take_length]
      intro U3 r3 e_r3 l_U3 g_r3 k_U3
      array_get_dec
      have lfl : (((leads ws up up).take i).flatMap (piece ws up)).length ≤ 1000 := by
        have : ∀ l : List Str, (l.flatMap (piece ws up)).length ≤ 8 * l.length := fun l => by
          induction l with
          | nil => simp
          | cons q l ih =>
            have := piece_len (ws := ws) (x := q) u8
            rw [List.flatMap_cons, List.length_append, List.length_cons]
            omega
        have h1 := this ((leads ws up up).take i)
        have h2 := leads_len (ws := ws) (up := up) up
        rw [List.length_take] at h1
        omega
      refine vExt rfl (k_U3 _ _ (kT _ _ gR2)) g_r3 (by simp only [List.length_map]; omega) ?_
      intro U4 l_U4 g_U4 k_U4
      refine ⟨_, _, _, _, rfl, ?_, k02.trans (((kT.trans k_U3).kx _).trans k_U4)⟩
      rw [g_U4, tk, List.flatMap_append, List.map_append]
      congr 3
      simp
  · rintro ρ U ⟨a6, a7, a8, a9, rfl, gR, kU⟩
    rw [List.length_map, List.take_length] at gR
    have pm := (all_perm hn u).map (trw n ws up)
    have hs : sortT (((leads ws up up).flatMap (piece ws up)).map (trw n ws up)) = up.map (trw n ws up) := by
      refine (sortT_uniq (trw_srt hn u) pm.symm fun v hv => ?_).symm
      obtain ⟨z, hz, rfl⟩ := List.mem_map.mp hv
      exact (okV_all (trw_ok hn u ((all_perm hn u).mem_iff.mp hz)).1).1
    array_get_dec
    refine vSortGT rfl gR (fun v hv => ?_) (ok_sort (fun v hv => ?_) (fun p hp q hq => ?_) ?_) ?_
    · obtain ⟨z, _, rfl⟩ := List.mem_map.mp hv
      exact ⟨_, rfl⟩
    · obtain ⟨z, hz, rfl⟩ := List.mem_map.mp hv
      exact trw_ok hn u ((all_perm hn u).mem_iff.mp hz)
    · obtain ⟨z, _, rfl⟩ := List.mem_map.mp hp
      obtain ⟨y, _, rfl⟩ := List.mem_map.mp hq
      rfl
    · rw [List.length_map, (all_perm hn u).length_eq]
      omega
    rw [hs]
    intro V r e_r l_V g_r k_V
    array_get_dec
    refine ⟨rfl, fun q o ho => ?_⟩
    have := lt_of_at ho
    have := lt_of_at (k1 _ _ ho)
    exact k_V _ _ (kU _ _ (by omega) (k4 _ _ (k_S3 _ _ (k2 _ _ (k1 _ _ ho)))))
end
end K60
namespace K60
open PySem PySem.Spec PyProof.Rows L2 G Th AL KL Fr Od Bf
open K57 (other_ends_ other_ends_B own_best_ own_best_B feedL_ feedL_B drawL_ drawL_B keyL_ keyL_B endsL_ endsL_B)
open K57 (wireV Mb mbV Net netV pool WOk NOk NmOk endsL ends oes oes_perm mem_endsL other_wp endsL_wp keyV mkey own own_wp bsV keyL_wp vInL vInD vDictN pairs_map val_map nd_inr nd_len tl tl_inj tl_asym sortS_perm sortS_pw sortS_eq oes_in oes_nd K2 vSortGS vSortGD vSortGT ok_sort keys_map lt_of_leS Ky KyOk mkey_ok vMinGT Tf draw_wp sh_small sh_ky feed_wp)
open K37 (fmod_lt p60 p40 TxOk Sh ShL valA_put putA_len merge_app)
open K08 (ws_cut)
open K13 (vExt)
section
variable {n : Net} {up : List Str} {ws : List (Str × Str)} {S : Sto} {x y z s : Str} {B : Int}
theorem trw_eq : trw n ws up x = .tup [.str x, .tup [.int (keyN n (ldr n ws up x)).p, .int (keyN n (ldr n ws up x)).c, .str (ldr n ws up x)], .int ((dst ws up (ldr n ws up x) x : Nat) : Int), .str (who n ws up x)] := by
  unfold trw
  rw [ky_tup]
def mb1 : Val → Val
  | .tup [.str a, .int p, .int c] => .tup [.str a, .tup [.int p, .int c, .str a]]
  | _ => .non
theorem dictOf_keys (hn : NOk n) {r : Nat} {Q : Val → Sto → Prop} (h : S[r]? = some (.lst ((n.ms.map mbV).map mb1))) (q : Nw S (.dic (kyD n)) Q) : Wp (gDict [.ref r] S) Q := by
  have e : (n.ms.map mbV).map mb1 = n.ms.map fun m => .tup [.str m.name, keyV (mkey m)] := by
    rw [List.map_map]
    rfl
  rw [e] at h
  exact vDictN h (pairs_map Mb.name (fun m => keyV (mkey m)) n.ms) (nd_inr Mb.name (fun m => keyV (mkey m)) hn.nd) q
theorem dst_lt (hn : NOk n) (u : UOk n up ws) (hx : x ∈ up) : dst ws up (ldr n ws up x) x < 8 := by
  have lr := ldr_up (n := n) (ws := ws) hx
  obtain ⟨v, U, _, r, D, _, _, b, su, _⟩ := far_wp (S := []) hn u lr.1
  have h1 := bf_bound b (bf_mem b lr.2)
  have h2 := keys_len b.nd su (u.len hn)
  omega
end
end K60
namespace K62
open PySem PySem.Spec PyProof.Rows L2 G Th AL KL Fr Od Bf
open K57 (wireV Mb mbV Net netV WOk NOk NmOk endsL keyV mkey Ky KyOk tl tl_inj mem_endsL)
open K60 (UOk piece mem_piece leads mem_leads piece_len piece_nd piece_eq kyV kyV_inj kyV_pure kyV_ok keyN Nb nb_symm lead rc_symm rc_up ldr ldr_of ldr_eq ldr_up dst dst_at dst_of IsD bf_mem far_wp nrs mem_nrs who trw lead_or lead_one)
structure Tw where
  nm : Str
  k : Str
  d : Nat
  w : Str
section
variable {n : Net} {up : List Str} {ws : List (Str × Str)} {x y z s : Str} {T : List Tw}
structure TOk (n : Net) (up : List Str) (T : List Tw) : Prop where
  nm : T.map Tw.nm = up
  k : ∀ t ∈ T, t.k ∈ n.names
structure Good (n : Net) (ws : List (Str × Str)) (up : List Str) (T : List Tw) : Prop where
  key : ∀ t ∈ T, ltV (kyV n t.nm) (kyV n t.k) = false
  zero : ∀ t ∈ T, t.d = 0 → t.k = t.nm ∧ t.w = t.nm
  next : ∀ t ∈ T, 0 < t.d → Nb ws up t.nm t.w ∧ ∃ u ∈ T, u.nm = t.w ∧ u.k = t.k ∧ u.d + 1 = t.d
  far : ∀ t ∈ T, ∀ u ∈ T, Nb ws up t.nm u.nm → u.k = t.k ∧ u.d ≤ t.d + 1 ∧ t.d ≤ u.d + 1
theorem TOk.get (h : TOk n up T) (hx : x ∈ up) : ∃ t ∈ T, t.nm = x := by
  rw [← h.nm] at hx
  exact List.mem_map.mp hx
theorem TOk.mem (h : TOk n up T) {t : Tw} (ht : t ∈ T) : t.nm ∈ up := by
  rw [← h.nm]
  exact List.mem_map_of_mem ht
theorem nm_one : ∀ {T : List Tw}, (T.map Tw.nm).Nodup → ∀ {t u : Tw}, t ∈ T → u ∈ T → t.nm = u.nm → t = u
  | [], _, _, _, h, _, _ => nomatch h
  | a :: T, nd, t, u, ht, hu, e => by
    rw [List.map_cons, List.nodup_cons] at nd
    rcases List.mem_cons.mp ht with h1 | h1 <;> rcases List.mem_cons.mp hu with h2 | h2
    · rw [h1, h2]
    · exact absurd (by rw [← h1, e]; exact List.mem_map_of_mem h2) nd.1
    · exact absurd (by rw [← h2, ← e]; exact List.mem_map_of_mem h1) nd.1
    · exact nm_one nd.2 h1 h2 e
theorem TOk.one (hn : NOk n) (u : UOk n up ws) (h : TOk n up T) {t r : Tw} (ht : t ∈ T) (hr : r ∈ T) (e : t.nm = r.nm) : t = r := nm_one (by rw [h.nm]; exact u.nd hn) ht hr e
theorem Good.same (g : Good n ws up T) (ok : TOk n up T) {t : Tw} (ht : t ∈ T) {k : Nat} (w : W (Nb ws up) t.nm k y) : ∀ u ∈ T, u.nm = y → (hn : NOk n) → UOk n up ws → u.k = t.k := by
  induction w with
  | nil => exact fun u hu e hn uo => by rw [ok.one hn uo hu ht e]
  | @snoc k a b w e ih =>
    intro u hu eu hn uo
    obtain ⟨r, hr, er⟩ := ok.get (rc_up (ok.mem ht) ⟨k, w⟩)
    have := ih r hr er hn uo
    rw [← this]
    exact (g.far r hr u hu (by rw [er, eu]; exact e)).1

end
end K62
namespace K62
open PySem PySem.Spec PyProof.Rows L2 G Th AL KL Fr Od Bf
open K57 (other_ends_ other_ends_B own_best_ own_best_B feedL_ feedL_B drawL_ drawL_B keyL_ keyL_B endsL_ endsL_B)
open K57 (wireV Mb mbV Net netV WOk NOk NmOk endsL keyV mkey Ky KyOk tl tl_inj mem_endsL vInL vInD nd_len)
open K60 (near_names_ near_names_B own_keys_ own_keys_B steps_from_ steps_from_B pieces_of_ pieces_of_B nearer_ nearer_B tree_paper_ tree_paper_B)
open K60 (UOk piece mem_piece kyV kyV_inj kyV_pure kyV_ok ky_tup keyN Nb nb_symm ldr dst nrs trw Nr near_names_wp own_keys_wp kyD key_at nbl valA_at putA_no toD_dV toD_dVs)
open K37 (fmod_lt p60 p40 TxOk Sh ShL valA_put putA_len merge_app)
open K08 (ws_cut)
theorem eqv_pure {x y : Val} (hx : pureV x = true) (hy : pureV y = true) (h : smV x y = true) : PyData.eqv (dV x) (dV y) = true ↔ x = y := by
  rw [eqv_iff _ _ h]
  exact ⟨fun e => trV_inj x y hx hy e, fun e => by rw [e]⟩
theorem vEqDp {S : Sto} {Q : Val → Sto → Prop} {xs ys : List Val} {b : Bool} (hx : okV (.tup xs) = true) (hy : okV (.tup ys) = true) (dx : (dV (.tup xs)).depth < 30) (dy : (dV (.tup ys)).depth < 30) (hs : smV (.tup xs) (.tup ys) = true) (hb : b = true ↔ Val.tup xs = .tup ys) (q : Q (.bl b) S) : Wp (gEq (.tup xs) (.tup ys) S) Q := by
  have ox := okV_all hx
  have oy := okV_all hy
  have e : eqA S (.tup xs) (.tup ys) = some b := by
    have e0 : eqS (.tup xs) (.tup ys) = none := rfl
    unfold eqA
    rw [e0]
    dsimp only
    rw [toD_dV _ 40 ox.1 (by omega), toD_dV _ 40 oy.1 (by omega)]
    dsimp only
    rw [if_pos ⟨by unfold SeqAt.shaped; rw [ox.2.1, decide_eq_true (by omega)]; rfl, by unfold SeqAt.shaped; rw [oy.2.1, decide_eq_true (by omega)]; rfl⟩]
    congr 1
    rw [Bool.eq_iff_iff, hb]
    exact eqv_pure ox.1 oy.1 hs
  refine ⟨_, S, ?_, q⟩
  unfold gEq
  rw [e]
  rfl
theorem vNeDp {S : Sto} {Q : Val → Sto → Prop} {xs ys : List Val} {b : Bool} (hx : okV (.tup xs) = true) (hy : okV (.tup ys) = true) (dx : (dV (.tup xs)).depth < 30) (dy : (dV (.tup ys)).depth < 30) (hs : smV (.tup xs) (.tup ys) = true) (hb : b = true ↔ Val.tup xs ≠ .tup ys) (q : Q (.bl b) S) : Wp (gNe (.tup xs) (.tup ys) S) Q := by
  have : (!b) = true ↔ Val.tup xs = .tup ys := by
    cases b with
    | true => exact ⟨fun h => absurd h (by decide), fun h => absurd h (hb.mp rfl)⟩
    | false => exact ⟨fun _ => Classical.byContradiction fun h => absurd (hb.mpr h) (by decide), fun _ => rfl⟩
  obtain ⟨v, S', e, hv, hS⟩ := vEqDp (S := S) (Q := fun v T => v = .bl (!b) ∧ S = T) hx hy dx dy hs this ⟨rfl, rfl⟩
  subst hv hS
  unfold gEq at e
  cases hh : eqA S (.tup xs) (.tup ys) with
  | none => rw [hh] at e; cases e
  | some c =>
    rw [hh] at e
    have hc : c = !b := by
      have e : some (Val.bl c, S) = some (Val.bl (!b), S) := e
      injection e with e
      injection e with e _
      injection e
    refine ⟨_, S, ?_, q⟩
    unfold gNe
    rw [hh, hc]
    show some (Val.bl (!!b), S) = _
    rw [Bool.not_not]

section
variable {n : Net} {up : List Str} {ws : List (Str × Str)} {x y z s : Str} {T : List Tw} {S : Sto}
end
end K62
namespace RO
open PySem PySem.Spec PyProof.Rows L2 G Th AL
section
variable {ρ : Rho} {S : Sto} {Q : Val → Sto → Prop} {N : Rho → Sto → Prop} {R : Val → Sto → Prop} {C f : Str} {g o v : EF} {ga gk : AF} {F : FA} {k : Nat}
theorem wFld (z : Wp (g ρ S) fun x T => ∃ n fs v, x = .ref n ∧ T[n]? = some (.obj C fs) ∧ fs.lookup f = some v ∧ Q v T) : Wp (eFld C f g ρ S) Q := by
  obtain ⟨x, T, e, n, fs, v, rfl, h1, h2, q⟩ := z
  exact ⟨v, T, by unfold eFld; rw [e]; simp only [Option.bind_some, objAt_of h1, h2, Option.map_some], q⟩
theorem wMe {m : Str} (z : Wp (o ρ S) fun x T => ∃ n fs, x = .ref n ∧ T[n]? = some (.obj C fs) ∧ fs.lookup m = none ∧ Wp (ga ρ T) fun vs T2 => Sd (vs.length + 1 = k) (Wp (F (.ref n :: vs) T2) Q)) : Wp (eMe C m F k o ga ρ S) Q := by
  obtain ⟨x, T, e, n, fs, rfl, h1, h2, vs, T2, e2, ⟨hl, y, T3, e3, q⟩⟩ := z
  exact ⟨y, T3, by unfold eMe; rw [e]; simp only [Option.bind_some, objAt_of h1, h2, if_true, e2, if_pos hl, e3], q⟩
theorem wMkK {n m : Nat} {gA : List Val → List Val → List Val} (z : Wp (ga ρ S) fun as T => Wp (gk ρ T) fun bs T2 => Sd (as.length = n ∧ bs.length = m) (Wp (F (gA (.ref T2.length :: as) bs) (T2 ++ [.obj C []])) fun x T3 => x = .non ∧ Q (.ref T2.length) T3)) : Wp (eMkK C F n m gA ga gk ρ S) Q := by
  obtain ⟨as, T, e, bs, T2, e2, hl, x, T3, e3, rfl, q⟩ := z
  exact ⟨_, T3, by unfold eMkK; rw [e]; simp only [Option.bind_some, e2, if_pos hl, e3], q⟩
theorem ws_fldS (z : Wp (v ρ S) fun y S1 => Wp (o ρ S1) fun x S2 => ∃ n fs, x = .ref n ∧ S2[n]? = some (.obj C fs) ∧ fs.length < 900 ∧ Pt S2 n (.obj C (putV f y fs)) (N ρ)) : Ws (sFldS C f o v ρ S) N R := by
  obtain ⟨y, S1, e, x, S2, e2, n, fs, rfl, h, hl, p⟩ := z
  refine ⟨?_⟩
  unfold sFldS
  rw [e]
  dsimp only
  rw [e2]
  dsimp only
  rw [objAt_of h]
  dsimp only
  rw [if_pos hl]
  exact p.use h
theorem ws_fldX (z : Wp (v ρ S) fun y S1 => (isX y = none ∧ Wp (o ρ S1) fun x S2 => ∃ n fs, x = .ref n ∧ S2[n]? = some (.obj C fs) ∧ fs.length < 900 ∧ Pt S2 n (.obj C (putV f y fs)) (N ρ)) ∨ (∃ c vs, isX y = some (c, vs) ∧ R y S1)) : Ws (sFldX C f o v ρ S) N R := by
  obtain ⟨y, S1, e, ⟨hx, x, S2, e2, n, fs, rfl, h, hl, p⟩ | ⟨c, vs, hx, q⟩⟩ := z
  · refine ⟨?_⟩
    unfold sFldX
    rw [e]
    dsimp only
    rw [hx]
    dsimp only
    rw [e2]
    dsimp only
    rw [objAt_of h]
    dsimp only
    rw [if_pos hl]
    exact p.use h
  · refine ⟨?_⟩
    unfold sFldX
    rw [e]
    dsimp only
    rw [hx]
    exact q
end
end RO
namespace K58
open PySem PySem.Spec PyProof.Rows L2 G Th AL KL Fr Od RO
open K57 (other_ends_ other_ends_B own_best_ own_best_B row_behind_ row_behind_B state_round_ state_round_B feedL_ feedL_B drawL_ drawL_B keyL_ keyL_B endsL_ endsL_B turnedL_ turnedL_B)
open K56 (first_state_ first_state_B row_up_ row_up_B state_up_ state_up_B)
open K57 (wireV Mb mbV Net netV WOk NOk NmOk keyV Ky KyOk Tf draw_wp sh_st sh_row Rw rwV stV SOk RwOk BsOk HdOk Bs Hd hdV boV bsV bs_okV K2 feed_wp own mkey keyL_wp vInL vMinG2 vMaxB2 vSortGT ok_sort wire_ok wire_sm rnd rnd_ok rowN round_wp turned_wp pool nm_pool)
open K56 (up upR rowU up_ok fst_ok first_wp state_up_wp lc_all up_len up_nm isX_st own_ok)
open K62 (vNeDp vEqDp)
open K37 (fmod_lt p60 p40 TxOk Sh ShL)
open K08 (ws_cut)
section
variable {n : Net} {s : List Rw} {ws W : List (Str × Str)} {S T : Sto} {x y : Str} {most age : Int} {r rt k : Nat} {Q : Val → Sto → Prop}
def rF (n : Net) (most age : Int) (s : List Rw) (ws : List (Str × Str)) (rt : Nat) : List (Str × Val) := [("net", netV n), ("most", .int most), ("age", .int age), ("state", stV s), ("wires_up", .tup (ws.map wireV)), ("turns", .ref rt)]
structure Rn (S : Sto) (r rt : Nat) (n : Net) (most age : Int) (s : List Rw) (ws : List (Str × Str)) (k : Nat) : Prop where
  ob : S[r]? = some (.obj "NetRun" (rF n most age s ws rt))
  tn : ∃ ts, S[rt]? = some (.lst ts) ∧ ts.length = k
  ne : r ≠ rt
theorem Rn.kn (h : Rn S r rt n most age s ws k) (j : Kn S T) : Rn T r rt n most age s ws k := ⟨j _ _ h.ob, h.tn.imp fun _ ⟨a, b⟩ => ⟨j _ _ a, b⟩, h.ne⟩
theorem Rn.kx {q : Nat} (h : Rn S r rt n most age s ws k) (j : Kx q S T) (h1 : r ≠ q) (h2 : rt ≠ q) : Rn T r rt n most age s ws k := ⟨j _ _ h1 h.ob, h.tn.imp fun _ ⟨a, b⟩ => ⟨j _ _ h2 a, b⟩, h.ne⟩
theorem f_net : (rF n most age s ws rt).lookup ("net" : Str) = some (netV n) := rfl
theorem f_most : (rF n most age s ws rt).lookup ("most" : Str) = some (.int most) := rfl
theorem f_age : (rF n most age s ws rt).lookup ("age" : Str) = some (.int age) := rfl
theorem f_state : (rF n most age s ws rt).lookup ("state" : Str) = some (stV s) := rfl
theorem f_wires : (rF n most age s ws rt).lookup ("wires_up" : Str) = some (.tup (ws.map wireV)) := rfl
theorem f_turns : (rF n most age s ws rt).lookup ("turns" : Str) = some (.ref rt) := rfl
theorem init_wp (h : S[r]? = some (.obj "NetRun" [])) (l8 : n.ms.length ≤ 8) : Wp (NetRun_init_ [.ref r, netV n, .int most, .int age] S) fun v T => v = .non ∧ (∃ rt, Rn T r rt n most age (n.ms.map K56.fst) n.ws 0 ∧ S.length ≤ rt) ∧ Kx r S T ∧ S.length ≤ T.length := by
  have lr := lt_of_at h
  refine AL.wf ?_; simp only [List.map_cons, List.map_nil, List.length_cons, List.length_nil, Nat.reduceAdd, Nat.reduceSub, List.replicate_succ, List.replicate_zero, List.cons_append, List.nil_append]; unfold NetRun_init_B; array_get_dec
  refine ws_fldS (wv rfl (wv rfl ⟨_, _, rfl, h, by decide, ?_⟩))
  intro U1 l_U1 g_U1 k_U1
  refine ws_seq (ws_fldS (wv rfl (wv rfl ⟨_, _, rfl, g_U1, of_decide_eq_true rfl, ?_⟩)))
  intro U2 l_U2 g_U2 k_U2
  refine ws_seq (ws_fldS (wv rfl (wv rfl ⟨_, _, rfl, g_U2, of_decide_eq_true rfl, ?_⟩)))
  intro U3 l_U3 g_U3 k_U3
  refine ws_seq (ws_fldS ?_)
  array_get_dec
  refine (first_wp l8).imp ?_
  rintro _ U4 ⟨rfl, k4⟩
  refine wv rfl ⟨_, _, rfl, k4 _ _ g_U3, of_decide_eq_true rfl, ?_⟩
  intro U5 l_U5 g_U5 k_U5
  refine ws_seq (ws_fldS ?_)
  array_get_dec
  refine ⟨_, _, rfl, g_U5, of_decide_eq_true rfl, ?_⟩
  intro U6 l_U6 g_U6 k_U6
  refine ws_fldS ?_
  array_get_dec
  intro U7 rt e_rt l_U7 g_rt k_U7
  refine wv rfl ⟨_, _, rfl, k_U7 _ _ g_U6, of_decide_eq_true rfl, ?_⟩
  intro U8 l_U8 g_U8 k_U8
  have l4 := k4.len
  have kx : Kx r S U8 := fun q o hq e => k_U8 _ _ hq (k_U7 _ _ (k_U6 _ _ hq (k_U5 _ _ hq (k4 _ _ (k_U3 _ _ hq (k_U2 _ _ hq (k_U1 _ _ hq e)))))))
  exact ⟨trivial, ⟨rt, ⟨g_U8, ⟨[], k_U8 _ _ (by omega) g_rt, rfl⟩, by omega⟩, by omega⟩, kx, by omega⟩
instance kyDec : DecidableEq K57.Ky := fun a b => if h : a.p = b.p ∧ a.c = b.c ∧ a.nm = b.nm then isTrue (by
  obtain ⟨_, _, _⟩ := a
  obtain ⟨_, _, _⟩ := b
  obtain ⟨rfl, rfl, rfl⟩ := h
  rfl) else isFalse fun e => h (e ▸ ⟨rfl, rfl, rfl⟩)
instance bsDec : DecidableEq K57.Bs := fun a b => if h : a.key = b.key ∧ a.st = b.st ∧ a.who = b.who then isTrue (by
  obtain ⟨_, _, _⟩ := a
  obtain ⟨_, _, _⟩ := b
  obtain ⟨rfl, rfl, rfl⟩ := h
  rfl) else isFalse fun e => h (e ▸ ⟨rfl, rfl, rfl⟩)
theorem bs_dep (c : Bs) : (dV (bsV c)).depth < 30 := by
  show (PyData.tuple [.tuple [.int _, .int _, .str _], .int _, .str _]).depth < 30
  simp [PyData.depth, PyData.depthAll]
theorem bs_toD {c : Bs} (h : okV (bsV c) = true) : toD S 40 (bsV c) = some (dV (bsV c)) ∧ SeqAt.shaped (dV (bsV c)) = true := by
  have ox := okV_all h
  have d := bs_dep c
  refine ⟨K60.toD_dV _ 40 ox.1 (by omega), ?_⟩
  unfold SeqAt.shaped
  rw [ox.2.1, decide_eq_true (by omega)]
  rfl
theorem non_eq {c : Bs} (h : okV (bsV c) = true) : eqA S .non (bsV c) = some false ∧ eqA S (bsV c) .non = some false := by
  obtain ⟨h1, h2⟩ := bs_toD (S := S) h
  exact ⟨K56.eqA_of (d := .none) rfl rfl h1 (by decide) h2, K56.eqA_of (e := .none) rfl h1 rfl h2 (by decide)⟩
theorem vNeA {x y : Val} {b : Bool} (h : eqA S x y = some b) (q : Q (.bl (!b)) S) : Wp (gNe x y S) Q := ⟨_, S, by unfold gNe; rw [h]; rfl, q⟩
theorem vEqBo {a b : Option Bs} (ha : ∀ c, a = some c → okV (bsV c) = true) (hb : ∀ c, b = some c → okV (bsV c) = true) (q : Q (.bl (decide (a ≠ b))) S) : Wp (gNe (boV a) (boV b) S) Q := by
  have dep : ∀ c : Bs, (dV (bsV c)).depth < 30 := fun c => by
    show (PyData.tuple [.tuple [.int _, .int _, .str _], .int _, .str _]).depth < 30
    simp [PyData.depth, PyData.depthAll]
  cases a with
  | none =>
    cases b with
    | none => exact vNe (c := true) rfl (by simpa using q)
    | some b => exact vNeA (non_eq (hb b rfl)).1 (by simpa using q)
  | some a =>
    cases b with
    | none => exact vNeA (non_eq (ha a rfl)).2 (by simpa using q)
    | some b =>
      refine vNeDp (b := decide (some a ≠ some b)) (ha a rfl) (hb b rfl) (dep a) (dep b) rfl ?_ q
      rw [decide_eq_true_iff]
      refine not_congr ?_
      constructor
      · intro h
        cases h
        rfl
      · intro h
        obtain ⟨⟨a1, a2, a3⟩, a4, a5⟩ := a
        obtain ⟨⟨b1, b2, b3⟩, b4, b5⟩ := b
        simp only [bsV, keyV, Val.tup.injEq, List.cons.injEq, Val.int.injEq, Val.str.injEq, and_true] at h
        obtain ⟨⟨h1, h2, h3⟩, h4, h5⟩ := h
        subst h1 h2 h3 h4 h5
        rfl
def chg (a b : List Rw) : Nat := ((b.zip a).filter fun p => decide (p.1.best ≠ p.2.best)).length
theorem bs_ok (hn : NOk n) {b : Bs} (h : BsOk n.names b) : okV (bsV b) = true := bs_okV h.key.nm (hn.nm h.who)
theorem row_bs (hn : NOk n) (so : SOk n s) {q : Rw} (hq : q ∈ s) : ∀ c, q.best = some c → okV (bsV c) = true := fun c hc => bs_ok hn ((so.row q hq).best c hc)
theorem state_now_wp (h : Rn S r rt n most age s ws k) : Wp (NetRun_state_now_ [.ref r] S) fun v T => v = stV s ∧ S = T := by
  refine AL.wf ?_; simp only [List.map_cons, List.map_nil, List.length_cons, List.length_nil, Nat.reduceAdd, Nat.reduceSub, List.replicate_succ, List.replicate_zero, List.cons_append, List.nil_append]; unfold NetRun_state_now_B; array_get_dec
  exact wFld (wv rfl ⟨_, _, _, rfl, h.ob, f_state, rfl, rfl⟩)
theorem set_up_wp (h : Rn S r rt n most age s ws k) (hn : NOk n) (so : SOk n s) {t : Bool} : Wp (NetRun_set_up_ [.ref r, .str x, .bl t] S) fun v T => ((x ∈ n.names ∧ v = .non ∧ Rn T r rt n most age (up n s x t) ws k) ∨ (x ∉ n.names ∧ v = xv "NoHouse" [.str x] ∧ Rn T r rt n most age s ws k)) ∧ Kx r S T ∧ S.length ≤ T.length := by
  refine AL.wf ?_; simp only [List.map_cons, List.map_nil, List.length_cons, List.length_nil, Nat.reduceAdd, Nat.reduceSub, List.replicate_succ, List.replicate_zero, List.cons_append, List.nil_append]; unfold NetRun_set_up_B; array_get_dec
  refine ws_fldX ?_
  array_get_dec
  refine wFld (wv rfl ⟨_, _, _, rfl, h.ob, f_net, ?_⟩)
  array_get_dec
  refine wFld (wv rfl ⟨_, _, _, rfl, h.ob, f_state, ?_⟩)
  array_get_dec
  refine (state_up_wp hn so).imp ?_
  rintro v T ⟨⟨e, rfl⟩ | ⟨e, rfl⟩, j⟩
  · have h2 := h.kn j
    refine .inl ⟨isX_st _, wv rfl ⟨_, _, rfl, h2.ob, of_decide_eq_true rfl, ?_⟩⟩
    intro U l_U g_U k_U
    refine ⟨.inl ⟨e, trivial, g_U, ?_, h.ne⟩, fun q o hq hs => k_U _ _ hq (j _ _ hs), by have := j.len; omega⟩
    exact h2.tn.imp fun _ ⟨a, b⟩ => ⟨k_U _ _ (Ne.symm h.ne) a, b⟩
  · exact .inr ⟨_, _, rfl, .inr ⟨e, rfl, h.kn j⟩, j.kx _, j.len⟩
end
end K58
namespace K58
open PySem PySem.Spec PyProof.Rows L2 G Th AL KL Fr Od RO
open K57 (other_ends_ other_ends_B own_best_ own_best_B row_behind_ row_behind_B state_round_ state_round_B feedL_ feedL_B drawL_ drawL_B keyL_ keyL_B endsL_ endsL_B turnedL_ turnedL_B)
open K56 (first_state_ first_state_B row_up_ row_up_B state_up_ state_up_B)
open K57 (wireV Mb mbV Net netV WOk NOk NmOk keyV Ky KyOk Tf draw_wp sh_st sh_row Rw rwV stV SOk RwOk BsOk HdOk Bs Hd hdV boV bsV bs_okV K2 feed_wp own mkey keyL_wp vInL vMinG2 vMaxB2 vSortGT ok_sort wire_ok wire_sm rnd rnd_ok rowN round_wp turned_wp pool nm_pool nd_len)
open K56 (up upR rowU up_ok fst_ok first_wp state_up_wp lc_all up_len up_nm isX_st own_ok)
open K62 (vNeDp vEqDp)
open K37 (fmod_lt p60 p40 TxOk Sh ShL)
open K08 (ws_cut)
section
variable {n : Net} {s : List Rw} {ws W : List (Str × Str)} {S T : Sto} {x y : Str} {most age : Int} {r rt k : Nat} {Q : Val → Sto → Prop}

theorem lc_fil {α : Type} {ok : Sto → Prop} {p : Pat} {t : BF} {f : EF} {ρ : Rho} {A : List Val → Sto → Prop} (hok : ok S) (L : List α) (k : α → Val) (b : α → Bool) (g : α → Val) (hl : L.length < 900000)
    (h : ∀ a ∈ L, Bn (p.bind (k a) ρ) fun ρ1 => Wp (t ρ1 S) fun c T => c = b a ∧ T = S ∧ (b a = true → Wp (f ρ1 S) fun y T => y = g a ∧ T = S)) (q : A ((L.filter b).map g) S) : Wp (lcR p t f ok ρ (L.map k) [] S) A := by
  refine lc_inv (fun i a V => a = ((L.take i).filter b).map g ∧ V = S) (by rw [List.length_map]; omega) ⟨rfl, rfl⟩ (fun i a V _ ⟨_, e⟩ => e ▸ hok) (fun i a V ⟨e, _⟩ => ?_) ?_ ?_
  · rw [e, List.length_map]
    have := List.length_filter_le b (L.take i)
    rw [List.length_take] at this
    omega
  · rintro i v a V hv ⟨rfl, rfl⟩
    rw [List.getElem?_map] at hv
    obtain ⟨x, hx, rfl⟩ := Option.map_eq_some_iff.mp hv
    obtain ⟨lt, ex⟩ := List.getElem?_eq_some_iff.mp hx
    obtain ⟨ρ1, hb, z⟩ := h x (List.mem_of_getElem? hx)
    refine ⟨ρ1, hb, z.imp fun c T ⟨c1, c2, z2⟩ => ?_⟩
    subst c1 c2
    have tk : L.take (i + 1) = L.take i ++ [x] := by rw [List.take_succ_eq_append_getElem lt, ex]
    rw [tk, List.filter_append, List.map_append]
    refine Br.of (fun c => ?_) (fun c => ?_)
    · refine (z2 c).imp fun y U ⟨y1, y2⟩ => ⟨?_, y2⟩
      rw [List.filter_cons_of_pos c, y1]
      rfl
    · rw [List.filter_cons_of_neg (by simpa using c)]
      exact ⟨by simp, rfl⟩
  · rintro a V ⟨rfl, rfl⟩
    rw [List.length_map, List.take_length]
    exact q
theorem vNeW {a b : Str × Str} (ha : NmOk a.1 ∧ NmOk a.2) (hb : NmOk b.1 ∧ NmOk b.2) (q : Q (.bl (decide (a ≠ b))) S) : Wp (gNe (wireV a) (wireV b) S) Q := by
  have dep : ∀ c : Str × Str, (dV (wireV c)).depth < 30 := fun c => by
    show (PyData.tuple [.str _, .str _]).depth < 30
    simp [PyData.depth, PyData.depthAll]
  refine vNeDp (b := decide (a ≠ b)) (wire_ok ha.1 ha.2).1 (wire_ok hb.1 hb.2).1 (dep a) (dep b) (wire_sm a b) ?_ q
  rw [decide_eq_true_iff]
  refine not_congr ⟨fun h => by rw [h], fun h => ?_⟩
  obtain ⟨a1, a2⟩ := a
  obtain ⟨b1, b2⟩ := b
  simp only [Val.tup.injEq, List.cons.injEq, Val.str.injEq, and_true] at h
  rw [h.1, h.2]
theorem nm_okW {w : Str × Str} (h : NmOk w.1 ∧ NmOk w.2) : okW w = true := by
  unfold okW
  rw [h.1.1, h.2.1, decide_eq_true (Nat.le_trans h.1.2 (by decide)), decide_eq_true (Nat.le_trans h.2.2 (by decide))]
  rfl

structure Wr (n : Net) (W ws : List (Str × Str)) : Prop where
  nd : W.Nodup
  sub : ∀ w ∈ W, w ∈ n.ws
  pm : ws.Perm W
  st : Srt (ws.map wireV)
theorem Wr.wok (h : Wr n W ws) (hn : NOk n) : WOk n.names W := ⟨h.nd, Nat.le_trans (nd_len h.nd h.sub) hn.w.len, fun w hw => hn.w.mem w (h.sub w hw)⟩
theorem Wr.wok' (h : Wr n W ws) (hn : NOk n) : WOk n.names ws := (h.wok hn).perm h.pm
theorem w_nm (hn : NOk n) (w : WOk n.names ws) : ∀ p ∈ ws, NmOk p.1 ∧ NmOk p.2 := fun p hp => ⟨hn.nm (w.mem p hp).1, hn.nm (w.mem p hp).2.1⟩
def stepW (w : Str × Str) (t : Bool) (W : List (Str × Str)) : List (Str × Str) := (W.filter fun p => decide (p ≠ w)) ++ if t = true then [w] else []
theorem stepW_perm {w : Str × Str} {t : Bool} (p : ws.Perm W) : (stepW w t ws).Perm (stepW w t W) := (p.filter _).append_right _
theorem Wr.step {w : Str × Str} {t : Bool} {us : List (Str × Str)} (h : Wr n W ws) (hw : w ∈ n.ws) (p : us.Perm (stepW w t ws)) (st : Srt (us.map wireV)) : Wr n (stepW w t W) us := by
  refine ⟨?_, fun v hv => ?_, p.trans (stepW_perm h.pm), st⟩
  · unfold stepW
    rw [List.nodup_append]
    refine ⟨h.nd.filter _, by split <;> simp, fun a ha b hb e => ?_⟩
    subst e
    have := (List.mem_filter.mp ha).2
    simp only [decide_eq_true_eq] at this
    split at hb
    · exact this (List.mem_singleton.mp hb)
    · cases hb
  · rcases List.mem_append.mp hv with hv | hv
    · exact h.sub v (List.mem_filter.mp hv).1
    · split at hv
      · rw [List.mem_singleton.mp hv]
        exact hw
      · cases hv
def mnx (a b : Str) : Str × Str := (if b.cps.toList < a.cps.toList then b else a, if a.cps.toList < b.cps.toList then b else a)
theorem mnx_nm {a b : Str} (ha : NmOk a) (hb : NmOk b) : NmOk (mnx a b).1 ∧ NmOk (mnx a b).2 := by
  unfold mnx
  constructor
  · show NmOk (if _ then _ else _)
    split <;> assumption
  · show NmOk (if _ then _ else _)
    split <;> assumption
theorem Rn.put (h : Rn S r rt n most age s ws k) {s' : List Rw} {ws' : List (Str × Str)} (j : Kx r S T) (g : T[r]? = some (.obj "NetRun" (rF n most age s' ws' rt))) : Rn T r rt n most age s' ws' k := ⟨g, h.tn.imp fun _ ⟨a, b⟩ => ⟨j _ _ (Ne.symm h.ne) a, b⟩, h.ne⟩
theorem okSortW {L : List (Str × Str)} (hL : ∀ p ∈ L, NmOk p.1 ∧ NmOk p.2) (l : L.length ≤ 100) : okSort (L.map wireV) = true := ok_sort (fun v hv => by
    obtain ⟨p, hp, rfl⟩ := List.mem_map.mp hv
    exact wire_ok (hL p hp).1 (hL p hp).2) (fun a ha b hb => by
    obtain ⟨p, _, rfl⟩ := List.mem_map.mp ha
    obtain ⟨q, _, rfl⟩ := List.mem_map.mp hb
    exact wire_sm p q) (by rw [List.length_map]; omega)
theorem stepW_len {w : Str × Str} {t : Bool} : (stepW w t W).length ≤ W.length + 1 := by
  unfold stepW
  have h1 := List.length_filter_le (fun p => decide (p ≠ w)) W
  rw [List.length_append]
  generalize (W.filter fun p => decide (p ≠ w)).length = m at h1 ⊢
  split
  · show m + 1 ≤ _
    omega
  · show m + 0 ≤ _
    omega
theorem stepW_nm {w : Str × Str} {t : Bool} (hW : ∀ p ∈ W, NmOk p.1 ∧ NmOk p.2) (hw : NmOk w.1 ∧ NmOk w.2) : ∀ p ∈ stepW w t W, NmOk p.1 ∧ NmOk p.2 := fun p hp => by
  rcases List.mem_append.mp hp with hp | hp
  · exact hW p (List.mem_filter.mp hp).1
  · split at hp
    · rw [List.mem_singleton.mp hp]
      exact hw
    · cases hp
theorem set_wire_wp (h : Rn S r rt n most age s ws k) (hn : NOk n) (hw : Wr n W ws) {a b : Str} (na : NmOk a) (nb : NmOk b) {t : Bool} : Wp (NetRun_set_wire_ [.ref r, .str a, .str b, .bl t] S) fun v T =>
    ((mnx a b ∈ n.ws ∧ v = .non ∧ ∃ us, Rn T r rt n most age s us k ∧ Wr n (stepW (mnx a b) t W) us) ∨ (mnx a b ∉ n.ws ∧ v = xv "NoLink" [.tup [.str a, .str b]] ∧ Rn T r rt n most age s ws k)) ∧ Kx r S T ∧ S.length ≤ T.length := by
  have wo := hw.wok' hn
  have wnm := w_nm hn wo
  have mn := mnx_nm na nb
  have l12 := wo.len
  refine AL.wf ?_; simp only [List.map_cons, List.map_nil, List.length_cons, List.length_nil, Nat.reduceAdd, Nat.reduceSub, List.replicate_succ, List.replicate_zero, List.cons_append, List.nil_append]; unfold NetRun_set_wire_B; array_get_dec
  refine vMinG2 rfl rfl ?_
  array_get_dec
  refine vMaxB2 rfl rfl ?_
  array_get_dec
  refine wFld (wv rfl ⟨_, _, _, rfl, h.ob, f_net, ?_⟩)
  array_get_dec
  refine vInW (p := mnx a b) (ws := n.ws) rfl rfl (nm_okW mn) (fun w hw => nm_okW (w_nm hn hn.w w hw)) (Nat.le_trans hn.w.len (by decide)) ?_
  array_get_dec
  refine Br.of (fun c => ?_) (fun c => ?_)
  · have c : mnx a b ∉ n.ws := by simpa using c
    refine ws_raise (wa1 ?_)
    array_get_dec
    exact ⟨.inr ⟨c, rfl, h⟩, .refl _ _, Nat.le_refl _⟩
  have c : mnx a b ∈ n.ws := by simpa using c
  refine ws_nil ?_
  refine ws_seq ?_
  array_get_dec
  refine wFld (wv rfl ⟨_, _, _, rfl, h.ob, f_wires, ?_⟩)
  refine .inl ⟨_, rfl, ?_⟩
  refine lc_fil trivial ws wireV (fun p => decide (p ≠ mnx a b)) wireV (by omega) (fun p hp => ?_) ?_
  · refine bn rfl ?_
    array_get_dec
    refine vNeW (wnm p hp) mn ?_
    array_get_dec
    exact ⟨rfl, rfl, fun _ => by array_get_dec; exact ⟨rfl, rfl⟩⟩
  intro U1 q e_q l_U1 g_q k_U1
  have lq : S.length = q := by omega
  have fin : ∀ {U2 : Sto} {a6 : Option Val}, U2[q]? = some (.lst ((stepW (mnx a b) t ws).map wireV)) → Kn S U2 → Ws (sFldS "NetRun" "wires_up" (eV 0) (eCall gTuple (aCons (eCall gSortedG (aCons (eV 5) aNil)) aNil)) [some (.ref r), some (.str a), some (.str b), some (.bl t), some (wireV (mnx a b)), some (.ref q), a6] U2)
      (fun ρ T => (∃ us, Rn T r rt n most age s us k ∧ Wr n (stepW (mnx a b) t W) us) ∧ Kx r S T ∧ S.length ≤ T.length) (fun _ _ => False) := by
    intro U2 a6 g2 k2
    have sl := stepW_len (W := ws) (w := mnx a b) (t := t)
    refine ws_fldS ?_
    array_get_dec
    refine vSortGT rfl g2 (fun v hv => by obtain ⟨p, _, rfl⟩ := List.mem_map.mp hv; exact ⟨_, rfl⟩) (okSortW (stepW_nm wnm mn) (by omega)) ?_
    intro U3 q3 e_q3 l_U3 g_q3 k_U3
    array_get_dec
    obtain ⟨us, pu, eu⟩ := perm_up (f := wireV) (sortT_perm ((stepW (mnx a b) t ws).map wireV)) (stepW (mnx a b) t ws) rfl
    have h3 := (h.kn k2).kn k_U3
    refine ⟨_, _, rfl, h3.ob, of_decide_eq_true rfl, ?_⟩
    intro U4 l_U4 g_U4 k_U4
    have kx : Kx r U3 U4 := k_U4
    refine ⟨⟨us, h3.put kx (by rw [g_U4, ← eu]; rfl), hw.step c pu (by rw [eu]; exact sortT_srt _)⟩, fun z o hz hs => kx _ _ hz (k_U3 _ _ (k2 _ _ hs)), by have := k2.len; omega⟩
  cases t with
  | true =>
    array_get_dec
    refine vApp rfl g_q ?_ (small (by rw [List.length_map]; have := List.length_filter_le (fun p => decide (p ≠ mnx a b)) ws; omega))
    intro U2 l_U2 g_U2 k_U2
    refine ws_cut' (fin (U2 := U2) ?_ ?_) (fun ρ T ⟨⟨us, h1, h2⟩, k⟩ => ⟨.inl ⟨c, by trivial, us, h1, h2⟩, k⟩) (fun _ _ z => z.elim)
    · rw [g_U2]
      unfold stepW
      rw [List.map_append]
      rfl
    · exact fun z o hs => k_U2 _ _ (by have := lt_of_at hs; omega) (k_U1 _ _ hs)
  | false =>
    array_get_dec
    refine ws_cut' (fin (U2 := U1) ?_ k_U1) (fun ρ T ⟨⟨us, h1, h2⟩, k⟩ => ⟨.inl ⟨c, by trivial, us, h1, h2⟩, k⟩) (fun _ _ z => z.elim)
    rw [g_q]
    unfold stepW
    simp
theorem zip2 : ∀ (a b : List Rw), zipV (a.map rwV) (b.map rwV) = (a.zip b).map fun p => .tup [rwV p.1, rwV p.2]
  | [], _ => rfl
  | _ :: _, [] => rfl
  | p :: a, q :: b => by
    show _ = _ :: ((a.zip b).map fun p => Val.tup [rwV p.1, rwV p.2])
    rw [← zip2 a b]
    rfl
theorem go_round_wp (h : Rn S r rt n most age s ws k) (hn : NOk n) (so : SOk n s) (w : WOk n.names ws) (a4 : age ≤ 4) (m9 : most ≤ 9) (hk : k < 1000) : Wp (NetRun_go_round_ [.ref r] S) fun v T =>
    v = .int ((chg s (rnd n s ws most age) : Nat) : Int) ∧ Rn T r rt n most age (rnd n s ws most age) ws (k + 1) ∧ K2 r rt S T ∧ S.length ≤ T.length := by
  have so2 := rnd_ok hn so w a4 m9
  have ls := up_len so
  have ls2 := up_len so2
  have l8 := hn.len
  refine AL.wf ?_; simp only [List.map_cons, List.map_nil, List.length_cons, List.length_nil, Nat.reduceAdd, Nat.reduceSub, List.replicate_succ, List.replicate_zero, List.cons_append, List.nil_append]; unfold NetRun_go_round_B; array_get_dec
  refine wFld (wv rfl ⟨_, _, _, rfl, h.ob, f_net, ?_⟩)
  array_get_dec
  refine wFld (wv rfl ⟨_, _, _, rfl, h.ob, f_state, ?_⟩)
  array_get_dec
  refine wFld (wv rfl ⟨_, _, _, rfl, h.ob, f_wires, ?_⟩)
  array_get_dec
  refine wFld (wv rfl ⟨_, _, _, rfl, h.ob, f_most, ?_⟩)
  array_get_dec
  refine wFld (wv rfl ⟨_, _, _, rfl, h.ob, f_age, ?_⟩)
  array_get_dec
  refine (round_wp hn so w a4 m9 (.inl rfl)).imp ?_
  rintro _ S1 ⟨rfl, k1⟩
  have h1 := h.kn k1
  array_get_dec
  refine wFld (wv rfl ⟨_, _, _, rfl, h1.ob, f_state, ?_⟩)
  array_get_dec
  refine ⟨_, _, rfl, ?_⟩
  rw [zip2]
  refine lc_fil trivial ((rnd n s ws most age).zip s) (fun p => .tup [rwV p.1, rwV p.2]) (fun p => decide (p.1.best ≠ p.2.best)) (fun p => rwV p.1) (by rw [List.length_zip]; omega) (fun p hp => ?_) ?_
  · have hp := List.of_mem_zip hp
    refine bn rfl ?_
    array_get_dec
    refine vEqBo (row_bs hn so2 hp.1) (row_bs hn so hp.2) ?_
    array_get_dec
    exact ⟨rfl, rfl, fun _ => by array_get_dec; exact ⟨rfl, rfl⟩⟩
  intro S2 q e_q l_S2 g_q k_S2
  array_get_dec
  rw [List.length_map]
  have h2 := h1.kn k_S2
  obtain ⟨ts, t1, t2⟩ := h2.tn
  refine ws_fldS ?_
  array_get_dec
  refine ⟨_, _, rfl, h2.ob, of_decide_eq_true rfl, ?_⟩
  intro S3 l_S3 g_S3 k_S3
  have h3 : Rn S3 r rt n most age (rnd n s ws most age) ws k := h2.put k_S3 (by rw [g_S3]; rfl)
  array_get_dec
  refine wFld (wv rfl ⟨_, _, _, rfl, h3.ob, f_turns, ?_⟩)
  array_get_dec
  have gl := k_S3 _ _ (Ne.symm h.ne) t1
  refine sd (by simp only [isL, gl]) ?_
  array_get_dec
  refine vApp rfl gl ?_ (small (by omega))
  intro S4 l_S4 g_S4 k_S4
  refine ⟨rfl, ⟨k_S4 _ _ h.ne h3.ob, ⟨_, g_S4, by rw [List.length_append, t2]; rfl⟩, h.ne⟩, fun z o h1 h2 e => k_S4 _ _ h2 (k_S3 _ _ h1 (k_S2 _ _ (k1 _ _ e))), ?_⟩
  have := k1.len
  omega
end
end K58
namespace K58
open PySem PySem.Spec PyProof.Rows L2 G Th AL KL Fr Od RO
open K57 (other_ends_ other_ends_B own_best_ own_best_B row_behind_ row_behind_B state_round_ state_round_B feedL_ feedL_B drawL_ drawL_B keyL_ keyL_B endsL_ endsL_B turnedL_ turnedL_B)
open K56 (first_state_ first_state_B row_up_ row_up_B state_up_ state_up_B)
open K57 (wireV Mb mbV Net netV WOk NOk NmOk keyV Ky KyOk Tf draw_wp sh_st sh_row Rw rwV stV SOk RwOk BsOk HdOk Bs Hd hdV boV bsV bs_okV K2 feed_wp own mkey keyL_wp vInL vMinG2 vMaxB2 vSortGT ok_sort wire_ok wire_sm rnd rnd_ok rowN round_wp turned_wp pool nm_pool nd_len)
open K56 (up upR rowU up_ok fst_ok first_wp state_up_wp lc_all up_len up_nm isX_st own_ok zip_at)
open K62 (vNeDp vEqDp)
open K37 (fmod_lt p60 p40 TxOk Sh ShL)
open K08 (ws_cut)
section
variable {n : Net} {s : List Rw} {ws W : List (Str × Str)} {S T : Sto} {x y : Str} {most age B : Int} {r rt k d rw c : Nat} {Q : Val → Sto → Prop}
inductive Deed where
  | round
  | up (x : Str) (t : Bool)
  | wire (a b : Str) (t : Bool)

def res (n : Net) (s : List Rw) (ws : List (Str × Str)) (most age : Int) : Deed → Val
  | .round => .tup [.str "told", .int ((chg s (rnd n s ws most age) : Nat) : Int)]
  | .up x _ => if x ∈ n.names then .tup [.str "told", .non] else .tup [.str "house", .str x]
  | .wire a b _ => if mnx a b ∈ n.ws then .tup [.str "told", .non] else .tup [.str "link", .tup [.str a, .str b]]
def kk : Deed → Nat
  | .round => 1
  | _ => 0
end
end K58
namespace K58
open PySem PySem.Spec PyProof.Rows L2 G Th AL KL Fr Od RO
open K57 (other_ends_ other_ends_B own_best_ own_best_B row_behind_ row_behind_B state_round_ state_round_B feedL_ feedL_B drawL_ drawL_B keyL_ keyL_B endsL_ endsL_B turnedL_ turnedL_B)
open K56 (first_state_ first_state_B row_up_ row_up_B state_up_ state_up_B)
open K57 (wireV Mb mbV Net netV WOk NOk NmOk keyV Ky KyOk Tf draw_wp sh_st sh_row Rw rwV stV SOk RwOk BsOk HdOk Bs Hd hdV boV bsV bs_okV K2 feed_wp own mkey keyL_wp vInL vMinG2 vMaxB2 vSortGT ok_sort wire_ok wire_sm rnd rnd_ok rowN round_wp turned_wp pool nm_pool nd_len)
open K56 (up upR rowU up_ok fst_ok first_wp state_up_wp lc_all up_len up_nm isX_st own_ok zip_at)
open K62 (vNeDp vEqDp)
open K37 (fmod_lt p60 p40 TxOk Sh ShL)
open K08 (ws_cut)
section
variable {n : Net} {s : List Rw} {ws W : List (Str × Str)} {S T U : Sto} {x y : Str} {most age B : Int} {r rt k d rw c : Nat} {Q : Val → Sto → Prop}
end
end K58
namespace K58
open PySem PySem.Spec PyProof.Rows L2 G Th AL KL Fr Od RO
open K57 (other_ends_ other_ends_B own_best_ own_best_B row_behind_ row_behind_B state_round_ state_round_B feedL_ feedL_B drawL_ drawL_B keyL_ keyL_B endsL_ endsL_B turnedL_ turnedL_B)
open K56 (first_state_ first_state_B row_up_ row_up_B state_up_ state_up_B)
open K57 (wireV Mb mbV Net netV WOk NOk NmOk keyV Ky KyOk Tf draw_wp sh_st sh_row Rw rwV stV SOk RwOk BsOk HdOk Bs Hd hdV boV bsV bs_okV K2 feed_wp own mkey keyL_wp vInL vMinG2 vMaxB2 vSortGT ok_sort wire_ok wire_sm rnd rnd_ok rowN round_wp turned_wp pool nm_pool nd_len)
open K56 (up upR rowU up_ok fst_ok first_wp state_up_wp lc_all up_len up_nm isX_st own_ok zip_at)
open K62 (vNeDp vEqDp)
open K37 (fmod_lt p60 p40 TxOk Sh ShL)
open K08 (ws_cut)
section
variable {n : Net} {s : List Rw} {ws W : List (Str × Str)} {S T U : Sto} {x y : Str} {most age B : Int} {r rt k d rw c : Nat} {Q : Val → Sto → Prop}
def mD (v : Val) (rw : Nat) (c : Int) : List (Key × Val) := [(.inr "state", v), (.inr "wires", .ref rw), (.inr "count", .int c)]
theorem Wr.eq (h : Wr n W ws) : sortT (W.map wireV) = ws.map wireV := (sortT_uniq h.st (h.pm.map _) fun v hv => by
  obtain ⟨p, _, rfl⟩ := List.mem_map.mp hv
  rfl).symm
def rw0 : Rw := ⟨"", none, []⟩
theorem chg_eq {a b : List Rw} (h : b.length = a.length) : ((List.range a.length).filter fun k => decide ((a.getD k rw0).best ≠ (b.getD k rw0).best)).length = chg a b := by
  have e : b.zip a = (List.range a.length).map fun k => (b.getD k rw0, a.getD k rw0) := by
    apply List.ext_getElem?
    intro i
    rw [List.getElem?_map]
    rcases Nat.lt_or_ge i a.length with l | l
    · rw [List.getElem?_range l]
      have lb : i < b.length := by omega
      rw [(List.getElem?_zip_eq_some (z := (b[i], a[i]))).mpr ⟨List.getElem?_eq_getElem lb, List.getElem?_eq_getElem l⟩]
      simp [List.getD_eq_getElem?_getD, List.getElem?_eq_getElem lb, List.getElem?_eq_getElem l]
    · rw [List.getElem?_eq_none (by rw [List.length_zip]; omega), List.getElem?_eq_none (by rw [List.length_range]; exact l)]
      rfl
  unfold chg
  rw [e, List.filter_map, List.length_map]
  congr 1
  refine List.filter_congr fun k _ => ?_
  show decide ((a.getD k rw0).best ≠ (b.getD k rw0).best) = decide ((b.getD k rw0).best ≠ (a.getD k rw0).best)
  exact decide_eq_decide.mpr ⟨Ne.symm, Ne.symm⟩
end
end K58
namespace K62
open PySem PySem.Spec PyProof.Rows L2 G Th AL KL Fr Od Bf
open K57 (other_ends_ other_ends_B own_best_ own_best_B feedL_ feedL_B drawL_ drawL_B keyL_ keyL_B endsL_ endsL_B)
open K57 (wireV Mb mbV Net netV WOk NOk NmOk endsL keyV mkey Ky KyOk tl tl_inj mem_endsL vInL vInD nd_len)
open K60 (near_names_ near_names_B own_keys_ own_keys_B steps_from_ steps_from_B pieces_of_ pieces_of_B nearer_ nearer_B tree_paper_ tree_paper_B)
open K60 (UOk piece mem_piece kyV kyV_inj kyV_pure kyV_ok ky_tup keyN Nb nb_symm ldr dst nrs trw Nr near_names_wp own_keys_wp kyD key_at nbl valA_at valA_no putA_no toD_dV toD_dVs)
open K37 (fmod_lt p60 p40 TxOk Sh ShL valA_put putA_len merge_app)
open K08 (ws_cut)
section
variable {n : Net} {up : List Str} {ws : List (Str × Str)} {x y z s : Str} {T : List Tw} {S : Sto}
def fpV (p : Str × Str) : Val := .tup [.str p.1, .str p.2]
def fpD (P : List (Str × Str)) : List (Key × Val) := P.map fun p => (.inr p.1, .str p.2)
end
end K62
namespace K58
open PySem PySem.Spec PyProof.Rows L2 G Th AL KL Fr Od RO
open K57 (other_ends_ other_ends_B own_best_ own_best_B row_behind_ row_behind_B state_round_ state_round_B feedL_ feedL_B drawL_ drawL_B keyL_ keyL_B endsL_ endsL_B turnedL_ turnedL_B)
open K56 (first_state_ first_state_B row_up_ row_up_B state_up_ state_up_B)
open K57 (wireV Mb mbV Net netV WOk NOk NmOk keyV Ky KyOk Tf draw_wp sh_st sh_row Rw rwV stV SOk RwOk BsOk HdOk Bs Hd hdV boV bsV bs_okV K2 feed_wp own mkey keyL_wp vInL vMinG2 vMaxB2 vSortGT ok_sort wire_ok wire_sm rnd rnd_ok rowN round_wp turned_wp pool nm_pool nd_len)
open K56 (up upR rowU up_ok fst_ok first_wp state_up_wp lc_all up_len up_nm isX_st own_ok zip_at)
open K62 (vNeDp vEqDp)
open K37 (fmod_lt p60 p40 TxOk Sh ShL)
open K08 (ws_cut)
section
variable {n : Net} {s : List Rw} {ws W : List (Str × Str)} {S T U : Sto} {x y : Str} {most age B : Int} {r rt k d rw c : Nat} {Q : Val → Sto → Prop}
theorem m_len {v : Val} {c : Int} : (mD v rw c).length < sizeLine := by
  show 3 < sizeLine
  decide
end
end K58
namespace K58
open PySem PySem.Spec PyProof.Rows L2 G Th AL KL Fr Od RO
open K57 (other_ends_ other_ends_B own_best_ own_best_B row_behind_ row_behind_B state_round_ state_round_B feedL_ feedL_B drawL_ drawL_B keyL_ keyL_B endsL_ endsL_B turnedL_ turnedL_B)
open K56 (first_state_ first_state_B row_up_ row_up_B state_up_ state_up_B)
open K57 (wireV Mb mbV Net netV WOk NOk NmOk keyV Ky KyOk Tf draw_wp sh_st sh_row Rw rwV stV SOk RwOk BsOk HdOk Bs Hd hdV boV bsV bs_okV K2 feed_wp own mkey keyL_wp vInL vMinG2 vMaxB2 vSortGT ok_sort wire_ok wire_sm rnd rnd_ok rowN round_wp turned_wp pool nm_pool nd_len)
open K56 (up upR rowU up_ok fst_ok first_wp state_up_wp lc_all up_len up_nm isX_st own_ok zip_at)
open K62 (vNeDp vEqDp)
open K37 (fmod_lt p60 p40 TxOk Sh ShL)
open K08 (ws_cut)
section
variable {n : Net} {s : List Rw} {ws W : List (Str × Str)} {S T U : Sto} {x y : Str} {most age B : Int} {r rt k d rw c : Nat} {Q : Val → Sto → Prop}
open K57 (sh_small sh_bs sh_hd reprL)
def hn2 : Val := .tup [.str "house", .str "nobody"]
end
end K58
namespace K66
open PySem PySem.Spec PyProof.Rows L2 G Th AL
open K57 (other_ends_ other_ends_B own_best_ own_best_B row_behind_ row_behind_B state_round_ state_round_B feedL_ feedL_B drawL_ drawL_B keyL_ keyL_B endsL_ endsL_B)
open K60 (near_names_ near_names_B own_keys_ own_keys_B steps_from_ steps_from_B pieces_of_ pieces_of_B)
end K66
namespace K62
open PySem PySem.Spec PyProof.Rows L2 G Th AL KL Fr Od Bf
open K57 (other_ends_ other_ends_B own_best_ own_best_B feedL_ feedL_B drawL_ drawL_B keyL_ keyL_B endsL_ endsL_B)
open K57 (wireV Mb mbV Net netV WOk NOk NmOk endsL ends keyV mkey Ky KyOk tl tl_inj mem_endsL vInL vInD nd_len endsL_wp keyL_wp vDictN pairs_map nd_inr Tf draw_wp sortS_perm)
open K60 (near_names_ near_names_B own_keys_ own_keys_B steps_from_ steps_from_B pieces_of_ pieces_of_B nearer_ nearer_B tree_paper_ tree_paper_B)
open K60 (UOk piece mem_piece kyV kyV_inj kyV_pure kyV_ok ky_tup keyN keyN_at Nb nb_symm ldr ldr_eq dst nrs mem_nrs who trw nbl valA_at valA_no putA_no)
open K37 (fmod_lt p60 p40 TxOk Sh ShL valA_put putA_len merge_app)
open K08 (ws_cut)
section
variable {n : Net} {up : List Str} {ws : List (Str × Str)} {x y z s : Str} {T : List Tw} {S : Sto} {B : Int}
end
end K62
namespace K62
open PySem PySem.Spec PyProof.Rows L2 G Th AL KL Fr Od Bf
open K57 (other_ends_ other_ends_B own_best_ own_best_B feedL_ feedL_B drawL_ drawL_B keyL_ keyL_B endsL_ endsL_B)
open K57 (wireV Mb mbV Net netV WOk NOk NmOk keyV mkey Tf draw_wp feed_wp keyL_wp)
open K60 (near_names_ near_names_B own_keys_ own_keys_B steps_from_ steps_from_B pieces_of_ pieces_of_B nearer_ nearer_B tree_paper_ tree_paper_B)
open K60 (UOk kyV kyV_ok trw tree_wp pieces_wp ldr dst pcs leads vInT leS_refl)
open K37 (fmod_lt p60 p40 TxOk Sh ShL)
open K08 (ws_cut)
section
variable {n : Net} {up : List Str} {ws : List (Str × Str)} {T : List Tw} {S : Sto} {B : Int}
def c3 (n : Net) (t : Tw) : Val := .tup [.str t.nm, kyV n t.k, .int ((t.d : Nat) : Int)]
def prs (T : List Tw) : List (Str × Str) := (T.filter fun t => !decide (t.w = t.nm)).map fun t => (t.nm, t.w)
end
end K62
namespace K65
open PySem PySem.Spec PyProof.Rows L2 G Th AL KL Fr Od Bf
open K57 (other_ends_ other_ends_B own_best_ own_best_B feedL_ feedL_B drawL_ drawL_B keyL_ keyL_B endsL_ endsL_B)
open K57 (wireV Mb mbV Net netV pool WOk NOk NmOk endsL ends oes oes_perm mem_endsL keyV mkey own own_wp bsV boV keyL_wp vInL vInD vDictN pairs_map nd_inr nd_len tl tl_inj tl_asym sortS_perm sortS_pw sortS_eq K2 vSortGS vSortGD vSortGT ok_sort keys_map lt_of_leS Ky KyOk mkey_ok Tf draw_wp sh_small sh_ky Rw Bs rwV stV SOk RwOk BsOk bestOf bestOf_at bestOf_ok)
open K60 (near_names_ near_names_B own_keys_ own_keys_B steps_from_ steps_from_B pieces_of_ pieces_of_B nearer_ nearer_B tree_paper_ tree_paper_B farL_ farL_B)
open K60 (UOk piece mem_piece leads mem_leads piece_len piece_nd pcs kyV kyF kyF_map kyD key_at own_keys_wp pieces_wp putA_no valA_at dK dK_names far_wp all_perm leads_len vInDp kyV_ok keyN dictOf_keys mb1 Nb lead nm_tx)
open K37 (fmod_lt p60 p40 TxOk Sh ShL valA_put putA_len merge_app)
open K08 (ws_cut)
open K13 (vExt)
section
variable {n : Net} {s : List Rw} {ws : List (Str × Str)} {S : Sto} {x : Str}
def upL (s : List Rw) : List Str := (s.filter fun r => r.best.isSome).map Rw.name
def bsD (s : List Rw) : List (Key × Val) := (s.filter fun r => r.best.isSome).map fun r => (.inr r.name, boV r.best)
theorem bsD_keys (s : List Rw) : (bsD s).map (·.1) = (upL s).map Sum.inr := by
  unfold bsD upL
  rw [List.map_map, List.map_map]
  rfl
theorem upL_ok (hn : NOk n) (so : SOk n s) (w : WOk n.names ws) : UOk n (upL s) ws := ⟨by
  have : (upL s).Sublist (s.map Rw.name) := List.filter_sublist.map _
  rwa [so.nm] at this, w⟩
theorem mem_upL (hn : NOk n) (so : SOk n s) : x ∈ upL s ↔ ∃ b, bestOf s x = some b := by
  unfold upL
  rw [List.mem_map]
  constructor
  · rintro ⟨r, hr, rfl⟩
    rw [List.mem_filter] at hr
    obtain ⟨b, hb⟩ := Option.isSome_iff_exists.mp hr.2
    exact ⟨b, by rw [bestOf_at (so.nd hn) hr.1, hb]⟩
  · rintro ⟨b, hb⟩
    unfold bestOf at hb
    obtain ⟨r, hr, e⟩ := Option.bind_eq_some_iff.mp hb
    have h1 : r.name = x := of_decide_eq_true (List.find?_some (p := fun r : Rw => decide (r.name = x)) hr)
    exact ⟨r, List.mem_filter.mpr ⟨List.mem_of_find?_eq_some hr, by rw [e]; rfl⟩, h1⟩
def gkey (s : List Rw) (x : Str) : Val := match bestOf s x with
  | some b => keyV b.key
  | none => .non
theorem best_at (hn : NOk n) (so : SOk n s) {b : Bs} (h : bestOf s x = some b) : valA (bsD s) (.inr x) = some (bsV b) := by
  refine valA_at ?_ ?_
  · rw [bsD_keys]
    have : (upL s).Sublist (s.map Rw.name) := List.filter_sublist.map _
    exact List.Pairwise.map _ (R := fun a b : Str => a ≠ b) (fun a b h z => h (Sum.inr.inj z)) (this.nodup (so.nd hn))
  · unfold bestOf at h
    obtain ⟨r, hr, e⟩ := Option.bind_eq_some_iff.mp h
    have h1 : r.name = x := of_decide_eq_true (List.find?_some (p := fun r : Rw => decide (r.name = x)) hr)
    unfold bsD
    refine List.mem_map.mpr ⟨r, List.mem_filter.mpr ⟨List.mem_of_find?_eq_some hr, by rw [e]; rfl⟩, ?_⟩
    rw [h1, e]
    rfl
open Classical in
noncomputable def isGh (n : Net) (s : List Rw) (ws : List (Str × Str)) (x : Str) : Bool := decide (gkey s x ∉ (piece ws (upL s) x).map (kyV n))
noncomputable def gRow (s : List Rw) (x : Str) : Val := .tup [.str x, gkey s x]
noncomputable def ghs (n : Net) (s : List Rw) (ws : List (Str × Str)) : List Val := ((upL s).filter (isGh n s ws)).map (gRow s)
theorem isGh_iff : isGh n s ws x = true ↔ gkey s x ∉ (piece ws (upL s) x).map (kyV n) := by
  unfold isGh
  simp
theorem key_okV {k : Ky} (h : KyOk k) : okV (keyV k) = true := by
  have := h.nm.1
  simp only [okV, keyV, pureV, pureVs, dV, dVs, PyData.canLay0, PyData.canLayAll0, this, PyData.depth, PyData.depthAll, Bool.and_true, Bool.true_and]
  decide
theorem key_dep (k : Ky) : (dV (keyV k)).depth < 30 := by
  show (PyData.tuple [.int k.p, .int k.c, .str k.nm]).depth < 30
  simp [PyData.depth, PyData.depthAll]
theorem gk_of {b : Bs} (h : bestOf s x = some b) : gkey s x = keyV b.key := by
  unfold gkey
  rw [h]

theorem gin_wp {b : Bs} (hn : NOk n) (so : SOk n s) (hb : bestOf s x = some b) {l : List Str} (hl : ∀ y ∈ l, y ∈ n.names) {r : Nat} (g : S[r]? = some (.lst (l.map (kyV n)))) (bb : Bool) (e : bb = true ↔ gkey s x ∉ l.map (kyV n)) : Wp (gInD true (keyV b.key) (.ref r) S) fun v T => v = .bl bb ∧ T = S := by
  have bo := bestOf_ok so hb
  refine vInDp (b := !bb) g (key_okV bo.key) (key_dep _) (fun v hv => ?_) ?_ ⟨by simp, rfl⟩
  · obtain ⟨y, hy, rfl⟩ := List.mem_map.mp hv
    exact ⟨kyV_ok (hn.nm (hl y hy)), rfl, key_dep _⟩
  · rw [← gk_of hb]
    cases bb with
    | true => exact ⟨fun h => absurd h (by decide), fun h => absurd h (e.mp rfl)⟩
    | false =>
      refine ⟨fun _ => Classical.byContradiction fun h => ?_, fun _ => rfl⟩
      have := e.mpr h
      cases this
theorem gRow_ok (hn : NOk n) (so : SOk n s) (hx : x ∈ upL s) : okV (gRow s x) = true ∧ hd1 (dV (gRow s x)) = true := by
  refine ⟨?_, rfl⟩
  obtain ⟨b, hb⟩ := (mem_upL hn so).mp hx
  have h1 : PyData.strOk b.key.nm = true := (bestOf_ok so hb).key.nm.1
  have h2 : PyData.strOk x = true := ((upL_ok hn so hn.w).nm hn hx).1
  unfold gRow
  rw [gk_of hb]
  simp only [okV, keyV, pureV, pureVs, dV, dVs, PyData.canLay0, PyData.canLayAll0, h1, h2, PyData.depth, PyData.depthAll, Bool.and_true, Bool.true_and]
  decide
theorem gRow_sm (hn : NOk n) (so : SOk n s) {y : Str} (hx : x ∈ upL s) (hy : y ∈ upL s) : smV (gRow s x) (gRow s y) = true := by
  obtain ⟨b, hb⟩ := (mem_upL hn so).mp hx
  obtain ⟨c, hc⟩ := (mem_upL hn so).mp hy
  unfold gRow
  rw [gk_of hb, gk_of hc]
  rfl
theorem gRow_srt (hn : NOk n) (so : SOk n s) : ∀ l : List Str, l.Sublist (upL s) → Srt (l.map (gRow s)) := fun l hl => by
  have u := upL_ok hn so hn.w
  unfold Srt
  rw [List.pairwise_map]
  refine (((u.pw hn).sublist hl).and (hl.nodup (u.nd hn))).imp fun {a b} h => ?_
  have c := lt_of_leS h.1 h.2
  have ne2 : Tr.s (tl b) ≠ Tr.s (tl a) := fun e => h.2 (tl_inj (Tr.s.inj e)).symm
  show lts (Tr.s (tl b) :: _) (Tr.s (tl a) :: _) = false
  rw [lts_other ne2, lt]
  exact decide_eq_false (tl_asym c)
def rowNm : Val → Val
  | .tup [.str a, _, _] => .str a
  | _ => .non
noncomputable def ghV (n : Net) (s : List Rw) (ws : List (Str × Str)) : Val → Bool
  | .str x => isGh n s ws x
  | _ => false
noncomputable def gRowV (s : List Rw) : Val → Val
  | .str x => gRow s x
  | _ => .non
theorem ghosts_wp (hn : NOk n) (so : SOk n s) (w : WOk n.names ws) {wv : Val} (hw : wv = .tup (ws.map wireV) ∨ (wv = .non ∧ ws = n.ws)) :
    Wp (ghosts_of_ [netV n, stV s, wv] S) fun v U => v = .tup (ghs n s ws) ∧ Kn S U := by
  have h8 := hn.len
  have ls := so.len
  have nds := so.nd hn
  have u := upL_ok hn so w
  have u8 := u.len hn
  refine AL.wf ?_; simp only [List.map_cons, List.map_nil, List.length_cons, List.length_nil, Nat.reduceAdd, Nat.reduceSub, List.replicate_succ, List.replicate_zero, List.cons_append, List.nil_append]; unfold ghosts_of_B; array_get_dec
  refine wDc ?_
  array_get_dec
  refine .inl ⟨_, rfl, ?_⟩
  refine dc_inv (fun i a T => a = bsD (s.take i) ∧ i ≤ s.length ∧ T = S) (fun _ _ _ _ _ => trivial) (fun i a T ⟨h, h2, _⟩ => by
    rw [h]
    unfold bsD
    rw [List.length_map]
    have := List.length_filter_le (fun r : Rw => r.best.isSome) (s.take i)
    rw [List.length_take] at this
    omega) ?_ ?_ ⟨rfl, Nat.zero_le _, rfl⟩
  · rintro i v a T hv ⟨rfl, h3, rfl⟩
    rw [List.getElem?_map] at hv
    obtain ⟨r, hr, rfl⟩ := Option.map_eq_some_iff.mp hv
    obtain ⟨lt, er⟩ := List.getElem?_eq_some_iff.mp hr
    have tk : s.take (i + 1) = s.take i ++ [r] := by rw [List.take_succ_eq_append_getElem lt, er]
    have nin : r.name ∉ (s.take i).map Rw.name := by
      have nd2 : ((s.take (i + 1)).map Rw.name).Nodup := ((List.take_sublist _ _).map Rw.name).nodup nds
      rw [tk, List.map_append, List.nodup_append] at nd2
      exact fun m => nd2.2.2 _ m _ (by simp) rfl
    refine bn rfl ?_
    array_get_dec
    cases hb : r.best with
    | none =>
      refine brF rfl ⟨?_, lt, rfl⟩
      unfold bsD
      rw [tk, List.filter_append]
      simp [hb]
    | some b =>
      refine brT rfl ?_
      array_get_dec
      refine ⟨.inr r.name, rfl, ?_, lt, rfl⟩
      rw [putA_no]
      · unfold bsD
        rw [tk, List.filter_append, List.map_append]
        simp [hb]
      · rw [bsD_keys]
        intro z
        obtain ⟨y, hy, e⟩ := List.mem_map.mp z
        cases e
        have : (upL (s.take i)).Sublist ((s.take i).map Rw.name) := List.filter_sublist.map _
        exact nin (this.subset hy)
  · rintro a T ⟨rfl, _, rfl⟩
    rw [List.length_map, List.take_length]
    intro S1 rb e_rb l_S1 g_rb k_S1
    array_get_dec
    refine (own_keys_wp hn).imp ?_
    rintro _ S2 ⟨rk, rfl, gk, k2, l2⟩
    array_get_dec
    intro S3 rg e_rg l_S3 g_rg k_S3
    array_get_dec
    refine vListD rfl (k_S3 _ _ (k2 _ _ g_rb)) ?_
    have en : ((bsD s).map fun kv => kA kv.1) = (upL s).map Val.str := by
      unfold bsD upL
      rw [List.map_map, List.map_map]
      rfl
    rw [en]
    intro S4 r4 e_r4 l_S4 g_r4 k_S4
    array_get_dec
    refine vSortGS rfl g_r4 (by omega) ?_
    rw [show sortS (upL s) = upL s from (sortS_eq (u.pw hn) (.refl _)).symm]
    intro S5 r5 e_r5 l_S5 g_r5 k_S5
    array_get_dec
    refine (pieces_wp hn u hw).imp ?_
    rintro _ S6 ⟨rfl, k6⟩
    refine .inl ⟨_, rfl, ?_⟩
    have k36 : Kn S3 S6 := k_S4.trans (k_S5.trans k6)
    have gb6 : S6[rb]? = some (.dic (bsD s)) := k36 _ _ (k_S3 _ _ (k2 _ _ g_rb))
    have gk6 : S6[rk]? = some (.dic (kyD n)) := k36 _ _ (k_S3 _ _ gk)
    have gg6 : S6[rg]? = some (.lst []) := k36 _ _ g_rg
    have lrb := lt_of_at (k2 _ _ g_rb)
    have lrk := lt_of_at gk
    unfold pcs
    refine ws_loop (fun i ρ U => ∃ (a6 a7 a8 a9 a10 : Option Val), ρ = [some (netV n), some (stV s), some wv, some (.ref rb), some (.ref rk), some (.ref rg), a6, a7, a8, a9, a10] ∧ U[rg]? = some (.lst (((((leads ws (upL s) (upL s)).take i).flatMap (piece ws (upL s))).filter (isGh n s ws)).map (gRow s))) ∧ Kx rg S6 U)
      ⟨_, _, _, _, _, rfl, gg6, .refl _ _⟩ (fun _ _ _ _ _ => trivial) ?_ ?_
    · rintro i v ρ U hv ⟨a6, a7, a8, a9, a10, rfl, gR, kU⟩
      rw [List.getElem?_map] at hv
      obtain ⟨x, hx, rfl⟩ := Option.map_eq_some_iff.mp hv
      obtain ⟨lt, ex⟩ := List.getElem?_eq_some_iff.mp hx
      have xl := mem_leads.mp (List.mem_of_getElem? hx)
      have tk : (leads ws (upL s) (upL s)).take (i + 1) = (leads ws (upL s) (upL s)).take i ++ [x] := by rw [List.take_succ_eq_append_getElem lt, ex]
      have p8 := piece_len (ws := ws) (x := x) u8
      have gbU : U[rb]? = some (.dic (bsD s)) := kU _ _ (by omega) gb6
      have gkU : U[rk]? = some (.dic (kyD n)) := kU _ _ (by omega) gk6
      refine bn rfl ?_
      array_get_dec
      refine .inl ⟨_, rfl, ?_⟩
      refine lc_pure (fun _ => true) (kyF n) trivial (by rw [List.length_map]; omega) (fun v hv => ?_) ?_
      · obtain ⟨z, hz, rfl⟩ := List.mem_map.mp hv
        have zu := (mem_piece.mp hz).1
        refine bn rfl ?_
        array_get_dec
        refine ⟨rfl, rfl, fun _ => ?_⟩
        array_get_dec
        exact vIxD rfl gkU rfl (key_at hn (u.sub.subset zu)) ⟨rfl, rfl⟩
      rw [List.filter_eq_self.mpr fun _ _ => rfl, kyF_map]
      intro U1 r1 e_r1 l_U1 g_r1 k_U1
      array_get_dec
      refine .inl ⟨_, rfl, ?_⟩
      have gb1 := k_U1 _ _ gbU
      refine lc_pure (ghV n s ws) (gRowV s) trivial (by rw [List.length_map]; omega) (fun v hv => ?_) ?_
      · obtain ⟨z, hz, rfl⟩ := List.mem_map.mp hv
        have zp := mem_piece.mp hz
        obtain ⟨b, hb⟩ := (mem_upL hn so).mp zp.1
        have pe : piece ws (upL s) z = piece ws (upL s) x := (K60.piece_eq xl.1 zp.2).symm
        refine bn rfl ?_
        array_get_dec
        refine vIxD rfl gb1 rfl (best_at hn so hb) ?_
        array_get_dec
        refine (gin_wp hn so hb (fun y hy => u.sub.subset (mem_piece.mp hy).1) g_r1 (isGh n s ws z) (by rw [← pe]; exact isGh_iff)).imp ?_
        rintro _ _ ⟨rfl, rfl⟩
        array_get_dec
        refine ⟨rfl, rfl, fun _ => ?_⟩
        array_get_dec
        refine vIxD rfl gb1 rfl (best_at hn so hb) ?_
        array_get_dec
        refine ⟨?_, rfl⟩
        show _ = gRow s z
        unfold gRow
        rw [gk_of hb]
      have e1 : ((((piece ws (upL s) x).map Val.str).filter (ghV n s ws)).map (gRowV s)) = ((piece ws (upL s) x).filter (isGh n s ws)).map (gRow s) := by
        rw [List.filter_map, List.map_map]
        rfl
      rw [e1]
      intro U3 r3 e_r3 l_U3 g_r3 k_U3
      array_get_dec
      have lfl : ∀ l : List Str, (l.flatMap (piece ws (upL s))).length ≤ 8 * l.length := fun l => by
        induction l with
        | nil => simp
        | cons q l ih =>
          have := piece_len (ws := ws) (x := q) u8
          rw [List.flatMap_cons, List.length_append, List.length_cons]
          omega
      have h1 := lfl ((leads ws (upL s) (upL s)).take i)
      have h2 := leads_len (ws := ws) (up := upL s) (upL s)
      rw [List.length_take] at h1
      have h3 := List.length_filter_le (isGh n s ws) (((leads ws (upL s) (upL s)).take i).flatMap (piece ws (upL s)))
      have h4 := List.length_filter_le (isGh n s ws) (piece ws (upL s) x)
      refine vExt rfl (k_U3 _ _ (k_U1 _ _ gR)) g_r3 (by simp only [List.length_map]; omega) ?_
      intro U4 l_U4 g_U4 k_U4
      refine ⟨_, _, _, _, _, rfl, ?_, kU.trans (((k_U1.trans k_U3).kx _).trans k_U4)⟩
      rw [g_U4, tk, List.flatMap_append, List.filter_append, List.map_append]
      congr 3
      simp
    · rintro ρ U ⟨a6, a7, a8, a9, a10, rfl, gR, kU⟩
      rw [List.length_map, List.take_length] at gR
      have pm := all_perm hn u
      have pf := (pm.filter (isGh n s ws))
      have hs : sortT (((((leads ws (upL s) (upL s)).flatMap (piece ws (upL s))).filter (isGh n s ws)).map (gRow s))) = ghs n s ws := by
        refine (sortT_uniq (gRow_srt hn so _ List.filter_sublist) (pf.map (gRow s)).symm fun v hv => ?_).symm
        obtain ⟨z, hz, rfl⟩ := List.mem_map.mp hv
        exact (okV_all (gRow_ok hn so (pm.mem_iff.mp (List.mem_filter.mp hz).1)).1).1
      array_get_dec
      refine vSortGT rfl gR (fun v hv => ?_) (ok_sort (fun v hv => ?_) (fun p hp q hq => ?_) ?_) ?_
      · obtain ⟨z, _, rfl⟩ := List.mem_map.mp hv
        exact ⟨_, rfl⟩
      · obtain ⟨z, hz, rfl⟩ := List.mem_map.mp hv
        exact gRow_ok hn so (pm.mem_iff.mp (List.mem_filter.mp hz).1)
      · obtain ⟨z, hz, rfl⟩ := List.mem_map.mp hp
        obtain ⟨y, hy, rfl⟩ := List.mem_map.mp hq
        exact gRow_sm hn so (pm.mem_iff.mp (List.mem_filter.mp hz).1) (pm.mem_iff.mp (List.mem_filter.mp hy).1)
      · have h3 := List.length_filter_le (isGh n s ws) ((leads ws (upL s) (upL s)).flatMap (piece ws (upL s)))
        rw [pm.length_eq] at h3
        rw [List.length_map]
        omega
      rw [hs]
      intro V r e_r l_V g_r k_V
      array_get_dec
      refine ⟨rfl, fun q o ho => ?_⟩
      have := lt_of_at (k2 _ _ (k_S1 _ _ ho))
      exact k_V _ _ (kU _ _ (by omega) (k36 _ _ (k_S3 _ _ (k2 _ _ (k_S1 _ _ ho)))))
def upRow : Val → Bool
  | .tup [_, .non, _] => false
  | _ => true
theorem upRow_iff (r : Rw) : upRow (rwV r) = r.best.isSome := by
  unfold rwV
  cases r.best <;> rfl
end
end K65
namespace K67
open PySem PySem.Spec PyProof.Rows L2 G Th AL KL Fr Od Bf
open K57 (wireV Mb mbV Net netV WOk NOk NmOk endsL ends oes keyV mkey Ky KyOk tl tl_inj tl_asym lt_of_leS mem_endsL sortS_pw sortS_perm sortH_perm Rw Bs Hd rwV stV bsV boV SOk RwOk BsOk bestOf bestOf_at bestOf_ok frs kps mem_frs mem_kps offers bet minB minT_B minB_mem own heardN rowN rnd rnd_ok row_ok itr itr_ok)
open K60 (UOk piece mem_piece kyV kyV_inj kyV_pure kyV_ok keyN keyN_at keyN_nm Nb nb_symm rc_symm rc_up piece_eq ldr ldr_eq ldr_up dst nrs mem_nrs nrs_pw who IsD leS_refl)

open K65 (upL mem_upL upL_ok)
section
variable {n : Net} {s : List Rw} {ws : List (Str × Str)} {x y z : Str} {mo a : Nat}
theorem rowN_name {most age : Int} (m : Mb) (r : Rw) : (rowN s ws most age m r).name = r.name ∧ (rowN s ws most age m r).best.isSome = r.best.isSome := by
  unfold rowN
  cases h : r.best with
  | none => exact ⟨rfl, by rw [h]⟩
  | some b => exact ⟨rfl, rfl⟩
theorem zip_up {f : Mb → Rw → Rw} (hf : ∀ m r, (f m r).name = r.name ∧ (f m r).best.isSome = r.best.isSome) : ∀ {ms : List Mb} {s : List Rw}, ms.length = s.length → upL (List.zipWith f ms s) = upL s
  | [], [], _ => rfl
  | m :: ms, r :: s, h => by
    have ih := zip_up hf (ms := ms) (s := s) (by simpa using h)
    unfold upL at ih ⊢
    rw [List.zipWith_cons_cons, List.filter_cons, List.filter_cons, (hf m r).2]
    split
    · rw [List.map_cons, List.map_cons, ih, (hf m r).1]
    · exact ih
theorem upL_rnd (so : SOk n s) {most age : Int} : upL (rnd n s ws most age) = upL s := zip_up (fun m r => rowN_name m r) so.len.symm
theorem upL_itr (hn : NOk n) (so : SOk n s) (w : WOk n.names ws) (a4 : a ≤ 4) (m9 : mo ≤ 9) : ∀ k, upL (itr n ws mo a s k) = upL s
  | 0 => rfl
  | k + 1 => (upL_rnd (itr_ok hn so w (by omega) (by omega) k)).trans (upL_itr hn so w a4 m9 k)

theorem rnd_row (hn : NOk n) (so : SOk n s) {most age : Int} {q : Rw} (hq : q ∈ rnd n s ws most age) : ∃ m ∈ n.ms, ∃ r ∈ s, r.name = m.name ∧ q = rowN s ws most age m r := by
  unfold rnd at hq
  obtain ⟨i, hi⟩ := List.getElem?_of_mem hq
  rw [List.getElem?_zipWith] at hi
  cases e1 : n.ms[i]? with
  | none => rw [e1] at hi; cases hi
  | some m =>
    cases e2 : s[i]? with
    | none => rw [e1, e2] at hi; cases hi
    | some r =>
      rw [e1, e2] at hi
      have e3 : (s.map Rw.name)[i]? = n.names[i]? := by rw [so.nm]
      unfold Net.names at e3
      rw [List.getElem?_map, List.getElem?_map, e1, e2] at e3
      exact ⟨m, List.mem_of_getElem? e1, r, List.mem_of_getElem? e2, Option.some.inj e3, (Option.some.inj hi).symm⟩
theorem best_row (hn : NOk n) (so : SOk n s) {b : Bs} (h : bestOf s x = some b) : ∃ r ∈ s, r.name = x ∧ r.best = some b := by
  unfold bestOf at h
  obtain ⟨r, hr, e⟩ := Option.bind_eq_some_iff.mp h
  exact ⟨r, List.mem_of_find?_eq_some hr, of_decide_eq_true (List.find?_some (p := fun r : Rw => decide (r.name = x)) hr), e⟩

def Fre (s : List Rw) (ws : List (Str × Str)) (x : Str) (h : Hd) : Prop := ∃ b, h.who ∈ oes ws x ∧ bestOf s h.who = some b ∧ h = ⟨h.who, b.key, b.st, 0⟩
theorem heard_mem {most age : Int} {r : Rw} {h : Hd} : h ∈ heardN s ws age r ↔ Fre s ws r.name h ∨ ∃ g ∈ r.hs, g.who ∉ (frs s (oes ws r.name)).map Hd.who ∧ g.old < age ∧ h = ⟨g.who, g.key, g.st, g.old + 1⟩ := by
  unfold heardN
  rw [(sortH_perm _).mem_iff, List.mem_append, mem_frs, mem_kps]
  rfl
theorem stale (hn : NOk n) (so : SOk n s) (w : WOk n.names ws) (a4 : a ≤ 4) (m9 : mo ≤ 9) : ∀ (t : Nat) (r : Rw), r ∈ itr n ws mo a s t → r.best.isSome = true → ∀ h ∈ r.hs, (0 < t ∧ Fre (itr n ws mo a s (t - 1)) ws r.name h) ∨ (t : Int) ≤ h.old
  | 0, r, hr, _, h, hh => .inr (by have := ((so.row r hr).hs h hh).o0; omega)
  | t + 1, q, hq, hb, h, hh => by
    have so_t := itr_ok hn so w (age := a) (most := mo) (by omega) (by omega) t
    obtain ⟨m, hm, r, hr, _, rfl⟩ := rnd_row hn so_t hq
    have hb2 : r.best.isSome = true := by rw [← (rowN_name m r).2]; exact hb
    obtain ⟨b, eb⟩ := Option.isSome_iff_exists.mp hb2
    have e1 : (rowN (itr n ws mo a s t) ws mo a m r).hs = heardN (itr n ws mo a s t) ws a r := by
      unfold rowN
      rw [eb]
    rw [e1] at hh
    rw [(rowN_name m r).1]
    rcases (heard_mem (most := mo)).mp hh with hf | ⟨g, hg, no, lt, rfl⟩
    · exact .inl ⟨by omega, hf⟩
    · refine .inr ?_
      rcases stale hn so w a4 m9 t r hr hb2 g hg with ⟨t0, b', h1, h2, h3⟩ | h1
      · exfalso
        have up1 : g.who ∈ upL (itr n ws mo a s (t - 1)) := (mem_upL hn (itr_ok hn so w (by omega) (by omega) _)).mpr ⟨b', h2⟩
        rw [upL_itr hn so w a4 m9, ← upL_itr hn so w a4 m9 t] at up1
        obtain ⟨b2, e2⟩ := (mem_upL hn so_t).mp up1
        exact no (List.mem_map.mpr ⟨⟨g.who, b2.key, b2.st, 0⟩, mem_frs.mpr ⟨b2, h1, e2, rfl⟩, rfl⟩)
      · show ((t + 1 : Nat) : Int) ≤ g.old + 1
        omega

theorem best_of (hn : NOk n) (so : SOk n s) (w : WOk n.names ws) (a4 : a ≤ 4) (m9 : mo ≤ 9) {t : Nat} (ht : a ≤ t) {b : Bs} (h : bestOf (itr n ws mo a s (t + 1)) x = some b) :
    ∃ m ∈ n.ms, m.name = x ∧ ∃ L : List Hd, (∀ g, g ∈ L ↔ Fre (itr n ws mo a s t) ws x g) ∧ b = minB (own m) (offers mo L) := by
  have so_t := itr_ok hn so w (age := a) (most := mo) (by omega) (by omega) t
  obtain ⟨q, hq, en, eb⟩ := best_row hn (itr_ok hn so w (by omega) (by omega) (t + 1)) h
  obtain ⟨m, hm, r, hr, e, rfl⟩ := rnd_row hn so_t hq
  rw [(rowN_name m r).1] at en
  have hb2 : r.best.isSome = true := by rw [← (rowN_name m r).2, eb]; rfl
  obtain ⟨b0, e0⟩ := Option.isSome_iff_exists.mp hb2
  have e1 : (rowN (itr n ws mo a s t) ws mo a m r).best = some (minB (own m) (offers mo (heardN (itr n ws mo a s t) ws a r))) := by
    unfold rowN
    rw [e0]
  rw [e1] at eb
  refine ⟨m, hm, e.symm.trans en, _, fun g => ?_, (Option.some.inj eb).symm⟩
  rw [heard_mem (most := mo), en]
  constructor
  · rintro (h | ⟨g, hg, no, lt, rfl⟩)
    · exact h
    · exfalso
      rcases stale hn so w a4 m9 t r hr hb2 g hg with ⟨t0, b', h1, h2, h3⟩ | h1
      · have up1 : g.who ∈ upL (itr n ws mo a s (t - 1)) := (mem_upL hn (itr_ok hn so w (by omega) (by omega) _)).mpr ⟨b', h2⟩
        rw [upL_itr hn so w a4 m9, ← upL_itr hn so w a4 m9 t] at up1
        obtain ⟨b2, e2⟩ := (mem_upL hn so_t).mp up1
        rw [en] at h1
        exact no (List.mem_map.mpr ⟨⟨g.who, b2.key, b2.st, 0⟩, mem_frs.mpr ⟨b2, h1, e2, rfl⟩, rfl⟩)
      · omega
  · exact .inl

def Lb (n : Net) (ws : List (Str × Str)) (up : List Str) (b : Bs) (x : Str) (k : Nat) : Prop := (k : Int) ≤ b.st ∨ ∃ y ∈ up, b.key = keyN n y ∧ ∃ d : Nat, W (Nb ws up) y d x ∧ (d : Int) ≤ b.st
theorem offer_of {L : List Hd} {b : Bs} (h : b ∈ offers mo L) : ∃ g ∈ L, g.st < mo ∧ b = ⟨g.key, g.st + 1, g.who⟩ := by
  obtain ⟨g, hg, e⟩ := List.mem_map.mp h
  obtain ⟨h1, h2⟩ := List.mem_filter.mp hg
  exact ⟨g, h1, of_decide_eq_true h2, e.symm⟩
theorem fre_nb (hn : NOk n) (so : SOk n s) (w : WOk n.names ws) (a4 : a ≤ 4) (m9 : mo ≤ 9) {t : Nat} {g : Hd} (hx : x ∈ upL s) (h : Fre (itr n ws mo a s t) ws x g) : g.who ∈ upL s ∧ Nb ws (upL s) x g.who ∧ ∃ b, bestOf (itr n ws mo a s t) g.who = some b ∧ g.key = b.key ∧ g.st = b.st := by
  obtain ⟨b, h1, h2, h3⟩ := h
  have up1 : g.who ∈ upL (itr n ws mo a s t) := (mem_upL hn (itr_ok hn so w (by omega) (by omega) _)).mpr ⟨b, h2⟩
  rw [upL_itr hn so w a4 m9] at up1
  have u := upL_ok hn so w
  refine ⟨up1, ⟨up1, ((u.oes x).mem_iff).mp h1⟩, b, h2, by rw [h3], by rw [h3]⟩
theorem up_of (hn : NOk n) (so : SOk n s) (w : WOk n.names ws) (a4 : a ≤ 4) (m9 : mo ≤ 9) {t : Nat} {b : Bs} (h : bestOf (itr n ws mo a s t) x = some b) : x ∈ upL s := by
  have : x ∈ upL (itr n ws mo a s t) := (mem_upL hn (itr_ok hn so w (by omega) (by omega) _)).mpr ⟨b, h⟩
  rwa [upL_itr hn so w a4 m9] at this
theorem low (hn : NOk n) (so : SOk n s) (w : WOk n.names ws) (a4 : a ≤ 4) (m9 : mo ≤ 9) : ∀ (k : Nat) {x : Str} {b : Bs}, bestOf (itr n ws mo a s (a + k)) x = some b → Lb n ws (upL s) b x k
  | 0, x, b, h => .inl (by have := (bestOf_ok (itr_ok hn so w (by omega) (by omega) _) h).s0; omega)
  | k + 1, x, b, h => by
    have hx := up_of hn so w a4 m9 h
    obtain ⟨m, hm, em, L, hL, rfl⟩ := best_of hn so w a4 m9 (t := a + k) (by omega) h
    rcases minB_mem (offers mo L) (own m) with e | e
    · rw [e]
      refine .inr ⟨x, hx, ?_, 0, .nil, Int.le_refl _⟩
      show mkey m = keyN n x
      rw [← em, keyN_at hn hm]
    · obtain ⟨g, hg, lt, e⟩ := offer_of e
      rw [e]
      obtain ⟨gu, nb, b', hb', e1, e2⟩ := fre_nb hn so w a4 m9 hx ((hL g).mp hg)
      rcases low hn so w a4 m9 k hb' with h1 | ⟨y, hy, ek, d, wd, ld⟩
      · refine .inl ?_
        show ((k + 1 : Nat) : Int) ≤ g.st + 1
        omega
      · refine .inr ⟨y, hy, e1.trans ek, d + 1, wd.snoc (nb_symm hx nb), ?_⟩
        show ((d + 1 : Nat) : Int) ≤ g.st + 1
        omega
theorem bs_lt_key {b c : Bs} (h : keyV b.key ≠ keyV c.key) : ltV (bsV b) (bsV c) = ltV (keyV b.key) (keyV c.key) := by
  show lts (trV (keyV b.key) :: _) (trV (keyV c.key) :: _) = _
  exact lts_other (fun e => h (trV_inj _ _ rfl rfl e)) _ _
theorem bs_lt_st {b c : Bs} (h : keyV b.key = keyV c.key) (h2 : b.st ≠ c.st) : ltV (bsV b) (bsV c) = decide (b.st < c.st) := by
  show lts (trV (keyV b.key) :: _) (trV (keyV c.key) :: _) = _
  rw [h, lts_same]
  show lts (Tr.i b.st :: _) (Tr.i c.st :: _) = _
  rw [lts_other (fun e => h2 (Tr.i.inj e)), lt]
theorem bs_lt_who {b c : Bs} (h : keyV b.key = keyV c.key) (h2 : b.st = c.st) (h3 : leS c.who b.who = true) : ltV (bsV b) (bsV c) = false := by
  show lts (trV (keyV b.key) :: _) (trV (keyV c.key) :: _) = _
  rw [h, lts_same]
  show lts (Tr.i b.st :: _) (Tr.i c.st :: _) = _
  rw [h2, lts_same]
  show lts [Tr.s (tl b.who)] [Tr.s (tl c.who)] = _
  by_cases e : b.who = c.who
  · rw [e, lts_same]
    rfl
  · have c' := lt_of_leS h3 (fun z => e z.symm)
    rw [lts_other (fun z => e (tl_inj (Tr.s.inj z))), lt]
    exact decide_eq_false (tl_asym c')
theorem keyV_inj {k l : Ky} (h : keyV k = keyV l) : k = l := by
  obtain ⟨p, c, nm⟩ := k
  obtain ⟨p', c', nm'⟩ := l
  simp only [keyV, Val.tup.injEq, List.cons.injEq, Val.int.injEq, Val.str.injEq] at h
  obtain ⟨rfl, rfl, rfl, _⟩ := h
  rfl
theorem bsV_inj {b c : Bs} (h : bsV b = bsV c) : b = c := by
  obtain ⟨k, st, wh⟩ := b
  obtain ⟨k', st', wh'⟩ := c
  have h : Val.tup [keyV k, .int st, .str wh] = .tup [keyV k', .int st', .str wh'] := h
  simp only [Val.tup.injEq, List.cons.injEq, Val.int.injEq, Val.str.injEq] at h
  obtain ⟨h1, rfl, rfl, _⟩ := h
  rw [keyV_inj h1]
theorem minB_is {b c : Bs} {l : List Bs} (hm : c = b ∨ c ∈ l) (h : ∀ o, o = b ∨ o ∈ l → ltV (bsV o) (bsV c) = false) : minB b l = c := by
  refine bsV_inj ?_
  rw [← minT_B]
  have m1 := minT_mem (bsV b) (l.map bsV)
  have m2 : bsV c ∈ bsV b :: l.map bsV := by
    rw [← List.map_cons]
    exact List.mem_map_of_mem (List.mem_cons.mpr hm)
  have pv : ∀ v ∈ bsV b :: l.map bsV, pureV v = true := fun v hv => by
    rw [← List.map_cons] at hv
    obtain ⟨o, _, rfl⟩ := List.mem_map.mp hv
    rfl
  refine min_uniq m1 m2 (pv _ m1) (pv _ m2) (minT_le _ _) fun v hv => ?_
  rw [← List.map_cons] at hv
  obtain ⟨o, ho, rfl⟩ := List.mem_map.mp hv
  exact h o (List.mem_cons.mp ho)
end
end K67
namespace K65
open PySem PySem.Spec PyProof.Rows L2 G Th AL KL Fr Od Bf
open K57 (other_ends_ other_ends_B own_best_ own_best_B feedL_ feedL_B drawL_ drawL_B keyL_ keyL_B endsL_ endsL_B)
open K57 (wireV Mb mbV Net netV WOk NOk NmOk keyV Ky KyOk Tf draw_wp sh_small sh_ky Rw rwV stV SOk bestOf bestOf_ok feed_wp reprL)
open K60 (near_names_ near_names_B own_keys_ own_keys_B steps_from_ steps_from_B pieces_of_ pieces_of_B nearer_ nearer_B tree_paper_ tree_paper_B farL_ farL_B)
open K60 (UOk trw trw_eq tree_wp dst ldr dst_lt nm_tx)
open K37 (fmod_lt p60 p40 TxOk Sh ShL)
open K08 (ws_cut)
section
variable {n : Net} {s : List Rw} {ws : List (Str × Str)} {up : List Str} {S : Sto} {x : Str}
noncomputable def hst (n : Net) (ws : List (Str × Str)) (up : List Str) : List Int := up.map fun x => ((dst ws up (ldr n ws up x) x : Nat) : Int)
noncomputable def mxs (most : Int) (n : Net) (ws : List (Str × Str)) (up : List Str) : List Int := (hst n ws up).filter fun i => decide (i ≤ most)
noncomputable def mx (most : Int) (n : Net) (ws : List (Str × Str)) (up : List Str) : Int := maxI 0 (mxs most n ws up)
def thr : Val → Val
  | .tup [_, _, .int d, _] => .int d
  | _ => .non
def leI (m : Int) : Val → Bool
  | .int i => decide (i ≤ m)
  | _ => false
theorem vMaxB {Q : Val → Sto → Prop} {r : Nat} {a : Int} {l : List Int} (h : S[r]? = some (.lst ((a :: l).map Val.int))) (q : Q (.int (maxI a l)) S) : Wp (gMaxB [.ref r] S) Q := vMaxL rfl h q
theorem max_end {a : Int} {l F : List Int} (h : a :: l = F ++ [0]) : maxI a l = maxI 0 F := by
  obtain ⟨m1, g1⟩ := maxI_ok a l
  obtain ⟨m2, g2⟩ := maxI_ok 0 F
  rw [h] at m1 g1
  have h1 : maxI 0 F ≤ maxI a l := by
    refine g1 _ ?_
    rcases List.mem_cons.mp m2 with e | e
    · rw [e]; simp
    · exact List.mem_append_left _ e
  have h2 : maxI a l ≤ maxI 0 F := by
    refine g2 _ ?_
    rcases List.mem_append.mp m1 with e | e
    · exact List.mem_cons_of_mem _ e
    · rw [List.mem_singleton] at e
      rw [e]
      exact List.mem_cons_self
  omega
theorem mx_bd (hn : NOk n) (u : UOk n up ws) {most : Int} : 0 ≤ mx most n ws up ∧ mx most n ws up < 8 := by
  obtain ⟨m2, g2⟩ := maxI_ok 0 (mxs most n ws up)
  refine ⟨g2 0 List.mem_cons_self, ?_⟩
  show maxI 0 _ < 8
  rcases List.mem_cons.mp m2 with e | e
  · rw [e]; decide
  · have h := (List.mem_filter.mp e).1
    obtain ⟨x, hx, e2⟩ := List.mem_map.mp h
    have := dst_lt hn u hx
    rw [← e2]
    omega
theorem halt_wp (hn : NOk n) (u : UOk n up ws) {most age : Int} {wv : Val} (hw : wv = .tup (ws.map wireV) ∨ (wv = .non ∧ ws = n.ws)) :
    Wp (rounds_to_halt_ [netV n, .tup (up.map .str), wv, .int most, .int age] S) fun v U => v = .int (most + age + 1 + mx most n ws up) ∧ Kn S U := by
  have u8 := u.len hn
  refine AL.wf ?_; simp only [List.map_cons, List.map_nil, List.length_cons, List.length_nil, Nat.reduceAdd, Nat.reduceSub, List.replicate_succ, List.replicate_zero, List.cons_append, List.nil_append]; unfold rounds_to_halt_B; array_get_dec
  refine (tree_wp hn u hw).imp ?_
  rintro _ S1 ⟨rfl, k1⟩
  refine .inl ⟨_, rfl, ?_⟩
  refine lc_pure (fun _ => true) thr trivial (by rw [List.length_map]; omega) (fun v hv => ?_) ?_
  · obtain ⟨x, hx, rfl⟩ := List.mem_map.mp hv
    rw [trw_eq]
    refine bn rfl ?_
    array_get_dec
    exact ⟨rfl, rfl, fun _ => by array_get_dec; exact ⟨rfl, rfl⟩⟩
  have e1 : (((up.map (trw n ws up)).filter fun _ => true).map thr) = (hst n ws up).map Val.int := by
    unfold hst
    rw [List.filter_eq_self.mpr fun _ _ => rfl, List.map_map, List.map_map]
    exact List.map_congr_left fun x _ => by
      show thr (trw n ws up x) = _
      rw [trw_eq]
      rfl
  rw [e1]
  have lh : (hst n ws up).length = up.length := List.length_map ..
  intro S2 r2 e_r2 l_S2 g_r2 k_S2
  array_get_dec
  refine .inr ⟨r2, _, rfl, g_r2, ?_⟩
  refine lc_pure (leI most) id g_r2 (by rw [List.length_map]; omega) (fun v hv => ?_) ?_
  · obtain ⟨x, hx, rfl⟩ := List.mem_map.mp hv
    refine bn rfl ?_
    array_get_dec
    exact ⟨rfl, rfl, fun _ => by array_get_dec; exact ⟨rfl, rfl⟩⟩
  have e2 : ((((hst n ws up).map Val.int).filter (leI most)).map id) = (mxs most n ws up).map Val.int := by
    unfold mxs
    rw [List.map_id, List.filter_map]
    rfl
  rw [e2]
  have lm : (mxs most n ws up).length ≤ 8 := by
    unfold mxs
    have := List.length_filter_le (fun i => decide (i ≤ most)) (hst n ws up)
    omega
  intro S3 r3 e_r3 l_S3 g_r3 k_S3
  array_get_dec
  intro S4 r4 e_r4 l_S4 g_r4 k_S4
  refine vCatL rfl rfl (k_S4 _ _ g_r3) g_r4 (by simp only [List.length_map, List.length_cons, List.length_nil]; omega) ?_
  intro S5 r5 e_r5 l_S5 g_r5 k_S5
  array_get_dec
  have g5 : S5[r5]? = some (.lst ((mxs most n ws up ++ [0]).map Val.int)) := by
    rw [g_r5, List.map_append]
    rfl
  obtain ⟨a, l, el⟩ : ∃ a l, mxs most n ws up ++ [0] = a :: l := by
    cases mxs most n ws up with
    | nil => exact ⟨_, _, rfl⟩
    | cons p q => exact ⟨_, _, rfl⟩
  rw [el] at g5
  refine vMaxB g5 ?_
  rw [max_end el.symm]
  array_get_dec
  exact ⟨rfl, k1.trans (k_S2.trans (k_S3.trans (k_S4.trans k_S5)))⟩
end
end K65
namespace K67
open PySem PySem.Spec PyProof.Rows L2 G Th AL KL Fr Od Bf
open K57 (other_ends_ other_ends_B own_best_ own_best_B row_behind_ row_behind_B state_round_ state_round_B feedL_ feedL_B drawL_ drawL_B keyL_ keyL_B endsL_ endsL_B)
open K60 (near_names_ near_names_B own_keys_ own_keys_B steps_from_ steps_from_B pieces_of_ pieces_of_B nearer_ nearer_B tree_paper_ tree_paper_B)
open K62 (ring_from_ ring_from_B follow_ring_ follow_ring_B)
open K65 (rounds_to_halt_ rounds_to_halt_B)
open K57 (wireV Mb mbV Net netV WOk NOk NmOk oes keyV mkey Ky KyOk Rw Bs rwV stV bsV boV SOk RwOk bestOf bestOf_at bestOf_ok rnd rnd_ok itr itr_ok bests_at bs_okV vDictN pairs_map nd_inr Tf draw_wp feed_wp round_wp)
open K60 (UOk kyV trw trw_ok tree_wp ldr ldr_up dst who who_up keyN)
open K62 (Tw Good prs fpV vNeDp)
open K65 (upL mem_upL upL_ok halt_wp mx mxs hst mx_bd upRow upRow_iff rowNm)
open K37 (fmod_lt p60 p40 TxOk Sh ShL)
open K08 (ws_cut)
section
variable {n : Net} {s : List Rw} {ws : List (Str × Str)} {up : List Str} {S : Sto} {x : Str}

def folT : Val → Bool
  | .tup [.str a, .tup [_, _, .str w], _] => !decide (w = a)
  | _ => false
def folG : Val → Val
  | .tup [.str a, .tup [_, _, w], _] => .tup [.str a, w]
  | _ => .non
theorem follows_wp (l8 : s.length ≤ 8) : Wp (follows_of_ [stV s] S) fun v U => v = .tup (((s.map rwV).filter folT).map folG) ∧ Kn S U := by
  refine AL.wf ?_; simp only [List.map_cons, List.map_nil, List.length_cons, List.length_nil, Nat.reduceAdd, Nat.reduceSub, List.replicate_succ, List.replicate_zero, List.cons_append, List.nil_append]; unfold follows_of_B; array_get_dec
  refine .inl ⟨_, rfl, ?_⟩
  refine lc_pure folT folG trivial (by rw [List.length_map]; omega) (fun v hv => ?_) ?_
  · obtain ⟨r, hr, rfl⟩ := List.mem_map.mp hv
    refine bn rfl ?_
    array_get_dec
    cases hb : r.best with
    | none =>
      have e1 : folT (rwV r) = false := by unfold rwV; rw [hb]; rfl
      refine brF rfl ?_
      refine ⟨by rw [e1], rfl, fun h => ?_⟩
      rw [e1] at h
      cases h
    | some b =>
      have e1 : folT (rwV r) = !decide (b.who = r.name) := by unfold rwV; rw [hb]; rfl
      have e2 : folG (rwV r) = .tup [.str r.name, .str b.who] := by unfold rwV; rw [hb]; rfl
      refine brT rfl ?_
      array_get_dec
      refine ⟨by rw [e1], rfl, fun _ => ?_⟩
      array_get_dec
      exact ⟨by rw [e2], rfl⟩
  intro S1 r1 e_r1 l_S1 g_r1 k_S1
  array_get_dec
  exact ⟨rfl, k_S1⟩
end
end K67
namespace K66
open PySem PySem.Spec PyProof.Rows L2 G Th AL KL Fr Od Bf
open K57 (other_ends_ other_ends_B own_best_ own_best_B row_behind_ row_behind_B state_round_ state_round_B feedL_ feedL_B drawL_ drawL_B keyL_ keyL_B endsL_ endsL_B)
open K60 (near_names_ near_names_B own_keys_ own_keys_B steps_from_ steps_from_B pieces_of_ pieces_of_B)
open K57 (wireV Mb mbV Net netV WOk NOk NmOk oes keyV mkey own own_wp bsV boV keyL_wp vInL vInD vDictN pairs_map nd_inr val_map nd_len tl tl_inj tl_asym sortS_perm sortS_pw sortS_eq K2 vSortGS vSortGD vSortGT ok_sort keys_map lt_of_leS Ky KyOk mkey_ok Tf draw_wp Rw Bs rwV stV SOk RwOk BsOk bestOf bestOf_at bestOf_ok rnd rnd_ok itr itr_ok bests_at bs_okV minB_mem offers minB feed_wp round_wp)
open K60 (UOk piece mem_piece leads mem_leads piece_len piece_nd pcs kyV kyF kyF_map kyD key_at own_keys_wp pieces_wp putA_no valA_at dK dK_names far_wp all_perm leads_len vInDp kyV_ok keyN dictOf_keys mb1 Nb lead nm_tx rc_symm)
open K62 (vNeDp)
open K65 (upL mem_upL upL_ok bsD bsD_keys gkey best_at isGh gRow ghs isGh_iff gk_of gin_wp gRow_ok gRow_sm gRow_srt rowNm ghV gRowV)
open K67 (upL_itr low up_of best_of best_row offer_of)
open K37 (fmod_lt p60 p40 TxOk Sh ShL valA_put putA_len merge_app)
open K08 (ws_cut)
open K13 (vExt)
section
variable {n : Net} {s : List Rw} {ws : List (Str × Str)} {S : Sto} {x : Str} {mo a : Nat}
theorem ghost_st (hn : NOk n) (so : SOk n s) (w : WOk n.names ws) (a4 : a ≤ 4) (m9 : mo ≤ 9) {k : Nat} {b : Bs} (hb : bestOf (itr n ws mo a s (a + k)) x = some b) (hg : isGh n (itr n ws mo a s (a + k)) ws x = true) : (k : Int) ≤ b.st := by
  rcases low hn so w a4 m9 k hb with h | ⟨y, hy, e, d, wd, _⟩
  · exact h
  · refine absurd (List.mem_map.mpr ⟨y, ?_, ?_⟩) (isGh_iff.mp hg)
    · rw [upL_itr hn so w a4 m9]
      exact mem_piece.mpr ⟨hy, rc_symm hy ⟨d, wd⟩⟩
    · rw [gk_of hb, e]
      rfl
theorem st_most (hn : NOk n) (so : SOk n s) (w : WOk n.names ws) (a4 : a ≤ 4) (m9 : mo ≤ 9) {k : Nat} {b : Bs} (hb : bestOf (itr n ws mo a s (a + k + 1)) x = some b) : b.st ≤ (mo : Int) := by
  obtain ⟨m, hm, em, L, hL, rfl⟩ := best_of hn so w a4 m9 (t := a + k) (by omega) hb
  rcases minB_mem (offers mo L) (own m) with e | e
  · rw [e]
    show (0 : Int) ≤ mo
    omega
  · obtain ⟨g, hg, lt, e⟩ := offer_of e
    rw [e]
    show g.st + 1 ≤ (mo : Int)
    omega
theorem no_ghost (hn : NOk n) (so : SOk n s) (w : WOk n.names ws) (a4 : a ≤ 4) (m9 : mo ≤ 9) {t : Nat} (h : mo + a < t) : ghs n (itr n ws mo a s t) ws = [] := by
  unfold ghs
  rw [List.map_eq_nil_iff, List.filter_eq_nil_iff]
  intro x hx hg
  obtain ⟨k, rfl⟩ : ∃ k, t = a + k + 1 := ⟨t - a - 1, by omega⟩
  obtain ⟨b, hb⟩ := (mem_upL hn (itr_ok hn so w (by omega) (by omega) _)).mp hx
  have h1 := ghost_st hn so w a4 m9 (k := k + 1) hb hg
  have h2 := st_most hn so w a4 m9 hb
  omega
end
end K66
namespace K63
open PySem PySem.Spec PyProof.Rows L2 G Th AL KL Fr Od
open K57 (val_map nd_len vInL vInD pairs_map nd_inr)
open K62 (ring_from_ ring_from_B follow_ring_ follow_ring_B fpV fpD)
open K60 (putA_no)
open K37 (merge_app)
section
variable {P : List (Str × Str)} {S : Sto} {x y z : Str} {l : List Str}

def ld (P : List (Str × Str)) (x : Str) : Option Str := (P.find? fun p => decide (p.1 = x)).map (·.2)
theorem val_ld : valA (fpD P) (.inr x) = (ld P x).map Val.str := by
  unfold fpD ld
  rw [val_map (·.1) (fun p : Str × Str => Val.str p.2) x P, Option.map_map]
  rfl
theorem ld_mem (h : ld P x = some y) : x ∈ P.map (·.1) := by
  obtain ⟨p, hp, _⟩ := Option.map_eq_some_iff.mp h
  have e : p.1 = x := of_decide_eq_true (List.find?_some (p := fun p : Str × Str => decide (p.1 = x)) hp)
  exact List.mem_map.mpr ⟨p, List.mem_of_find?_eq_some hp, e⟩

def rg (P : List (Str × Str)) (x : Str) : Nat → List Str → Str → Option (List Str)
  | 0, _, _ => none
  | n + 1, l, y => match ld P y with
    | none => none
    | some z => if z = x then some (l ++ [y]) else if z ∈ l ++ [y] then none else rg P x n (l ++ [y]) z
def RG (P : List (Str × Str)) (x : Str) : Option (List Str) := rg P x 9 [] x
structure Wk (P : List (Str × Str)) (x : Str) (l : List Str) (y : Str) : Prop where
  nd : (l ++ [y]).Nodup
  hd : (l ++ [y])[0]? = some x
  st : ∀ (i : Nat) (a b : Str), (l ++ [y])[i]? = some a → (l ++ [y])[i + 1]? = some b → ld P a = some b
theorem Wk.one : Wk P x [] x := ⟨by simp, rfl, fun i a b h1 h2 => by simp at h2⟩
theorem Wk.dom (w : Wk P x l y) : ∀ a ∈ l, a ∈ P.map (·.1) := fun a ha => by
  obtain ⟨i, hi, e⟩ := List.getElem_of_mem ha
  have h1 : (l ++ [y])[i]? = some a := by rw [List.getElem?_append_left hi, List.getElem?_eq_getElem hi, e]
  have h2 : i + 1 < (l ++ [y]).length := by simp; omega
  exact ld_mem (w.st i a _ h1 (List.getElem?_eq_getElem h2))
theorem Wk.len (w : Wk P x l y) : l.length ≤ P.length := by
  have := nd_len (List.nodup_append.mp w.nd).1 (ys := P.map (·.1)) w.dom
  rwa [List.length_map] at this
theorem Wk.len2 (w : Wk P x l y) (h : ld P y = some z) : l.length + 1 ≤ P.length := by
  have := nd_len w.nd (ys := P.map (·.1)) fun a ha => by
    rcases List.mem_append.mp ha with h1 | h1
    · exact w.dom a h1
    · rw [List.mem_singleton.mp h1]
      exact ld_mem h
  rwa [List.length_map, List.length_append, List.length_singleton] at this
theorem Wk.mem (w : Wk P x l y) : x ∈ l ++ [y] := List.mem_of_getElem? w.hd
theorem Wk.next (w : Wk P x l y) (h : ld P y = some z) (hz : z ∉ l ++ [y]) : Wk P x (l ++ [y]) z := by
  refine ⟨?_, ?_, fun i a b h1 h2 => ?_⟩
  · rw [List.nodup_append]
    exact ⟨w.nd, by simp, fun a ha b hb e => hz (by rw [← List.mem_singleton.mp hb, ← e]; exact ha)⟩
  · rw [List.getElem?_append_left (by simp)]
    exact w.hd
  · have l2 := (List.getElem?_eq_some_iff.mp h2).1
    simp only [List.length_append, List.length_singleton] at l2
    by_cases c : i + 1 < l.length + 1
    · rw [List.getElem?_append_left (by simp; omega)] at h1
      rw [List.getElem?_append_left (by simp; omega)] at h2
      exact w.st i a b h1 h2
    · have e : i = l.length := by omega
      subst e
      rw [List.getElem?_append_left (by simp), List.getElem?_concat_length] at h1
      have h2' : (l ++ [y] ++ [z])[(l ++ [y]).length]? = some b := by simpa using h2
      rw [List.getElem?_concat_length] at h2'
      cases h1
      cases h2'
      exact h

def Cyc (P : List (Str × Str)) (x y : Str) : Prop := ∃ c : List Str, x ∉ c ∧ y ∈ c ∧ ∀ z ∈ c, ∃ w ∈ c, ld P z = some w
theorem Wk.cyc (w : Wk P x l y) (h : ld P y = some z) (hz : z ∈ l ++ [y]) (ne : z ≠ x) : Cyc P x z := by
  obtain ⟨j, hj, e⟩ := List.getElem_of_mem hz
  have j0 : j ≠ 0 := fun z0 => by
    subst z0
    have := w.hd
    rw [List.getElem?_eq_getElem hj, e] at this
    exact ne (Option.some.inj this)
  have len : (l ++ [y]).length = l.length + 1 := by simp
  refine ⟨(l ++ [y]).drop j, fun hx => ?_, ?_, fun a ha => ?_⟩
  · obtain ⟨i, hi, ei⟩ := List.getElem_of_mem hx
    rw [List.getElem_drop] at ei
    rw [List.length_drop] at hi
    have h0 := w.hd
    rw [List.getElem?_eq_getElem (by omega)] at h0
    have := (List.getElem_inj w.nd).mp (ei.trans (Option.some.inj h0).symm)
    omega
  · refine List.mem_iff_getElem.mpr ⟨0, by rw [List.length_drop]; omega, ?_⟩
    rw [List.getElem_drop]
    exact e
  · obtain ⟨i, hi, ei⟩ := List.getElem_of_mem ha
    rw [List.getElem_drop] at ei
    rw [List.length_drop] at hi
    by_cases c : j + i + 1 < (l ++ [y]).length
    · refine ⟨(l ++ [y])[j + i + 1], ?_, w.st (j + i) a _ (by rw [List.getElem?_eq_getElem (by omega), ei]) (List.getElem?_eq_getElem c)⟩
      refine List.mem_iff_getElem.mpr ⟨i + 1, by rw [List.length_drop]; omega, ?_⟩
      rw [List.getElem_drop]
      congr 1
    · have e2 : j + i = l.length := by omega
      have : a = y := by
        rw [← ei]
        simp only [e2]
        simp
      subst this
      refine ⟨z, ?_, h⟩
      refine List.mem_iff_getElem.mpr ⟨0, by rw [List.length_drop]; omega, ?_⟩
      rw [List.getElem_drop]
      exact e
def ringO : Option (List Str) → Val
  | none => .non
  | some l => .tup (l.map .str)
theorem rg_none {n : Nat} (hn : 1 ≤ n) (h : ld P y = none) : rg P x n l y = none := by
  obtain ⟨k, rfl⟩ : ∃ k, n = k + 1 := ⟨n - 1, by omega⟩
  rw [rg, h]
theorem rg_ring {n : Nat} (hn : 1 ≤ n) (h : ld P y = some x) : rg P x n l y = some (l ++ [y]) := by
  obtain ⟨k, rfl⟩ : ∃ k, n = k + 1 := ⟨n - 1, by omega⟩
  rw [rg, h]
  exact if_pos rfl
theorem rg_cyc {n : Nat} (hn : 1 ≤ n) (h : ld P y = some z) (ne : z ≠ x) (hz : z ∈ l ++ [y]) : rg P x n l y = none := by
  obtain ⟨k, rfl⟩ : ∃ k, n = k + 1 := ⟨n - 1, by omega⟩
  rw [rg, h]
  exact (if_neg ne).trans (if_pos hz)
theorem rg_next {n : Nat} (h : ld P y = some z) (ne : z ≠ x) (hz : z ∉ l ++ [y]) : rg P x (n + 1) l y = rg P x n (l ++ [y]) z := by
  rw [rg, h]
  exact (if_neg ne).trans (if_neg hz)
theorem at_y : atI ((l ++ [y]).map Val.str) (-1 : Int) = some (.str y) := by
  rw [List.map_append]
  exact K13.at_last
theorem ring_from_wp (l8 : P.length ≤ 8) {rd : Nat} (gd : S[rd]? = some (.dic (fpD P))) :
    Wp (ring_from_ [.ref rd, .str x] S) fun v U => v = ringO (RG P x) ∧ Kn S U := by
  have lD : (fpD P).length = P.length := List.length_map ..
  refine AL.wf ?_; simp only [List.map_cons, List.map_nil, List.length_cons, List.length_nil, Nat.reduceAdd, Nat.reduceSub, List.replicate_succ, List.replicate_zero, List.cons_append, List.nil_append]; unfold ring_from_B; array_get_dec
  intro S1 rr e_rr l_S1 g_rr k_S1
  array_get_dec
  have lrd := lt_of_at gd
  refine ws_while (fun _ U => match U[rr]? with | some (.lst vs) => P.length + 1 - vs.length | _ => 0)
    (fun ρ U => ∃ (a3 : Option Val) (l : List Str) (y : Str), ρ = [some (.ref rd), some (.str x), some (.ref rr), a3] ∧ U[rr]? = some (.lst ((l ++ [y]).map .str)) ∧ Kx rr S1 U ∧ ((Wk P x l y ∧ RG P x = rg P x (9 - l.length) l y) ∨ (RG P x = none ∧ Cyc P x y)))
    ⟨_, [], x, rfl, g_rr, .refl _ _, .inl ⟨.one, rfl⟩⟩ ?_
  rintro _ U ⟨a3, l, y, rfl, gr, kU, hm⟩
  have gdU : U[rd]? = some (.dic (fpD P)) := kU _ _ (by omega) (k_S1 _ _ gd)
  have knU : Kn S U := fun q o ho => by
    have := lt_of_at ho
    exact kU q o (by omega) (k_S1 _ _ ho)
  array_get_dec
  refine vLenD rfl gdU ?_
  array_get_dec
  refine Br.of (fun c => ?_) (fun c => ?_)
  · have c := of_decide_eq_true c
    rw [List.length_map, List.length_append, List.length_singleton, lD] at c
    array_get_dec
    refine ⟨_, _, rfl, gdU, ?_⟩
    array_get_dec
    refine vIxL rfl rfl gr at_y ?_
    refine ⟨_, _, gdU, rfl, ?_⟩
    rw [val_ld]
    cases hv : ld P y with
    | none =>
      array_get_dec
      rcases hm with ⟨w, e⟩ | ⟨e, cy⟩
      · rw [e, rg_none (by have := w.len; omega) hv]
        exact ⟨rfl, knU⟩
      · rw [e]
        exact ⟨rfl, knU⟩
    | some w0 =>
      array_get_dec
      refine Br.of (fun c2 => ?_) (fun c2 => ?_)
      · have c2 : w0 = x := of_decide_eq_true c2
        subst c2
        array_get_dec
        rcases hm with ⟨w, e⟩ | ⟨e, cy⟩
        · rw [e, rg_ring (by have := w.len; omega) hv]
          exact ⟨rfl, knU⟩
        · obtain ⟨c, h1, h2, h3⟩ := cy
          obtain ⟨w, hw, e2⟩ := h3 y h2
          rw [hv] at e2
          cases e2
          exact absurd hw h1
      · have c2 : w0 ≠ x := of_decide_eq_false c2
        array_get_dec
        refine vApp rfl gr ?_ (small (by rw [List.length_map, List.length_append, List.length_singleton]; omega))
        intro V l_V g_V k_V
        refine ⟨⟨_, l ++ [y], w0, rfl, by rw [g_V, List.map_append (l₁ := l ++ [y])]; rfl, kU.trans k_V, ?_⟩, ?_⟩
        · rcases hm with ⟨w, e⟩ | ⟨e, cy⟩
          · have ln := w.len
            by_cases hz : w0 ∈ l ++ [y]
            · exact .inr ⟨by rw [e, rg_cyc (by omega) hv c2 hz], w.cyc hv hz c2⟩
            · refine .inl ⟨w.next hv hz, ?_⟩
              rw [e, show 9 - l.length = (9 - (l ++ [y]).length) + 1 by simp; omega]
              exact rg_next hv c2 hz
          · obtain ⟨c, h1, h2, h3⟩ := cy
            obtain ⟨w, hw, e2⟩ := h3 y h2
            rw [hv] at e2
            cases e2
            exact .inr ⟨e, c, h1, hw, h3⟩
        simp only [g_V, gr, List.length_append, List.length_map, List.length_singleton]
        omega
  · have c := of_decide_eq_false c
    rw [List.length_map, List.length_append, List.length_singleton, lD] at c
    array_get_dec
    rcases hm with ⟨w, e⟩ | ⟨e, cy⟩
    · have ln := w.len
      have : ld P y = none := by
        cases hv : ld P y with
        | none => rfl
        | some w0 => have := w.len2 hv; omega
      rw [e, rg_none (by omega) this]
      exact ⟨rfl, knU⟩
    · rw [e]
      exact ⟨rfl, knU⟩

def FR (P : List (Str × Str)) : Option (List Str) := P.findSome? fun p => RG P p.1
theorem fr_at {i : Nat} {p : Str × Str} {r : List Str} (hp : P[i]? = some p) (h : ∀ q ∈ P.take i, RG P q.1 = none) (e : RG P p.1 = some r) : FR P = some r := by
  obtain ⟨lt, ep⟩ := List.getElem?_eq_some_iff.mp hp
  unfold FR
  have : P = P.take i ++ p :: P.drop (i + 1) := by rw [← ep, ← List.drop_eq_getElem_cons lt, List.take_append_drop]
  refine List.findSome?_eq_some_iff.mpr ⟨P.take i, p, P.drop (i + 1), this, e, fun q hq => h q hq⟩
theorem fr_no (h : ∀ q ∈ P, RG P q.1 = none) : FR P = none := List.findSome?_eq_none_iff.mpr h
theorem follow_wp (nd : (P.map (·.1)).Nodup) (l8 : P.length ≤ 8) :
    Wp (follow_ring_ [.tup (P.map fpV)] S) fun v U => v = ringO (FR P) ∧ Kn S U := by
  refine AL.wf ?_; simp only [List.map_cons, List.map_nil, List.length_cons, List.length_nil, Nat.reduceAdd, Nat.reduceSub, List.replicate_succ, List.replicate_zero, List.cons_append, List.nil_append]; unfold follow_ring_B; array_get_dec
  refine wDc ?_
  array_get_dec
  refine .inl ⟨_, rfl, ?_⟩
  refine dc_inv (fun i a V => a = fpD (P.take i) ∧ i ≤ P.length ∧ V = S) (fun _ _ _ _ _ => trivial) (fun i a V ⟨h, h2, _⟩ => by rw [h]; unfold fpD; rw [List.length_map, List.length_take]; omega) ?_ ?_ ⟨rfl, Nat.zero_le _, rfl⟩
  · rintro i v a V hv ⟨rfl, h3, rfl⟩
    rw [List.getElem?_map] at hv
    obtain ⟨t, ht, rfl⟩ := Option.map_eq_some_iff.mp hv
    obtain ⟨lt, et⟩ := List.getElem?_eq_some_iff.mp ht
    have tk : P.take (i + 1) = P.take i ++ [t] := by rw [List.take_succ_eq_append_getElem lt, et]
    refine bn rfl ?_
    array_get_dec
    refine ⟨.inr t.1, rfl, ?_, lt, rfl⟩
    refine (putA_no ?_).trans ?_
    · unfold fpD
      rw [List.map_map]
      intro z
      obtain ⟨q, hq, e⟩ := List.mem_map.mp z
      have nd2 : ((P.take (i + 1)).map (·.1)).Nodup := ((List.take_sublist _ _).map _).nodup nd
      rw [tk, List.map_append, List.nodup_append] at nd2
      exact nd2.2.2 _ (List.mem_map_of_mem (f := (·.1)) hq) _ (by simp) (Sum.inr.inj e)
    · rw [tk]
      unfold fpD
      rw [List.map_append]
      rfl
  rintro a V ⟨rfl, _, rfl⟩
  rw [List.length_map, List.take_length]
  intro S1 rd e_rd l_S1 g_rd k_S1
  array_get_dec
  refine .inl ⟨_, rfl, ?_⟩
  refine ws_loop (fun i ρ U => (∃ a2 a3 a4 : Option Val, ρ = [some (.tup (P.map fpV)), some (.ref rd), a2, a3, a4]) ∧ Kn S1 U ∧ ∀ q ∈ P.take i, RG P q.1 = none) ⟨⟨_, _, _, rfl⟩, .refl _, fun q h => by simp at h⟩ (fun _ _ _ _ _ => trivial) ?_ ?_
  · rintro i v ρ U hv ⟨⟨a2, a3, a4, rfl⟩, kU, hN⟩
    rw [List.getElem?_map] at hv
    obtain ⟨t, ht, rfl⟩ := Option.map_eq_some_iff.mp hv
    obtain ⟨lt, et⟩ := List.getElem?_eq_some_iff.mp ht
    have tk : P.take (i + 1) = P.take i ++ [t] := by rw [List.take_succ_eq_append_getElem lt, et]
    refine bn rfl ?_
    dsimp only [List.set_cons_zero, List.set_cons_succ]
    array_get_dec
    refine (ring_from_wp l8 (kU _ _ g_rd)).imp ?_
    rintro _ U1 ⟨rfl, k1⟩
    cases hr : RG P t.1 with
    | none =>
      array_get_dec
      refine ⟨⟨_, _, _, rfl⟩, kU.trans k1, fun q hq => ?_⟩
      rw [tk] at hq
      rcases List.mem_append.mp hq with h | h
      · exact hN q h
      · rw [List.mem_singleton.mp h]
        exact hr
    | some r =>
      array_get_dec
      rw [fr_at ht hN hr]
      exact ⟨rfl, k_S1.trans (kU.trans k1)⟩
  · rintro ρ U ⟨⟨a2, a3, a4, rfl⟩, kU, hN⟩
    array_get_dec
    rw [fr_no fun q hq => hN q (by rw [List.length_map, List.take_length]; exact hq)]
    exact ⟨rfl, k_S1.trans kU⟩
end
end K63
namespace K63
open PySem PySem.Spec PyProof.Rows L2 G Th AL KL Fr Od
open K57 (feedL_ feedL_B drawL_ drawL_B keyL_ keyL_B endsL_ endsL_B)
open K57 (val_map nd_len vInL vInD pairs_map nd_inr Tf draw_wp K2 pool nm_pool NmOk vSortGS sortS_perm Net NOk netV stV SOk Rw rwV boV bsV feed_wp sh_st)
open K62 (ring_from_ ring_from_B follow_ring_ follow_ring_B fpV fpD)
open K67 (follows_of_ follows_of_B follows_wp folT folG)
open K60 (putA_no nm_tx)
open K37 (merge_app Sh ShL p60)
open K08 (ws_cut)
section
variable {P : List (Str × Str)} {S : Sto} {x y z : Str} {l : List Str}
structure POk (P : List (Str × Str)) : Prop where
  nd : (P.map (·.1)).Nodup
  len : P.length ≤ 8
  nm : ∀ p ∈ P, NmOk p.1 ∧ NmOk p.2
theorem ringL_wp (ok : POk P) : Wp (ringL_ [.ptu (P.map fpV)] S) fun v U => v = ringO (FR P) ∧ Kn S U := by
  have l8 := ok.len
  have lD : (fpD P).length = P.length := List.length_map ..
  refine AL.wf ?_; simp only [List.map_cons, List.map_nil, List.length_cons, List.length_nil, Nat.reduceAdd, Nat.reduceSub, List.replicate_succ, List.replicate_zero, List.cons_append, List.nil_append]; unfold ringL_B; array_get_dec
  have pk : pairsK (P.map fpV) = some (fpD P) := pairs_map (fun p : Str × Str => p.1) (fun p : Str × Str => Val.str p.2) P
  refine vDictP rfl pk ?_
  rw [show mergeA [] (fpD P) = fpD P from merge_app (fpD P) [] (by rw [List.nil_append]; exact nd_inr (fun p : Str × Str => p.1) (fun p : Str × Str => Val.str p.2) ok.nd)]
  intro S1 rd e_rd l_S1 g_rd k_S1
  array_get_dec
  refine wUnp ?_
  array_get_dec
  refine .inl ⟨_, rfl, ?_⟩
  refine ws_loop (fun i ρ U => (∃ a2 a3 a4 : Option Val, ρ = [some (.ptu (P.map fpV)), some (.ref rd), a2, a3, a4]) ∧ Kn S1 U ∧ ∀ q ∈ P.take i, RG P q.1 = none) ⟨⟨_, _, _, rfl⟩, .refl _, fun q h => by simp at h⟩ (fun _ _ _ _ _ => trivial) ?_ ?_
  · rintro i v ρ U hv ⟨⟨a2, a3, a4, rfl⟩, kU, hN⟩
    rw [List.getElem?_map] at hv
    obtain ⟨t, ht, rfl⟩ := Option.map_eq_some_iff.mp hv
    obtain ⟨lt, et⟩ := List.getElem?_eq_some_iff.mp ht
    have tk : P.take (i + 1) = P.take i ++ [t] := by rw [List.take_succ_eq_append_getElem lt, et]
    have gd := kU _ _ g_rd
    refine bn rfl ?_
    dsimp only [List.set_cons_zero, List.set_cons_succ]
    array_get_dec
    intro S2 rf e_rf l_S2 g_rf k_S2
    have gd2 := k_S2 _ _ gd
    have lrd := lt_of_at gd
    array_get_dec
    refine ws_while (fun _ U => match U[rf]? with | some (.lst vs) => P.length + 2 - vs.length | _ => 0)
      (fun ρ W => ∃ (l : List Str) (y : Str), ρ = [some (.ptu (P.map fpV)), some (.ref rd), some (.str t.1), some (.str t.2), some (.ref rf)] ∧ W[rf]? = some (.lst ((l ++ [y]).map .str)) ∧ Kx rf S2 W ∧ Wk P t.1 l y ∧ RG P t.1 = rg P t.1 (9 - l.length) l y)
      ⟨[], t.1, rfl, g_rf, .refl _ _, .one, rfl⟩ ?_
    rintro _ W ⟨l, y, rfl, gr, kW, w, e⟩
    have gdW : W[rd]? = some (.dic (fpD P)) := kW _ _ (by omega) gd2
    have ln := w.len
    have knW : Kn U W := fun q o ho => by
      have := lt_of_at ho
      exact kW q o (by omega) (k_S2 _ _ ho)
    array_get_dec
    refine ⟨_, _, rfl, gdW, ?_⟩
    array_get_dec
    refine vIxL rfl rfl gr at_y ?_
    array_get_dec
    refine ⟨_, _, gdW, rfl, ?_⟩
    rw [val_ld, show ((ld P y).map Val.str).getD (.str t.1) = .str ((ld P y).getD t.1) by cases ld P y <;> rfl]
    array_get_dec
    refine vInL gr ?_
    refine tb rfl (Br.of (fun c => ?_) (fun c => ?_))
    · have c : (ld P y).getD t.1 ∉ l ++ [y] := by simpa using c
      cases hv : ld P y with
      | none =>
        rw [hv] at c
        exact absurd w.mem c
      | some z =>
        rw [hv] at c
        have c : z ∉ l ++ [y] := c
        have ne : z ≠ t.1 := fun h => c (h ▸ w.mem)
        have l2 := w.len2 hv
        array_get_dec
        refine vIxL rfl rfl gr at_y ?_
        refine vIxD rfl gdW rfl (by rw [val_ld, hv]; rfl) ?_
        array_get_dec
        refine vApp rfl gr ?_ (small (by rw [List.length_map, List.length_append, List.length_singleton]; omega))
        intro V l_V g_V k_V
        refine ⟨⟨l ++ [y], z, rfl, by rw [g_V, List.map_append (l₁ := l ++ [y])]; rfl, kW.trans k_V, w.next hv c, ?_⟩, ?_⟩
        · rw [e, show 9 - l.length = (9 - (l ++ [y]).length) + 1 by simp; omega]
          exact rg_next hv ne c
        · simp only [g_V, gr, List.length_append, List.length_map, List.length_singleton]
          omega
    · have c : (ld P y).getD t.1 ∈ l ++ [y] := by simpa only [if_true, Bool.not_eq_false', decide_eq_true_eq] using c
      have next : RG P t.1 = none → (∃ a2 a3 a4 : Option Val, ([some (.ptu (P.map fpV)), some (.ref rd), some (.str t.1), some (.str t.2), some (.ref rf)] : Rho) = [some (.ptu (P.map fpV)), some (.ref rd), a2, a3, a4]) ∧ Kn S1 W ∧ ∀ q ∈ P.take (i + 1), RG P q.1 = none := fun hr => by
        refine ⟨⟨_, _, _, rfl⟩, kU.trans knW, fun q hq => ?_⟩
        rw [tk] at hq
        rcases List.mem_append.mp hq with h | h
        · exact hN q h
        · rw [List.mem_singleton.mp h]
          exact hr
      array_get_dec
      refine vIxL rfl rfl gr at_y ?_
      array_get_dec
      refine vInD gdW ?_
      rw [val_ld]
      cases hv : ld P y with
      | none =>
        refine tb rfl (brF rfl ?_)
        refine brF rfl ?_
        array_get_dec
        exact next (by rw [e, rg_none (by omega) hv])
      | some z =>
        rw [hv] at c
        have c : z ∈ l ++ [y] := c
        refine tb rfl (brT rfl ?_)
        array_get_dec
        refine vIxL rfl rfl gr at_y ?_
        refine vIxD rfl gdW rfl (by rw [val_ld, hv]; rfl) ?_
        array_get_dec
        refine Br.of (fun c2 => ?_) (fun c2 => ?_)
        · have c2 : z = t.1 := of_decide_eq_true c2
          subst c2
          array_get_dec
          rw [fr_at ht hN (by rw [e, rg_ring (by omega) hv])]
          exact ⟨rfl, k_S1.trans (kU.trans knW)⟩
        · array_get_dec
          exact next (by rw [e, rg_cyc (by omega) hv (of_decide_eq_false c2) c])
  · rintro ρ U ⟨⟨a2, a3, a4, rfl⟩, kU, hN⟩
    array_get_dec
    rw [fr_no fun q hq => hN q (by rw [List.length_map, List.take_length]; exact hq)]
    exact ⟨rfl, k_S1.trans kU⟩
theorem rg_mem {Q : Str → Prop} (hP : ∀ p ∈ P, Q p.2) : ∀ {n : Nat} {l : List Str} {y : Str} {r : List Str}, (∀ a ∈ l ++ [y], Q a) → rg P x n l y = some r → (∀ a ∈ r, Q a) ∧ r.length ≤ l.length + n
  | 0, _, _, _, _, h => by cases h
  | n + 1, l, y, r, ha, h => by
    rw [rg] at h
    cases hv : ld P y with
    | none => rw [hv] at h; cases h
    | some z =>
      rw [hv] at h
      dsimp only at h
      split at h
      · cases h
        exact ⟨ha, by simp⟩
      · split at h
        · cases h
        · have qz : Q z := by
            obtain ⟨p, hp, e⟩ := Option.map_eq_some_iff.mp hv
            rw [← e]
            exact hP p (List.mem_of_find?_eq_some hp)
          obtain ⟨h1, h2⟩ := rg_mem hP (l := l ++ [y]) (y := z) (fun a h3 => by
            rcases List.mem_append.mp h3 with h4 | h4
            · exact ha a h4
            · rw [List.mem_singleton.mp h4]
              exact qz) h
          refine ⟨h1, ?_⟩
          rw [List.length_append, List.length_singleton] at h2
          omega
theorem fr_mem (ok : POk P) {r : List Str} (h : FR P = some r) : (∀ a ∈ r, NmOk a) ∧ r.length ≤ 9 := by
  obtain ⟨p, hp, e⟩ := List.exists_of_findSome?_eq_some h
  have := rg_mem (Q := NmOk) (fun q hq => (ok.nm q hq).2) (l := []) (y := p.1) (fun a ha => by
    rw [List.nil_append] at ha
    rw [List.mem_singleton.mp ha]
    exact (ok.nm p hp).1) e
  simpa using this
theorem sh_ring (ok : POk P) : Sh 1 200 (ringO (FR P)) := by
  cases h : FR P with
  | none => exact .non
  | some r =>
    obtain ⟨h1, h2⟩ := fr_mem ok h
    have : ShL 0 (9 * r.length) (r.map Val.str) := ShL.map (f := Val.str) r fun x hx => Sh.str (nm_tx (h1 x hx))
    exact this.tup.mono (Nat.le_refl _) (by omega)
theorem sh_pairs (ok : POk P) : Sh 2 250 (.tup (P.map fpV)) := by
  have l8 := ok.len
  have : ShL 1 (21 * P.length) (P.map fpV) := ShL.map (f := fpV) P fun p hp => ((ShL.cons (Sh.str (nm_tx (ok.nm p hp).1)) (ShL.cons (Sh.str (nm_tx (ok.nm p hp).2)) (ShL.nil (w := 0)))).tup).mono (Nat.le_refl _) (by omega)
  exact this.tup.mono (Nat.le_refl _) (by omega)
def flw (s : List Rw) : List (Str × Str) := s.filterMap fun r => match r.best with
  | some b => if b.who = r.name then none else some (r.name, b.who)
  | none => none
theorem flw_eq : ∀ s : List Rw, ((s.map rwV).filter folT).map folG = (flw s).map fpV
  | [] => rfl
  | r :: s => by
    have ih := flw_eq s
    unfold flw at ih ⊢
    rw [List.map_cons, List.filterMap_cons]
    cases hb : r.best with
    | none =>
      have e1 : folT (rwV r) = false := by unfold rwV; rw [hb]; rfl
      rw [List.filter_cons_of_neg (by rw [e1]; decide)]
      exact ih
    | some b =>
      have e1 : folT (rwV r) = !decide (b.who = r.name) := by unfold rwV; rw [hb]; rfl
      have e2 : folG (rwV r) = .tup [.str r.name, .str b.who] := by unfold rwV; rw [hb]; rfl
      by_cases c : b.who = r.name
      · rw [List.filter_cons_of_neg (by rw [e1, decide_eq_true c]; decide), ih]
        simp [c]
      · rw [List.filter_cons_of_pos (by rw [e1, decide_eq_false c]; rfl), List.map_cons, ih, e2]
        simp [c, fpV]
theorem flw_nm : ∀ s : List Rw, ((flw s).map (·.1)).Sublist (s.map Rw.name)
  | [] => .slnil
  | r :: s => by
    have ih := flw_nm s
    unfold flw at ih ⊢
    rw [List.map_cons, List.filterMap_cons]
    cases hb : r.best with
    | none => exact ih.cons _
    | some b =>
      by_cases c : b.who = r.name
      · simp only [c, if_true]
        exact ih.cons _
      · simp only [if_neg c, List.map_cons]
        exact ih.cons₂ _
theorem flw_ok {n : Net} {s : List Rw} (hn : NOk n) (so : SOk n s) : POk (flw s) := by
  have h8 := hn.len
  have ls := so.len
  refine ⟨(flw_nm s).nodup (so.nd hn), ?_, fun p hp => ?_⟩
  · have := (flw_nm s).length_le
    rw [List.length_map, List.length_map] at this
    omega
  · unfold flw at hp
    obtain ⟨r, hr, e⟩ := List.mem_filterMap.mp hp
    cases hb : r.best with
    | none => rw [hb] at e; cases e
    | some b =>
      rw [hb] at e
      dsimp only at e
      split at e
      · cases e
      · cases e
        refine ⟨?_, hn.nm ((so.row r hr).best b hb).who⟩
        have : r.name ∈ s.map Rw.name := List.mem_map_of_mem hr
        rw [so.nm] at this
        exact hn.nm this
end
end K63
namespace K70
open PySem PySem.Spec PyProof.Rows L2 G Th AL KL Fr Od Bf
open K57 (wireV Mb mbV Net netV WOk NOk NmOk keyV mkey Ky KyOk tl tl_inj tl_asym sortS_perm sortS_pw sortS_eq pool nm_pool poolX oes oes_perm Rw Bs Hd rwV stV bsV boV SOk RwOk BsOk HdOk bestOf bestOf_at bestOf_ok frs kps mem_frs mem_kps offers minB minB_mem minT_B own heardN rowN rnd rnd_ok itr itr_ok)
open K60 (UOk piece mem_piece kyV kyV_inj keyN keyN_at keyN_nm leS_refl)
open K65 (upL mem_upL upL_ok gkey gk_of isGh isGh_iff ghs)
open K67 (upL_itr best_row rnd_row rowN_name heard_mem Fre offer_of bs_lt_key bs_lt_st bs_lt_who keyV_inj minB_is)
open K56 (fst fst_ok up upR rowU up_ok zip_at up_len)
def lnm (s : Nat) : List Str := pool.take s
def lws (s : Nat) : List (Str × Str) := (List.range (s - 1)).map fun k => (pool.getD k ("a" : Str), pool.getD (k + 1) ("a" : Str))
def lwr (s : Nat) (r : Bool) : List (Str × Str) := if r = true then lws s ++ [(("a" : Str), pool.getD (s - 1) ("a" : Str))] else lws s
def lwS (s : Nat) (r : Bool) : List (Str × Str) := if r = true then (lws s).take 1 ++ [(("a" : Str), pool.getD (s - 1) ("a" : Str))] ++ (lws s).drop 1 else lws s
def lnN (s : Nat) (r : Bool) : Net := ⟨(lnm s).map fun x => ⟨x, 0, 0⟩, lwS s r⟩
theorem lwS_perm (s : Nat) (r : Bool) : (lwS s r).Perm (lwr s r) := by
  unfold lwS lwr
  split
  · have e : (lws s).take 1 ++ (lws s).drop 1 = lws s := List.take_append_drop ..
    have : ((lws s).take 1 ++ [(("a" : Str), pool.getD (s - 1) ("a" : Str))] ++ (lws s).drop 1).Perm ((lws s).take 1 ++ (lws s).drop 1 ++ [(("a" : Str), pool.getD (s - 1) ("a" : Str))]) := by
      rw [List.append_assoc, List.append_assoc]
      exact List.perm_append_comm.append_left _
    rwa [e] at this
  · exact .refl _
theorem srt_dec {l : List Val} (h : l.Pairwise fun x y => ltV y x = false) : Srt l := h
theorem line_ok {s : Nat} (h3 : 3 ≤ s) (h8 : s ≤ 8) (r : Bool) : NOk (lnN s r) := by
  have h : s = 3 ∨ s = 4 ∨ s = 5 ∨ s = 6 ∨ s = 7 ∨ s = 8 := by omega
  rcases h with rfl | rfl | rfl | rfl | rfl | rfl <;> cases r
  all_goals exact ⟨by decide +kernel, by decide +kernel, by decide +kernel, by decide +kernel, by decide +kernel, ⟨by decide +kernel, by decide +kernel, by decide +kernel⟩, srt_dec (by decide +kernel), (sortS_eq (by decide +kernel) (.refl _)).symm⟩
theorem line_a {s : Nat} (h3 : 3 ≤ s) (h8 : s ≤ 8) (r : Bool) : ("a" : Str) ∈ (lnN s r).names ∧ ("ab" : Str) ∈ (lnN s r).names ∧ (("a" : Str), ("ab" : Str)) ∈ (lnN s r).ws := by
  have h : s = 3 ∨ s = 4 ∨ s = 5 ∨ s = 6 ∨ s = 7 ∨ s = 8 := by omega
  rcases h with rfl | rfl | rfl | rfl | rfl | rfl <;> cases r
  all_goals exact ⟨by decide +kernel, by decide +kernel, by decide +kernel⟩
def ka : Ky := ⟨0, 0, "a"⟩
theorem line_key {s : Nat} (h3 : 3 ≤ s) (h8 : s ≤ 8) (r : Bool) : ∀ m ∈ (lnN s r).ms, ltV (keyV (mkey m)) (keyV ka) = false ∧ (m.name = "a" → mkey m = ka) := by
  have h : s = 3 ∨ s = 4 ∨ s = 5 ∨ s = 6 ∨ s = 7 ∨ s = 8 := by omega
  intro m hm
  refine ⟨?_, fun e => ?_⟩
  · revert m
    rcases h with rfl | rfl | rfl | rfl | rfl | rfl <;> cases r <;> decide +kernel
  · obtain ⟨x, hx, rfl⟩ := List.mem_map.mp hm
    have e : x = "a" := e
    rw [e]
    rfl
section
variable {n : Net} {s : List Rw} {ws : List (Str × Str)} {x y : Str} {mo a : Nat}
structure Lst (n : Net) : Prop where
  a : ("a" : Str) ∈ n.names
  ab : ("ab" : Str) ∈ n.names
  w : (("a" : Str), ("ab" : Str)) ∈ n.ws
  key : ∀ m ∈ n.ms, ltV (keyV (mkey m)) (keyV ka) = false ∧ (m.name = "a" → mkey m = ka)
theorem line_lst {s : Nat} (h3 : 3 ≤ s) (h8 : s ≤ 8) (r : Bool) : Lst (lnN s r) := by
  obtain ⟨h1, h2, h4⟩ := line_a h3 h8 r
  exact ⟨h1, h2, h4, line_key h3 h8 r⟩
structure Inv (s : List Rw) : Prop where
  b : ∀ r ∈ s, ∀ b, r.best = some b → ltV (keyV b.key) (keyV ka) = false
  h : ∀ r ∈ s, ∀ h ∈ r.hs, ltV (keyV h.key) (keyV ka) = false
theorem inv_fst (L : Lst n) : Inv (n.ms.map fst) := by
  refine ⟨fun r hr b hb => ?_, fun r hr h hh => ?_⟩
  · obtain ⟨m, hm, rfl⟩ := List.mem_map.mp hr
    cases hb
    exact (L.key m hm).1
  · obtain ⟨m, hm, rfl⟩ := List.mem_map.mp hr
    cases hh
theorem heard_inv (hn : NOk n) (so : SOk n s) (I : Inv s) {r : Rw} (hr : r ∈ s) : ∀ h ∈ heardN s ws a r, ltV (keyV h.key) (keyV ka) = false := fun h hh => by
  rcases (heard_mem (most := (0 : Int))).mp hh with ⟨b, h1, h2, h3⟩ | ⟨g, hg, _, _, rfl⟩
  · obtain ⟨q, hq, _, eb⟩ := best_row hn so h2
    rw [h3]
    exact I.b q hq b eb
  · exact I.h r hr g hg
theorem inv_rnd (L : Lst n) (hn : NOk n) (so : SOk n s) (I : Inv s) : Inv (rnd n s ws mo a) := by
  refine ⟨fun q hq b hb => ?_, fun q hq h hh => ?_⟩
  · obtain ⟨m, hm, r, hr, _, rfl⟩ := rnd_row hn so hq
    cases e : r.best with
    | none =>
      unfold rowN at hb
      rw [e] at hb
      rw [e] at hb
      cases hb
    | some b0 =>
      unfold rowN at hb
      rw [e] at hb
      have hb := Option.some.inj hb
      rw [← hb]
      rcases minB_mem (offers mo (heardN s ws a r)) (own m) with h | h
      · rw [h]
        exact (L.key m hm).1
      · obtain ⟨g, hg, _, eg⟩ := offer_of h
        rw [eg]
        exact heard_inv hn so I hr g hg
  · obtain ⟨m, hm, r, hr, _, rfl⟩ := rnd_row hn so hq
    cases e : r.best with
    | none =>
      unfold rowN at hh
      rw [e] at hh
      exact I.h r hr h hh
    | some b0 =>
      unfold rowN at hh
      rw [e] at hh
      exact heard_inv hn so I hr h hh
theorem inv_itr (L : Lst n) (hn : NOk n) (w : WOk n.names ws) (a4 : a ≤ 4) (m9 : mo ≤ 9) : ∀ t, Inv (itr n ws mo a (n.ms.map fst) t)
  | 0 => inv_fst L
  | t + 1 => inv_rnd L hn (itr_ok hn (fst_ok hn) w (by omega) (by omega) t) (inv_itr L hn w a4 m9 t)
theorem upL_fst : upL (n.ms.map fst) = n.names := by
  unfold upL Net.names
  rw [List.filter_eq_self.mpr fun r hr => by
    obtain ⟨m, _, rfl⟩ := List.mem_map.mp hr
    rfl, List.map_map]
  rfl

theorem next_best (hn : NOk n) (so : SOk n s) (hx : bestOf (rnd n s ws mo a) x ≠ none) (a4 : a ≤ 4) (m9 : mo ≤ 9) (w : WOk n.names ws) : ∃ m ∈ n.ms, m.name = x ∧ ∃ r ∈ s, r.name = x ∧ bestOf (rnd n s ws mo a) x = some (minB (own m) (offers mo (heardN s ws a r))) ∧ ∀ h ∈ heardN s ws a r, 0 ≤ h.st := by
  obtain ⟨b, hb⟩ := Option.ne_none_iff_exists'.mp hx
  obtain ⟨q, hq, en, eb⟩ := best_row hn (rnd_ok hn so w (by omega) (by omega)) hb
  have hq2 := hq
  obtain ⟨m, hm, r, hr, e, rfl⟩ := rnd_row hn so hq
  rw [(rowN_name m r).1] at en
  refine ⟨m, hm, e.symm.trans en, r, hr, en, ?_, ?_⟩
  · rw [hb]
    cases e0 : r.best with
    | none =>
      unfold rowN at eb
      rw [e0] at eb
      rw [e0] at eb
      cases eb
    | some b0 =>
      unfold rowN at eb
      rw [e0] at eb
      exact eb.symm
  · cases e0 : r.best with
    | none =>
      unfold rowN at eb
      rw [e0] at eb
      rw [e0] at eb
      cases eb
    | some b0 =>
      have ok := (rnd_ok hn so w (age := a) (most := mo) (by omega) (by omega)).row _ hq2
      unfold rowN at ok
      rw [e0] at ok
      exact fun h hh => (ok.hs h hh).s0
theorem a_best (L : Lst n) (hn : NOk n) (w : WOk n.names ws) (a4 : a ≤ 4) (m9 : mo ≤ 9) : ∀ t, bestOf (itr n ws mo a (n.ms.map fst) t) "a" = some ⟨ka, 0, "a"⟩
  | 0 => by
    obtain ⟨m, hm, e⟩ := List.mem_map.mp L.a
    have := bestOf_at ((fst_ok hn).nd hn) (List.mem_map_of_mem (f := fst) hm)
    rw [show (fst m).name = "a" from e] at this
    show bestOf (n.ms.map fst) "a" = _
    rw [this]
    show some (⟨mkey m, 0, m.name⟩ : Bs) = _
    rw [(L.key m hm).2 e, e]
  | t + 1 => by
    have so := itr_ok hn (fst_ok hn) w (age := a) (most := mo) (by omega) (by omega) t
    have I := inv_itr L hn w a4 m9 (mo := mo) t
    have hx : bestOf (rnd n (itr n ws mo a (n.ms.map fst) t) ws mo a) "a" ≠ none := fun z => by
      have : ("a" : Str) ∈ upL (itr n ws mo a (n.ms.map fst) (t + 1)) := by
        rw [upL_itr hn (fst_ok hn) w a4 m9, upL_fst]
        exact L.a
      obtain ⟨b, hb⟩ := (mem_upL hn (itr_ok hn (fst_ok hn) w (by omega) (by omega) (t + 1))).mp this
      exact absurd (hb.symm.trans z) (by simp)
    obtain ⟨m, hm, em, r, hr, er, eb, hs⟩ := next_best hn so hx a4 m9 w
    refine eb.trans (congrArg some ?_)
    have eo : own m = ⟨ka, 0, "a"⟩ := by
      show (⟨mkey m, 0, m.name⟩ : Bs) = _
      rw [(L.key m hm).2 em, em]
    rw [eo]
    refine minB_is (.inl rfl) fun o ho => ?_
    rcases ho with rfl | ho
    · exact bs_lt_who rfl rfl (leS_refl _)
    · obtain ⟨g, hg, lt, rfl⟩ := offer_of ho
      have p := heard_inv hn so I hr g hg
      have s0 := hs g hg
      by_cases c : keyV g.key = keyV ka
      · rw [bs_lt_st c (by show g.st + 1 ≠ 0; omega)]
        exact decide_eq_false (by show ¬ g.st + 1 < 0; omega)
      · rw [bs_lt_key c]
        exact p
theorem ab_best (L : Lst n) (hn : NOk n) (a4 : a ≤ 4) (m9 : mo ≤ 9) (m1 : 0 < mo) (t : Nat) : ∃ b, bestOf (itr n n.ws mo a (n.ms.map fst) (t + 1)) "ab" = some b ∧ b.key = ka := by
  have w := hn.w
  have so := itr_ok hn (fst_ok hn) w (age := a) (most := mo) (by omega) (by omega) t
  have I := inv_itr L hn w a4 m9 (mo := mo) t
  have hx : bestOf (rnd n (itr n n.ws mo a (n.ms.map fst) t) n.ws mo a) "ab" ≠ none := fun z => by
    have : ("ab" : Str) ∈ upL (itr n n.ws mo a (n.ms.map fst) (t + 1)) := by
      rw [upL_itr hn (fst_ok hn) w a4 m9, upL_fst]
      exact L.ab
    obtain ⟨b, hb⟩ := (mem_upL hn (itr_ok hn (fst_ok hn) w (by omega) (by omega) (t + 1))).mp this
    exact absurd (hb.symm.trans z) (by simp)
  obtain ⟨m, hm, em, r, hr, er, eb, hs⟩ := next_best hn so hx a4 m9 w
  refine ⟨_, eb, ?_⟩
  have inh : (⟨"a", ka, 0, 0⟩ : Hd) ∈ heardN (itr n n.ws mo a (n.ms.map fst) t) n.ws a r := by
    refine (heard_mem (most := (0 : Int))).mpr (.inl ⟨⟨ka, 0, "a"⟩, ?_, a_best L hn w a4 m9 t, rfl⟩)
    rw [er]
    unfold oes
    refine List.mem_map.mpr ⟨("a", "ab"), List.mem_filter.mpr ⟨L.w, by simp⟩, by decide⟩
  have ino : (⟨ka, 1, "a"⟩ : Bs) ∈ offers mo (heardN (itr n n.ws mo a (n.ms.map fst) t) n.ws a r) := List.mem_map.mpr ⟨_, List.mem_filter.mpr ⟨inh, decide_eq_true (by show (0 : Int) < mo; omega)⟩, rfl⟩
  have le := minT_le (bsV (own m)) ((offers mo (heardN (itr n n.ws mo a (n.ms.map fst) t) n.ws a r)).map bsV) (bsV ⟨ka, 1, "a"⟩) (List.mem_cons_of_mem _ (List.mem_map_of_mem ino))
  rw [minT_B] at le
  have pb : ltV (keyV (minB (own m) (offers mo (heardN (itr n n.ws mo a (n.ms.map fst) t) n.ws a r))).key) (keyV ka) = false := by
    rcases minB_mem (offers mo (heardN (itr n n.ws mo a (n.ms.map fst) t) n.ws a r)) (own m) with h | h
    · rw [h]
      exact (L.key m hm).1
    · obtain ⟨g, hg, _, eg⟩ := offer_of h
      rw [eg]
      exact heard_inv hn so I hr g hg
  by_cases c : keyV ka = keyV (minB (own m) (offers mo (heardN (itr n n.ws mo a (n.ms.map fst) t) n.ws a r))).key
  · exact (keyV_inj c).symm
  · rw [bs_lt_key (b := ⟨ka, 1, "a"⟩) c] at le
    exact (keyV_inj (trV_inj _ _ rfl rfl (tot _ _ pb le)))

theorem ghost_there (hn : NOk n) (so : SOk n s) {b : Bs} (hb : bestOf s "ab" = some b) (ek : b.key = ka) (L : Lst n) (w : WOk n.names ws) : ghs n (up n s "a" false) ws ≠ [] := by
  have so2 := up_ok hn so "a" false
  have nds := so2.nd hn
  have e1 : bestOf (up n s "a" false) "ab" = some b := by
    obtain ⟨r, hr, en, eb⟩ := best_row hn so hb
    have : r ∈ up n s "a" false := by
      obtain ⟨i, hi⟩ := List.getElem?_of_mem hr
      have li := (List.getElem?_eq_some_iff.mp hi).1
      have ls := up_len so
      have hm : n.ms[i]? = some n.ms[i] := List.getElem?_eq_getElem (by omega)
      refine List.mem_map.mpr ⟨(n.ms[i], r), List.mem_of_getElem? (i := i) (List.getElem?_zip_eq_some.mpr ⟨hm, hi⟩), ?_⟩
      unfold upR
      rw [if_neg (by rw [en]; decide)]
    have := bestOf_at nds this
    rwa [en, eb] at this
  have nu : ("a" : Str) ∉ upL (up n s "a" false) := fun z => by
    obtain ⟨c, hc⟩ := (mem_upL hn so2).mp z
    obtain ⟨r, hr, en, eb⟩ := best_row hn so2 hc
    obtain ⟨⟨m, q⟩, hp, e⟩ := List.mem_map.mp hr
    unfold upR at e
    split at e
    · unfold rowU at e
      split at e
      · next h =>
        have e : q = r := e
        rw [e, eb] at h
        cases h
      · rw [← e] at eb
        cases eb
    · next h =>
      have e : q = r := e
      exact h (by show q.name = _; rw [e, en])
  have xu : ("ab" : Str) ∈ upL (up n s "a" false) := (mem_upL hn so2).mpr ⟨b, e1⟩
  have gh : isGh n (up n s "a" false) ws "ab" = true := isGh_iff.mpr fun z => by
    obtain ⟨y, hy, e⟩ := List.mem_map.mp z
    rw [gk_of e1, ek] at e
    have : keyN n y = ka := keyV_inj e
    have e2 : y = "a" := by rw [← keyN_nm n y, this]; rfl
    exact nu (e2 ▸ (mem_piece.mp hy).1)
  intro z
  unfold ghs at z
  rw [List.map_eq_nil_iff, List.filter_eq_nil_iff] at z
  exact z _ xu gh
end
end K70
namespace K70
open PySem PySem.Spec PyProof.Rows L2 G Th AL KL Fr Od Bf
open K57 (other_ends_ other_ends_B own_best_ own_best_B row_behind_ row_behind_B state_round_ state_round_B feedL_ feedL_B drawL_ drawL_B keyL_ keyL_B endsL_ endsL_B turnedL_ turnedL_B)
open K56 (first_state_ first_state_B row_up_ row_up_B state_up_ state_up_B)
open K58 (NetRun_state_now_ NetRun_state_now_B NetRun_init_ NetRun_init_B NetRun_go_round_ NetRun_go_round_B NetRun_set_up_ NetRun_set_up_B NetRun_set_wire_ NetRun_set_wire_B)
open K60 (near_names_ near_names_B own_keys_ own_keys_B steps_from_ steps_from_B pieces_of_ pieces_of_B nearer_ nearer_B tree_paper_ tree_paper_B farL_ farL_B)
open K62 (ring_from_ ring_from_B follow_ring_ follow_ring_B)
open K65 (ghosts_of_ ghosts_of_B rounds_to_halt_ rounds_to_halt_B)
open K67 (follows_of_ follows_of_B)
open K63 (ringL_ ringL_B)
open K57 (wireV Mb mbV Net netV WOk NOk NmOk keyV mkey Ky KyOk tl nm_pool pool keyL_wp vInL vSortGT ok_sort wire_ok wire_sm Rw Bs Hd rwV stV bsV boV SOk RwOk bestOf bestOf_at bestOf_ok rnd rnd_ok itr itr_ok sh_ky reprL sh_st)
open K60 (UOk piece mem_piece kyV kyF kyF_map kyD key_at keyN mb1 dictOf_keys far_wp nm_tx)
open K65 (upL mem_upL upL_ok gkey gk_of isGh isGh_iff gRow ghs gin_wp upRow upRow_iff rowNm ghosts_wp)
open K67 (folT folG follows_wp)
open K62 (fpV)
open K63 (flw flw_eq flw_ok follow_wp ringL_wp sh_ring sh_pairs ringO FR POk)
open K58 (Rn state_now_wp okSortW w_nm)
open K56 (lc_all)
open K37 (Sh ShL)
section
variable {n : Net} {s : List Rw} {ws : List (Str × Str)} {S T U : Sto} {x y : Str} {most age : Int} {r rt k : Nat} {Q : Val → Sto → Prop}
theorem vSlAL {q : Nat} {lo hi : Option Int} {vs : List Val} (h : S[q]? = some (.lst vs)) (z : Nw S (.lst (cutL vs lo hi)) Q) : Wp (gSlA (.ref q) lo hi S) Q := by
  show Wp (gSl (.ref q) lo hi S) Q
  exact ⟨_, _, by simp only [gSl, h], z.use⟩
theorem cut_take {vs : List Val} (k : Nat) : cutL vs none (some (k : Int)) = vs.take k := by
  unfold cutL
  rw [HT.sIx_nat, HT.sIx_none, List.drop_zero, Nat.sub_zero]
  by_cases h : k ≤ vs.length
  · rw [Nat.min_eq_left h]
  · rw [Nat.min_eq_right (by omega), List.take_of_length_le (Nat.le_refl _), List.take_of_length_le (by omega)]
theorem range_nat (m : Nat) : rangeV 0 ((m : Nat) : Int).toNat = (List.range m).map fun k : Nat => Val.int (k : Nat) := by
  unfold rangeV
  rw [Int.toNat_natCast]
  refine List.map_congr_left fun k _ => ?_
  show Val.int (0 + (k : Int)) = .int (k : Nat)
  rw [Int.zero_add]
theorem lnm_at {m : Nat} {i : Nat} (h : i < m) (m8 : m ≤ 8) : (lnm m)[i]? = some (pool.getD i ("a" : Str)) := by
  unfold lnm
  have : i < pool.length := by show i < 8; omega
  rw [List.getElem?_take_of_lt h, List.getD_eq_getElem?_getD, List.getElem?_eq_getElem this]
  rfl
theorem at_l {m : Nat} (h3 : 3 ≤ m) (h8 : m ≤ 8) : atI ((lnm m).map Val.str) (-1 : Int) = some (.str (pool.getD (m - 1) ("a" : Str))) := by
  have h : m = 3 ∨ m = 4 ∨ m = 5 ∨ m = 6 ∨ m = 7 ∨ m = 8 := by omega
  rcases h with rfl | rfl | rfl | rfl | rfl | rfl <;> rfl
theorem lnm_len {m : Nat} (m8 : m ≤ 8) : (lnm m).length = m := by
  unfold lnm
  rw [List.length_take]
  show min m 8 = m
  omega
theorem line_wp {m : Nat} (h3 : 3 ≤ m) (h8 : m ≤ 8) (b : Bool) : Wp (lineL_ [.int (m : Nat), .bl b] S) fun v U => v = netV (lnN m b) ∧ Kn S U := by
  have hn := line_ok h3 h8 b
  have wo : WOk (lnN m b).names (lwr m b) := hn.w.perm (lwS_perm m b).symm
  have Wnm := w_nm hn wo
  have ll := lnm_len h8
  have at_i : ∀ i : Nat, i < m → atI ((lnm m).map Val.str) (i : Nat) = some (.str (pool.getD i ("a" : Str))) := fun i hi => atI_nat (by rw [List.getElem?_map, lnm_at hi h8]; rfl)
  refine AL.wf ?_; simp only [List.map_cons, List.map_nil, List.length_cons, List.length_nil, Nat.reduceAdd, Nat.reduceSub, List.replicate_succ, List.replicate_zero, List.cons_append, List.nil_append]; unfold lineL_B; array_get_dec
  intro S1 q1 e_q1 l_S1 g_q1 k_S1
  have g1 : S1[q1]? = some (.lst (pool.map .str)) := g_q1
  array_get_dec
  refine vSlAL g1 ?_
  rw [cut_take, ← List.map_take]
  intro S2 q2 e_q2 l_S2 g_q2 k_S2
  have g2 : S2[q2]? = some (.lst ((lnm m).map .str)) := g_q2
  array_get_dec
  refine ⟨m - 1, rfl, ?_, by omega, by omega⟩
  rw [show ((m : Nat) : Int) - 1 = ((m - 1 : Nat) : Int) by omega, range_nat]
  refine lc_all trivial (List.range (m - 1)) (fun k => Val.int (k : Nat)) (fun k => wireV (pool.getD k ("a" : Str), pool.getD (k + 1) ("a" : Str))) (by rw [List.length_range]; omega) (fun i hi => ?_) ?_
  · have hi : i < m - 1 := List.mem_range.mp hi
    refine bn rfl ?_
    array_get_dec
    refine ⟨rfl, rfl, ?_⟩
    array_get_dec
    refine vIxL rfl rfl g2 (at_i i (by omega)) ?_
    array_get_dec
    rw [show ((i : Nat) : Int) + 1 = ((i + 1 : Nat) : Int) by omega]
    refine vIxL rfl rfl g2 (at_i (i + 1) (by omega)) ?_
    array_get_dec
    exact ⟨rfl, rfl⟩
  rw [show (List.range (m - 1)).map (fun k => wireV (pool.getD k ("a" : Str), pool.getD (k + 1) ("a" : Str))) = (lws m).map wireV by unfold lws; rw [List.map_map]; rfl]
  intro S3 q3 e_q3 l_S3 g_q3 k_S3
  have g2' := k_S3 _ _ g2
  have fin : ∀ {V : Sto} {N : Rho → Sto → Prop} {a4 a5 : Option Val}, V[q2]? = some (.lst ((lnm m).map .str)) → V[q3]? = some (.lst ((lwr m b).map wireV)) → Kn S V → Ws (sRet (eTup (aCons (eCall gTuple (aCons (eLc (.nm 5) (iSeq (eV 2)) bYes (eTup (aCons (eV 5) (aCons (eC (.int 0)) (aCons (eC (.int 0)) aNil)))) [5]) aNil)) (aCons (eCall gTuple (aCons (eCall gSortedG (aCons (eV 3) aNil)) aNil)) aNil)))
      [some (.int (m : Nat)), some (.bl b), some (.ref q2), some (.ref q3), a4, a5] V) N (fun v U => v = netV (lnN m b) ∧ Kn S U) := by
    intro V N a4 a5 gv gw kV
    array_get_dec
    refine .inr ⟨_, _, rfl, gv, ?_⟩
    refine lc_all gv (lnm m) Val.str (fun x => mbV ⟨x, 0, 0⟩) (by omega) (fun x hx => ?_) ?_
    · refine bn rfl ?_
      array_get_dec
      refine ⟨rfl, rfl, ?_⟩
      array_get_dec
      exact ⟨rfl, rfl⟩
    intro V1 o1 e_o1 l_V1 g_o1 k_V1
    array_get_dec
    refine vSortGT rfl (k_V1 _ _ gw) (fun v hv => by obtain ⟨p, _, rfl⟩ := List.mem_map.mp hv; exact ⟨_, rfl⟩) (okSortW Wnm (by have := wo.len; omega)) ?_
    have es : sortT ((lwr m b).map wireV) = (lwS m b).map wireV := (sortT_uniq hn.srt ((lwS_perm m b).map _) fun v hv => by
      obtain ⟨p, _, rfl⟩ := List.mem_map.mp hv
      rfl).symm
    rw [es]
    intro V2 o2 e_o2 l_V2 g_o2 k_V2
    array_get_dec
    refine ⟨?_, kV.trans (k_V1.trans k_V2)⟩
    unfold netV lnN
    rw [List.map_map]
    rfl
  array_get_dec
  cases b with
  | false =>
    refine brF rfl ?_
    exact ws_nil (fin g2' g_q3 (k_S1.trans (k_S2.trans k_S3)))
  | true =>
    refine brT rfl ?_
    array_get_dec
    refine vIxL rfl rfl g2' (at_i 0 (by omega)) ?_
    array_get_dec
    refine vIxL rfl rfl g2' (at_l h3 h8) ?_
    array_get_dec
    refine vApp rfl g_q3 ?_ (small (by simp [lws]; omega))
    intro S4 l_S4 g_S4 k_S4
    have lq : q2 ≠ q3 := by
      have := lt_of_at g2
      omega
    refine fin (k_S4 _ _ lq g2') ?_ ?_
    · rw [g_S4]
      unfold lwr
      rw [if_pos rfl, List.map_append]
      rfl
    · intro j o ho
      have := lt_of_at (k_S2 _ _ (k_S1 _ _ ho))
      exact k_S4 _ _ (by omega) (k_S3 _ _ (k_S2 _ _ (k_S1 _ _ ho)))
end
end K70
namespace K70
open PySem PySem.Spec PyProof.Rows L2 G Th AL KL Fr Od Bf
open K57 (other_ends_ other_ends_B own_best_ own_best_B row_behind_ row_behind_B state_round_ state_round_B feedL_ feedL_B drawL_ drawL_B keyL_ keyL_B endsL_ endsL_B turnedL_ turnedL_B)
open K56 (first_state_ first_state_B row_up_ row_up_B state_up_ state_up_B)
open K58 (NetRun_state_now_ NetRun_state_now_B NetRun_init_ NetRun_init_B NetRun_go_round_ NetRun_go_round_B NetRun_set_up_ NetRun_set_up_B NetRun_set_wire_ NetRun_set_wire_B)
open K60 (near_names_ near_names_B own_keys_ own_keys_B steps_from_ steps_from_B pieces_of_ pieces_of_B nearer_ nearer_B tree_paper_ tree_paper_B farL_ farL_B)
open K62 (ring_from_ ring_from_B follow_ring_ follow_ring_B)
open K65 (ghosts_of_ ghosts_of_B rounds_to_halt_ rounds_to_halt_B)
open K67 (follows_of_ follows_of_B)
open K63 (ringL_ ringL_B)
open K57 (wireV Mb mbV Net netV WOk NOk NmOk keyV mkey Ky KyOk tl nm_pool pool keyL_wp vInL vSortGT ok_sort wire_ok wire_sm Rw Bs Hd rwV stV bsV boV SOk RwOk bestOf bestOf_at bestOf_ok rnd rnd_ok itr itr_ok sh_ky reprL sh_st)
open K60 (UOk piece mem_piece kyV kyF kyF_map kyD key_at keyN mb1 dictOf_keys far_wp nm_tx)
open K65 (upL mem_upL upL_ok gkey gk_of isGh isGh_iff gRow ghs gin_wp upRow upRow_iff rowNm ghosts_wp)
open K67 (folT folG follows_wp)
open K62 (fpV)
open K63 (flw flw_eq flw_ok follow_wp ringL_wp sh_ring sh_pairs ringO FR POk)
open K58 (Rn state_now_wp okSortW w_nm)
open K56 (lc_all)
open K37 (Sh ShL)
open RO
section
variable {n : Net} {s : List Rw} {ws ws' : List (Str × Str)} {S T U : Sto} {x y : Str} {most age : Int} {r rt k : Nat} {Q : Val → Sto → Prop}
theorem shl_ghs (hn : NOk n) (so : SOk n s) (w : WOk n.names ws) : ShL 2 700 (ghs n s ws) := by
  have u := upL_ok hn so w
  have u8 := u.len hn
  have h3 := List.length_filter_le (isGh n s ws) (upL s)
  refine (ShL.map (f := gRow s) (n := 2) (w := 80) ((upL s).filter (isGh n s ws)) fun x hx => ?_).mono (by omega) (by omega)
  have hx := (List.mem_filter.mp hx).1
  obtain ⟨b, hb⟩ := (mem_upL hn so).mp hx
  have e : gRow s x = .tup [.str x, keyV b.key] := by
    unfold gRow
    rw [gk_of hb]
  rw [e]
  exact (ShL.cons ((Sh.str (nm_tx (u.nm hn hx))).mono (n' := 1) (by omega) (Nat.le_refl _)) (ShL.cons (sh_ky (bestOf_ok so hb).key) (ShL.nil (w := 0)))).tup.mono (by omega) (by omega)
theorem right_wp (hn : NOk n) (so : SOk n s) (w : WOk n.names ws) (h : Rn S r rt n most age s ws' k) : Wp (rightL_ [netV n, .ref r, stV s, .tup (ws.map wireV)] S) fun v U => v = .bl true ∧ Kn S U := by
  have h8 := hn.len
  have ls := so.len
  have nds := so.nd hn
  have u := upL_ok hn so w
  have u8 := u.len hn
  have okf := flw_ok hn so
  have sg := (shl_ghs hn so w).tup.mono (n' := 5) (w' := 701) (by omega) (by omega)
  obtain ⟨xt, hxt⟩ := reprL (ShL.cons (sh_st hn so) (ShL.cons sg (ShL.cons ((sh_pairs okf).mono (n' := 5) (w' := 251) (by omega) (by omega)) (ShL.nil (w := 0))))) (by decide) (by decide)
  obtain ⟨xr, hxr⟩ := (sh_ring okf).repr (by decide) (by decide)
  refine AL.wf ?_; simp only [List.map_cons, List.map_nil, List.length_cons, List.length_nil, Nat.reduceAdd, Nat.reduceSub, List.replicate_succ, List.replicate_zero, List.cons_append, List.nil_append]; unfold rightL_B; array_get_dec
  refine .inl ⟨_, rfl, ?_⟩
  refine lc_pure upRow rowNm trivial (by rw [List.length_map]; omega) (fun v hv => ?_) ?_
  · obtain ⟨r, hr, rfl⟩ := List.mem_map.mp hv
    refine bn rfl ?_
    array_get_dec
    refine ⟨?_, rfl, fun _ => by array_get_dec; exact ⟨rfl, rfl⟩⟩
    rw [upRow_iff]
    cases r.best <;> rfl
  have e0 : (((s.map rwV).filter upRow).map rowNm) = (upL s).map Val.str := by
    unfold upL
    rw [List.filter_map, List.map_map, List.map_map]
    have : (upRow ∘ rwV) = fun r => r.best.isSome := funext fun r => upRow_iff r
    rw [this]
    rfl
  rw [e0]
  intro S1 r1 e_r1 l_S1 g_r1 k_S1
  array_get_dec
  refine .inl ⟨_, rfl, ?_⟩
  refine lc_pure (fun _ => true) mb1 trivial (by rw [List.length_map]; omega) (fun v hv => ?_) ?_
  · obtain ⟨m, hm, rfl⟩ := List.mem_map.mp hv
    refine bn rfl ?_
    array_get_dec
    refine ⟨rfl, rfl, fun _ => ?_⟩
    array_get_dec
    refine keyL_wp.imp ?_
    rintro _ _ ⟨rfl, rfl⟩
    array_get_dec
    exact ⟨rfl, rfl⟩
  rw [List.filter_eq_self.mpr fun _ _ => rfl]
  intro S2 r2 e_r2 l_S2 g_r2 k_S2
  array_get_dec
  refine dictOf_keys hn g_r2 ?_
  intro S3 rk e_rk l_S3 g_rk k_S3
  array_get_dec
  intro S4 rf e_rf l_S4 g_rf k_S4
  array_get_dec
  refine .inl ⟨_, rfl, ?_⟩
  have gk4 := k_S4 _ _ g_rk
  have lrk := lt_of_at g_rk
  refine ws_loop (fun i ρ U => ∃ (a7 a8 a9 a10 a11 a12 a13 a14 : Option Val), ρ = [some (netV n), some (.ref r), some (stV s), some (.tup (ws.map wireV)), some (.tup ((upL s).map .str)), some (.ref rk), some (.ref rf), a7, a8, a9, a10, a11, a12, a13, a14] ∧ U[rf]? = some (.lst (((upL (s.take i)).filter (isGh n s ws)).map (gRow s))) ∧ Kx rf S4 U)
    ⟨_, _, _, _, _, _, _, _, rfl, g_rf, .refl _ _⟩ (fun _ _ _ _ _ => trivial) ?_ ?_
  · rintro i v ρ U hv ⟨a7, a8, a9, a10, a11, a12, a13, a14, rfl, gR, kU⟩
    rw [List.getElem?_map] at hv
    obtain ⟨r, hr, rfl⟩ := Option.map_eq_some_iff.mp hv
    obtain ⟨lt, er⟩ := List.getElem?_eq_some_iff.mp hr
    have rs : r ∈ s := List.mem_of_getElem? hr
    have tk : s.take (i + 1) = s.take i ++ [r] := by rw [List.take_succ_eq_append_getElem lt, er]
    have gkU : U[rk]? = some (.dic (kyD n)) := kU _ _ (by omega) gk4
    have eb := bestOf_at nds rs
    have lu : (upL (s.take i)).length ≤ s.length := by
      unfold upL
      rw [List.length_map]
      have := List.length_filter_le (fun r : Rw => r.best.isSome) (s.take i)
      rw [List.length_take] at this
      omega
    have lg := List.length_filter_le (isGh n s ws) (upL (s.take i))
    refine bn rfl ?_
    dsimp only [List.set_cons_zero, List.set_cons_succ]
    array_get_dec
    cases hb : r.best with
    | none =>
      have eu : upL (s.take (i + 1)) = upL (s.take i) := by
        unfold upL
        rw [tk, List.filter_append]
        simp [hb]
      refine brF rfl ?_
      array_get_dec
      exact ⟨_, _, _, _, _, _, _, _, rfl, by rw [eu]; exact gR, kU⟩
    | some b =>
      rw [hb] at eb
      have xu : r.name ∈ upL s := (mem_upL hn so).mpr ⟨b, eb⟩
      have eu : upL (s.take (i + 1)) = upL (s.take i) ++ [r.name] := by
        unfold upL
        rw [tk, List.filter_append, List.map_append]
        simp [hb]
      refine brT rfl ?_
      array_get_dec
      refine wiD ?_
      array_get_dec
      refine (far_wp hn u xu).imp ?_
      rintro _ U1 ⟨rD, D, rfl, gD, bf, su, k1, lD⟩
      refine ⟨rD, _, rfl, gD, lD, k1, ?_⟩
      rw [K60.dK_names]
      have D8 := K60.keys_len bf.nd su u8
      refine lc_pure (fun _ => true) (kyF n) trivial (by simp only [List.length_map]; omega) (fun v hv => ?_) ?_
      · obtain ⟨z, hz, rfl⟩ := List.mem_map.mp hv
        refine bn rfl ?_
        array_get_dec
        refine ⟨rfl, rfl, fun _ => ?_⟩
        array_get_dec
        exact vIxD rfl gkU rfl (key_at hn (u.sub.subset (su z hz))) ⟨rfl, rfl⟩
      rw [List.filter_eq_self.mpr fun _ _ => rfl, kyF_map]
      intro U2 r2 e_r2 l_U2 g_r2 k_U2
      array_get_dec
      have em : gkey s r.name ∉ (D.map (·.1)).map (kyV n) ↔ gkey s r.name ∉ (piece ws (upL s) r.name).map (kyV n) := by
        have : ∀ v, v ∈ (D.map (·.1)).map (kyV n) ↔ v ∈ (piece ws (upL s) r.name).map (kyV n) := fun v => by
          rw [List.mem_map, List.mem_map]
          have hm : ∀ y, y ∈ D.map (·.1) ↔ y ∈ piece ws (upL s) r.name := fun y => by
            rw [mem_piece, bf.mem]
            exact ⟨fun h => ⟨su y (bf.mem.mpr h), h⟩, fun h => h.2⟩
          exact ⟨fun ⟨y, h, e⟩ => ⟨y, (hm y).mp h, e⟩, fun ⟨y, h, e⟩ => ⟨y, (hm y).mpr h, e⟩⟩
        rw [this]
      refine (gin_wp hn so eb (fun y hy => u.sub.subset (su y hy)) g_r2 (isGh n s ws r.name) (by rw [em]; exact isGh_iff)).imp ?_
      rintro _ _ ⟨rfl, rfl⟩
      refine tb rfl (Br.of (fun c => ?_) (fun c => ?_))
      · have c : isGh n s ws r.name = true := c
        array_get_dec
        refine vApp rfl (k_U2 _ _ gR) ?_ (small (by rw [List.length_map]; omega))
        intro V l_V g_V k_V
        refine ⟨_, _, _, _, _, _, _, _, rfl, ?_, kU.trans ((k_U2.kx _).trans k_V)⟩
        rw [g_V, eu, List.filter_append, List.map_append, List.filter_cons_of_pos c]
        have : gRow s r.name = .tup [.str r.name, keyV b.key] := by
          unfold gRow
          rw [gk_of eb]
        show some (Ob.lst (_ ++ [_])) = some (.lst (_ ++ [gRow s r.name]))
        rw [this]
      · have c : isGh n s ws r.name = false := c
        array_get_dec
        refine ⟨_, _, _, _, _, _, _, _, rfl, ?_, kU.trans (k_U2.kx _)⟩
        rw [k_U2 _ _ gR, eu, List.filter_append, List.filter_cons_of_neg (by rw [c]; decide)]
        simp
  · rintro ρ U ⟨a7, a8, a9, a10, a11, a12, a13, a14, rfl, gR, kU⟩
    rw [List.length_map, List.take_length] at gR
    have kS : Kn S U := fun q o ho => by
      have := lt_of_at ho
      exact kU _ _ (by omega) (k_S4 _ _ (k_S3 _ _ (k_S2 _ _ (k_S1 _ _ ho))))
    have hU := h.kn kS
    array_get_dec
    refine .inl ⟨_, rfl, ?_⟩
    refine lc_pure folT folG trivial (by rw [List.length_map]; omega) (fun v hv => ?_) ?_
    · obtain ⟨r, hr, rfl⟩ := List.mem_map.mp hv
      refine bn rfl ?_
      array_get_dec
      cases hb : r.best with
      | none =>
        have e1 : folT (rwV r) = false := by unfold rwV; rw [hb]; rfl
        refine brF rfl ?_
        refine ⟨by rw [e1], rfl, fun h => ?_⟩
        rw [e1] at h
        cases h
      | some b =>
        have e1 : folT (rwV r) = !decide (b.who = r.name) := by unfold rwV; rw [hb]; rfl
        have e2 : folG (rwV r) = .tup [.str r.name, .str b.who] := by unfold rwV; rw [hb]; rfl
        refine brT rfl ?_
        array_get_dec
        refine ⟨by rw [e1], rfl, fun _ => ?_⟩
        array_get_dec
        exact ⟨by rw [e2], rfl⟩
    rw [flw_eq]
    intro U1 q1 e_q1 l_U1 g_q1 k_U1
    array_get_dec
    refine vTupP rfl g_q1 ?_
    array_get_dec
    have h1 := hU.kn k_U1
    refine wMe (wv rfl ⟨_, _, rfl, h1.ob, rfl, ?_⟩)
    array_get_dec
    refine (state_now_wp h1).imp ?_
    rintro _ _ ⟨rfl, rfl⟩
    array_get_dec
    refine wMe (wv rfl ⟨_, _, rfl, h1.ob, rfl, ?_⟩)
    array_get_dec
    refine (state_now_wp h1).imp ?_
    rintro _ _ ⟨rfl, rfl⟩
    array_get_dec
    refine (ghosts_wp hn so w (.inl rfl)).imp ?_
    rintro _ U2 ⟨rfl, k2⟩
    have h2 := h1.kn k2
    array_get_dec
    refine wMe (wv rfl ⟨_, _, rfl, h2.ob, rfl, ?_⟩)
    array_get_dec
    refine (state_now_wp h2).imp ?_
    rintro _ _ ⟨rfl, rfl⟩
    array_get_dec
    refine (follows_wp (by omega)).imp ?_
    rintro _ U3 ⟨rfl, k3⟩
    rw [flw_eq]
    array_get_dec
    intro U4 q4 e_q4 l_U4 g_q4 k_U4
    array_get_dec
    refine Wp.of (hxt _ _ g_q4) ?_
    array_get_dec
    have gR4 : U4[rf]? = some (.lst (ghs n s ws)) := k_U4 _ _ (k3 _ _ (k2 _ _ (k_U1 _ _ gR)))
    refine wUnp ?_
    array_get_dec
    intro U5 q5 e_q5 l_U5 g_q5 k_U5
    array_get_dec
    refine Wp.of (hxt _ _ g_q5) ?_
    array_get_dec
    refine brF (by simp) ?_
    array_get_dec
    have h5 := ((h2.kn k3).kn k_U4).kn k_U5
    refine wMe (wv rfl ⟨_, _, rfl, h5.ob, rfl, ?_⟩)
    array_get_dec
    refine (state_now_wp h5).imp ?_
    rintro _ _ ⟨rfl, rfl⟩
    array_get_dec
    refine (follows_wp (by omega)).imp ?_
    rintro _ U6 ⟨rfl, k6⟩
    rw [flw_eq]
    array_get_dec
    refine (follow_wp okf.nd okf.len).imp ?_
    rintro _ U7 ⟨rfl, k7⟩
    array_get_dec
    refine Wp.of (hxr _) ?_
    array_get_dec
    refine (ringL_wp okf).imp ?_
    rintro _ U8 ⟨rfl, k8⟩
    array_get_dec
    refine Wp.of (hxr _) ?_
    array_get_dec
    exact ⟨by simp, kS.trans (k_U1.trans (k2.trans (k3.trans (k_U4.trans (k_U5.trans (k6.trans (k7.trans k8)))))))⟩
end
end K70
namespace K70
open PySem PySem.Spec PyProof.Rows L2 G Th AL KL Fr Od Bf
open K57 (other_ends_ other_ends_B own_best_ own_best_B row_behind_ row_behind_B state_round_ state_round_B feedL_ feedL_B drawL_ drawL_B keyL_ keyL_B endsL_ endsL_B turnedL_ turnedL_B)
open K56 (first_state_ first_state_B row_up_ row_up_B state_up_ state_up_B)
open K58 (NetRun_state_now_ NetRun_state_now_B NetRun_init_ NetRun_init_B NetRun_go_round_ NetRun_go_round_B NetRun_set_up_ NetRun_set_up_B NetRun_set_wire_ NetRun_set_wire_B)
open K60 (near_names_ near_names_B own_keys_ own_keys_B steps_from_ steps_from_B pieces_of_ pieces_of_B nearer_ nearer_B tree_paper_ tree_paper_B farL_ farL_B)
open K62 (ring_from_ ring_from_B follow_ring_ follow_ring_B)
open K65 (ghosts_of_ ghosts_of_B rounds_to_halt_ rounds_to_halt_B)
open K67 (follows_of_ follows_of_B)
open K63 (ringL_ ringL_B)
open K57 (feed_wp draw_wp Tf turned_wp K2 wireV Mb mbV Net netV WOk NOk NmOk keyV mkey Ky KyOk tl nm_pool pool keyL_wp vInL vSortGT ok_sort wire_ok wire_sm Rw Bs Hd rwV stV bsV boV SOk RwOk bestOf bestOf_at bestOf_ok rnd rnd_ok itr itr_ok sh_ky reprL sh_st)
open K60 (UOk piece mem_piece kyV kyF kyF_map kyD key_at keyN mb1 dictOf_keys far_wp nm_tx)
open K65 (halt_wp mx mx_bd upL mem_upL upL_ok gkey gk_of isGh isGh_iff gRow ghs gin_wp upRow upRow_iff rowNm ghosts_wp)
open K66 (no_ghost)
open K67 (upL_itr folT folG follows_wp)
open K62 (fpV)
open K63 (flw flw_eq flw_ok follow_wp ringL_wp sh_ring sh_pairs ringO FR POk)
open K58 (Rn Wr state_now_wp okSortW w_nm init_wp set_up_wp set_wire_wp go_round_wp stepW mnx vNeW lc_fil vEqBo row_bs chg chg_eq rw0)
open K56 (fst fst_ok up upR rowU up_ok up_len lc_all)
open K37 (Sh ShL p40 p60)
open RO
section
variable {n : Net} {s : List Rw} {ws us W : List (Str × Str)} {S T U : Sto} {x y : Str} {most age B : Int} {r rt k mo a : Nat} {Q : Val → Sto → Prop}
theorem vAddTi {a b : Int} (q : Q (.int (a + b)) S) : Wp (gAddT (.int a) (.int b) S) Q := ⟨_, _, rfl, q⟩
theorem vAddTup {p q : List Val} (hl : p.length + q.length ≤ 1000000) (z : Q (.tup (p ++ q)) S) : Wp (gAddT (.tup p) (.tup q) S) Q := vAddT rfl rfl hl z
theorem cut_drop {vs : List Val} (k : Nat) : cutL vs (some (k : Int)) none = vs.drop k := by
  unfold cutL
  rw [HT.sIx_nat, HT.sIx_none]
  by_cases h : k ≤ vs.length
  · rw [Nat.min_eq_left h, List.take_of_length_le (by rw [List.length_drop]; omega)]
  · rw [Nat.min_eq_right (by omega), List.drop_of_length_le (Nat.le_refl _), List.drop_of_length_le (by omega)]
    simp
theorem vEqTup0 {k w : Nat} {vs : List Val} (h : ShL k w vs) (hn : k < 39) (q : Q (.bl vs.isEmpty) S) : Wp (gEq (.tup vs) (.tup []) S) Q := by
  have e : eqA S (.tup vs) (.tup []) = some vs.isEmpty := by
    obtain ⟨ds, o1, o2, o3, o4⟩ := h
    have c := (ok_show (.tuple ds) o1).2.2.1
    have sh : SeqAt.shaped (.tuple ds) = true := by
      show ((PyData.tuple ds).canLay0 && decide ((PyData.tuple ds).depth ≤ 64)) = true
      rw [c, decide_eq_true (by simp only [PyData.depth]; omega)]
      rfl
    have dl : toD S 40 (.tup vs) = some (.tuple ds) := by
      rw [show (40 : Nat) = 39 + 1 from rfl, toD]
      simp only [o4 S 39 (by omega), Option.map_some]
    have d0 : toD S 40 (.tup []) = some (.tuple []) := rfl
    have s0 : SeqAt.shaped (.tuple []) = true := by decide
    have hl := o4 S 39 (by omega)
    unfold eqA
    simp only [eqS, dl, d0, sh, s0, and_self, if_true]
    cases vs with
    | nil =>
      have : ds = [] := by cases hl; rfl
      subst this
      rfl
    | cons v vs =>
      have : ∃ d r, ds = d :: r := by
        unfold mapO at hl
        obtain ⟨d, _, e⟩ := Option.bind_eq_some_iff.mp hl
        obtain ⟨r, _, e⟩ := Option.bind_eq_some_iff.mp e
        exact ⟨d, r, (Option.some.inj e).symm⟩
      obtain ⟨d, r, rfl⟩ := this
      rfl
  refine ⟨_, S, ?_, q⟩
  unfold gEq
  rw [e]
  rfl
theorem wire_inj {p q : Str × Str} (h : wireV p = wireV q) : p = q := by
  obtain ⟨a, b⟩ := p
  obtain ⟨c, d⟩ := q
  simp only [wireV, Val.tup.injEq, List.cons.injEq, Val.str.injEq] at h
  obtain ⟨rfl, rfl, _⟩ := h
  rfl
theorem wr_self (hn : NOk n) (f : Str × Str → Bool) : Wr n (n.ws.filter f) (n.ws.filter f) := ⟨hn.w.nd.filter _, fun _ h => (List.mem_filter.mp h).1, .refl _, hn.srt.sublist ((List.filter_sublist).map _)⟩
theorem wr_uniq (h : Wr n W ws) (h2 : Wr n W us) : ws = us := (List.map_inj_right fun _ _ e => wire_inj e).mp (h.eq.symm.trans h2.eq)
theorem up_a {m : Nat} (h3 : 3 ≤ m) (h8 : m ≤ 8) {b : Bool} (so : SOk (lnN m b) s) (u : upL s = (lnN m b).names) : stV (up (lnN m b) s "a" false) = .tup ([.tup [.str "a", .non, .tup []]] ++ (s.map rwV).drop 1) := by
  have hn := line_ok h3 h8 b
  have nd := so.nd hn
  obtain ⟨q, rfl⟩ : ∃ q, m = q + 1 := ⟨m - 1, by omega⟩
  have em : (lnN (q + 1) b).ms = (⟨"a", 0, 0⟩ : Mb) :: (((pool.drop 1).take q).map fun x => ⟨x, 0, 0⟩) := rfl
  have nm := so.nm
  have ia : ("a" : Str) ∈ upL s := by rw [u]; exact (line_lst h3 h8 b).a
  unfold Net.names at nm
  unfold up
  rw [em] at nm ⊢
  cases s with
  | nil => simp at nm
  | cons r s =>
    rw [List.map_cons, List.map_cons] at nm
    have e0 : r.name = "a" := (List.cons.inj nm).1
    have e1 := (List.cons.inj nm).2
    rw [List.map_cons, List.nodup_cons] at nd
    have no : ∀ p ∈ s, p.name ≠ "a" := fun p hp e => nd.1 (by rw [e0, ← e]; exact List.mem_map_of_mem hp)
    have rb : r.best.isSome = true := by
      obtain ⟨p, hp, e⟩ := List.mem_map.mp ia
      obtain ⟨h1, h2⟩ := List.mem_filter.mp hp
      rcases List.mem_cons.mp h1 with rfl | h1
      · exact h2
      · exact absurd e (no p h1)
    have ll : s.length = (((pool.drop 1).take q).map fun x => (⟨x, 0, 0⟩ : Mb)).length := by
      have := congrArg List.length e1
      rw [List.length_map, List.length_map] at this
      exact this
    have e2 : ((((pool.drop 1).take q).map fun x => (⟨x, 0, 0⟩ : Mb)).zip s).map (upR "a" false) = s := by
      have : ((((pool.drop 1).take q).map fun x => (⟨x, 0, 0⟩ : Mb)).zip s).map (upR "a" false) = ((((pool.drop 1).take q).map fun x => (⟨x, 0, 0⟩ : Mb)).zip s).map (·.2) := List.map_congr_left fun p hp => by
        unfold upR
        rw [if_neg (no _ (List.of_mem_zip hp).2)]
      rw [this]
      exact List.map_snd_zip (by omega)
    rw [List.zip_cons_cons, List.map_cons, e2]
    unfold stV
    rw [List.map_cons, List.map_cons, List.drop_succ_cons, List.drop_zero]
    unfold upR rowU
    rw [if_pos e0, rb, if_neg (by decide)]
    rfl
theorem tf_k2 {p q : Nat} (h : Tf S B) (j : K2 p q S T) (ha : 3 ≤ p) (hb : 3 ≤ q) : Tf T B := by
  obtain ⟨ns, i, c, m, h0, h1, z⟩ := h.ex
  exact ⟨ns, i, c, m, j _ _ (by omega) (by omega) h0, j _ _ (by omega) (by omega) h1, z⟩
theorem br_cut {b : Bool} {A C : Res} {N : Rho → Sto → Prop} {R : Val → Sto → Prop} (P : Rho → Sto → Prop) (h1 : b = true → Ws A P (fun _ _ => False)) (h2 : b = false → Ws C P (fun _ _ => False)) (z : ∀ ρ U, P ρ U → N ρ U) : Br b (Ws A N R) (Ws C N R) :=
  Br.of (fun c => ws_cut' (h1 c) z (fun _ _ h => h.elim)) (fun c => ws_cut' (h2 c) z (fun _ _ h => h.elim))
theorem br_go {b1 : Bool} {g : Option (Bool × Sto)} {A C : Sto → Prop} {S : Sto} (P : Sto → Prop) (h1 : b1 = true → Wp g fun b T => b = false ∧ P T) (h2 : P S) (z : ∀ T, P T → C T) : Br b1 (Wp g fun b T => Br b (A T) (C T)) (Br false (A S) (C S)) :=
  Br.of (fun c => (h1 c).imp fun b T ⟨e, p⟩ => by subst e; exact brF rfl (z T p)) (fun _ => brF rfl (z S h2))
theorem mnx_self {p : Str × Str} (h : tl p.1 < tl p.2) : mnx p.2 p.1 = p := by
  have e1 : p.1.cps.toList < p.2.cps.toList := h
  have e2 : ¬ p.2.cps.toList < p.1.cps.toList := K57.tl_asym h
  unfold mnx
  rw [if_pos e1, if_neg e2]
end
theorem law_true (ns : List Int) (h : ns.length ≤ 63) : ∃ S', law_ [.scr ns] [] = some (.bl true, S') := by
  suffices z : Wp (law_ [.scr ns] []) fun v _ => v = .bl true by
    obtain ⟨v, S', e, rfl⟩ := z
    exact ⟨S', e⟩
  refine AL.wf ?_; simp only [List.map_cons, List.map_nil, List.length_cons, List.length_nil, Nat.reduceAdd, Nat.reduceSub, List.replicate_succ, List.replicate_zero, List.cons_append, List.nil_append]; unfold law_B; array_get_dec
  refine (feed_wp ns h).imp ?_
  rintro _ S0 ⟨rfl, t0⟩
  array_get_dec
  refine (draw_wp t0 (m := 6) (by omega) (by omega) (by omega)).imp ?_
  rintro _ S1 ⟨d1, rfl, a0, a1, T1, _⟩
  obtain ⟨e1, rfl⟩ := Int.eq_ofNat_of_zero_le a0
  refine vAddTi ?_
  array_get_dec
  refine (draw_wp T1 (m := 7) (by omega) (by omega) (by omega)).imp ?_
  rintro _ S2 ⟨d2, rfl, b0, b1, T2, _⟩
  obtain ⟨e2, rfl⟩ := Int.eq_ofNat_of_zero_le b0
  refine vAddTi ?_
  array_get_dec
  refine (draw_wp T2 (m := 5) (by omega) (by omega) (by omega)).imp ?_
  rintro _ S3 ⟨d3, rfl, c0, c1, T3, _⟩
  obtain ⟨a, rfl⟩ := Int.eq_ofNat_of_zero_le c0
  array_get_dec
  rw [show (3 : Int) + (e1 : Nat) = ((3 + e1 : Nat) : Int) by omega, show (3 : Int) + (e2 : Nat) = ((3 + e2 : Nat) : Int) by omega]
  generalize hm : 3 + e1 = m
  generalize hmo : 3 + e2 = mo
  have m3 : 3 ≤ m := by omega
  have m8 : m ≤ 8 := by omega
  have mo9 : mo ≤ 9 := by omega
  have mo1 : 0 < mo := by omega
  have a4 : a ≤ 4 := by omega
  clear hm hmo a0 a1 b0 b1 c0 c1 e1 e2
  refine (draw_wp T3 (m := 2) (by omega) (by omega) (by omega)).imp ?_
  rintro _ S4 ⟨d4, rfl, a0, a1, T4, _⟩
  array_get_dec
  refine (line_wp m3 m8 _).imp ?_
  rintro _ S5 ⟨rfl, k5⟩
  have hn := line_ok m3 m8 (decide (d4 = 0))
  have L := line_lst m3 m8 (decide (d4 = 0))
  have ln : (lnN m (decide (d4 = 0))).ms.length = m := by
    unfold lnN
    rw [List.length_map]
    exact lnm_len m8
  have upa : ∀ s, SOk (lnN m (decide (d4 = 0))) s → upL s = (lnN m (decide (d4 = 0))).names → stV (up (lnN m (decide (d4 = 0))) s "a" false) = .tup ([.tup [.str "a", .non, .tup []]] ++ (s.map rwV).drop 1) := fun s so u => up_a m3 m8 so u
  generalize lnN m (decide (d4 = 0)) = n at hn L ln upa
  have T5 := T4.fr k5
  have l8 := hn.len
  have s3 : 3 ≤ S5.length := by
    obtain ⟨_, _, _, _, h, _⟩ := T5.ex
    have := lt_of_at h
    omega
  array_get_dec
  refine wMkK ?_
  array_get_dec
  have g0 : (S5 ++ [Ob.obj "NetRun" []])[S5.length]? = some (.obj "NetRun" []) := by simp
  have k0 : Kn S5 (S5 ++ [Ob.obj "NetRun" []]) := kn_app
  have l0 : (S5 ++ [Ob.obj "NetRun" []]).length = S5.length + 1 := by simp
  generalize S5 ++ [Ob.obj "NetRun" []] = V0 at g0 k0 l0
  refine (init_wp g0 l8).imp ?_
  rintro _ S6 ⟨rfl, ⟨rt, hR, lrt⟩, k6, l6⟩
  have T6 := (T5.fr k0).kx k6 s3
  refine ⟨rfl, ?_⟩
  array_get_dec
  refine .inl ⟨_, rfl, ?_⟩
  refine lc_all trivial n.ms mbV (fun m => rwV (K56.fst m)) (by omega) (fun m hm => ?_) ?_
  · refine bn rfl ?_
    array_get_dec
    refine ⟨rfl, rfl, ?_⟩
    array_get_dec
    refine keyL_wp.imp ?_
    rintro _ _ ⟨rfl, rfl⟩
    array_get_dec
    exact ⟨rfl, rfl⟩
  intro S7 q7 e_q7 l_S7 g_q7 k_S7
  array_get_dec
  have hR7 := hR.kn k_S7
  have T7 := T6.fr k_S7
  have r3 : 3 ≤ S5.length := s3
  have rt3 : 3 ≤ rt := by omega
  generalize S5.length = r at hR hR7 r3 lrt
  refine ⟨_, rfl, ?_, by omega, by omega⟩
  rw [range_nat]
  have es : Val.tup (n.ms.map fun m => rwV (K56.fst m)) = stV (itr n n.ws mo a (n.ms.map K56.fst) 0) := by
    show _ = stV (n.ms.map K56.fst)
    unfold stV
    rw [List.map_map]
    rfl
  rw [es]
  have so0 := fst_ok hn
  have sok : ∀ i, SOk n (itr n n.ws mo a (n.ms.map K56.fst) i) := fun i => itr_ok hn so0 hn.w (by omega) (by omega) i
  refine ws_loop (fun i ρ U => (∃ z3 : Option Val, ρ = [some (.scr ns), some (.ref 0), some (netV n), z3, none, some (.int (m : Nat)), some (.int (mo : Nat)), some (.int (a : Nat)), some (.ref r), some (stV (itr n n.ws mo a (n.ms.map K56.fst) i)), none, none, none, none, none, none, none, none, none]) ∧ Rn U r rt n mo a (itr n n.ws mo a (n.ms.map K56.fst) i) n.ws i ∧ Tf U 100 ∧ i ≤ m) ⟨⟨_, rfl⟩, hR7, T7.mono (by omega), Nat.zero_le _⟩ (fun _ _ _ _ _ => trivial) ?_ ?_
  · rintro i v ρ U hv ⟨⟨z3, rfl⟩, RU, TU, im⟩
    have li : i < m := by
      have := (List.getElem?_eq_some_iff.mp hv).1
      rw [List.length_map, List.length_range] at this
      exact this
    refine bn rfl ?_
    array_get_dec
    refine wMe (wv rfl ⟨_, _, rfl, RU.ob, rfl, ?_⟩)
    array_get_dec
    refine (go_round_wp RU hn (sok i) hn.w (by omega) (by omega) (by omega)).imp ?_
    rintro _ U1 ⟨rfl, R1, k1, l1⟩
    array_get_dec
    refine (turned_wp hn (sok i) hn.w (by omega) (by omega)).imp ?_
    rintro _ U2 ⟨rfl, k2⟩
    array_get_dec
    exact ⟨⟨_, rfl⟩, R1.kn k2, (tf_k2 TU k1 r3 rt3).fr k2, li⟩
  rintro ρ U ⟨⟨z3, rfl⟩, RU, TU, _⟩
  rw [List.length_map, List.length_range] at RU
  rw [List.length_map, List.length_range]
  have so := sok m
  obtain ⟨q, rfl⟩ : ∃ q, m = q + 1 := ⟨m - 1, by omega⟩
  obtain ⟨b, hb, ek⟩ := ab_best L hn a4 mo9 mo1 q
  have ul : upL (itr n n.ws mo a (n.ms.map K56.fst) (q + 1)) = n.names := by rw [upL_itr hn so0 hn.w a4 mo9, upL_fst]
  generalize itr n n.ws mo a (n.ms.map K56.fst) (q + 1) = s at RU so hb ul
  clear sok
  have ls := so.len
  array_get_dec
  refine (draw_wp TU (m := 3) (by omega) (by omega) (by omega)).imp ?_
  rintro _ U1 ⟨d, rfl, da, db, T8, k8⟩
  have R8 : Rn U1 r rt n mo a s n.ws (q + 1) := RU.kx k8 (by omega) (by omega)
  array_get_dec
  refine br_cut (fun ρ V => ∃ s1, ρ = [some (.scr ns), some (.ref 0), some (netV n), z3, none, some (.int ((q + 1 : Nat) : Int)), some (.int (mo : Nat)), some (.int (a : Nat)), some (.ref r), some (stV s1), some (.tup (n.ws.map wireV)), some (.int d), none, none, none, none, none, none, none] ∧ Rn V r rt n mo a s1 n.ws (q + 1) ∧ Tf V 200 ∧ SOk n s1 ∧ (0 < d → ∀ ws, WOk n.names ws → ghs n s1 ws ≠ [])) (fun c => ?_) (fun c => ?_) ?_
  · array_get_dec
    refine wMe (wv rfl ⟨_, _, rfl, R8.ob, rfl, ?_⟩)
    array_get_dec
    refine wnoX ((set_up_wp R8 hn so (x := "a") (t := false)).imp ?_)
    rintro v V ⟨⟨_, rfl, R9⟩ | ⟨no, _⟩, k9, l9⟩
    · refine ⟨rfl, ?_⟩
      array_get_dec
      refine vSlA rfl ?_
      rw [show cutL (s.map rwV) (some 1) none = (s.map rwV).drop 1 from cut_drop 1]
      refine K70.vAddTup (by simp only [List.length_drop, List.length_map, List.length_cons, List.length_nil]; omega) ?_
      rw [← upa s so ul]
      array_get_dec
      exact ⟨_, rfl, R9, (T8.kx k9 r3).mono (by omega), up_ok hn so "a" false, fun _ ws w => ghost_there hn so hb ek L w⟩
    · exact absurd L.a no
  · exact ws_nil ⟨s, rfl, R8, T8.mono (by omega), so, fun z => absurd z (of_decide_eq_false c)⟩
  rintro ρ V ⟨s1, rfl, R9, T9, so1, hg⟩
  array_get_dec
  refine br_cut (fun ρ V2 => ∃ ws z12, ρ = [some (.scr ns), some (.ref 0), some (netV n), z3, none, some (.int ((q + 1 : Nat) : Int)), some (.int (mo : Nat)), some (.int (a : Nat)), some (.ref r), some (stV s1), some (.tup (ws.map wireV)), some (.int d), z12, none, none, none, none, none, none] ∧ Rn V2 r rt n mo a s1 ws (q + 1) ∧ WOk n.names ws) (fun c => ?_) (fun c => ?_) ?_
  · have lw : 0 < n.ws.length := List.length_pos_of_mem L.w
    have l12 := hn.w.len
    array_get_dec
    rw [List.length_map]
    refine (draw_wp T9 (m := ((n.ws.length : Nat) : Int)) (by omega) (by omega) (by omega)).imp ?_
    rintro _ V1 ⟨j, rfl, j0, j1, T10, k10⟩
    obtain ⟨j, rfl⟩ := Int.eq_ofNat_of_zero_le j0
    have hj : j < n.ws.length := by omega
    have R10 : Rn V1 r rt n mo a s1 n.ws (q + 1) := R9.kx k10 (by omega) (by omega)
    refine vIxT rfl rfl (atI_nat (v := wireV n.ws[j]) (by rw [List.getElem?_map, List.getElem?_eq_getElem hj]; rfl)) ?_
    have hp : n.ws[j] ∈ n.ws := List.getElem_mem hj
    generalize n.ws[j] = p at hp
    obtain ⟨p1, p2, p3⟩ := hn.w.mem p hp
    array_get_dec
    refine wMe (wv rfl ⟨_, _, rfl, R10.ob, rfl, ?_⟩)
    array_get_dec
    refine wnoX ((set_wire_wp R10 hn ⟨hn.w.nd, fun _ h => h, .refl _, hn.srt⟩ (hn.nm p2) (hn.nm p1)).imp ?_)
    rintro v V2 ⟨⟨_, rfl, us, R11, wr⟩ | ⟨no, _⟩, k11, l11⟩
    · rw [mnx_self p3] at wr
      have es : stepW p false n.ws = n.ws.filter fun w => decide (w ≠ p) := by
        unfold stepW
        rw [if_neg (by decide), List.append_nil]
      rw [es] at wr
      have eu := wr_uniq wr (wr_self hn fun w => decide (w ≠ p))
      subst eu
      refine ⟨rfl, ?_⟩
      array_get_dec
      refine .inl ⟨_, rfl, ?_⟩
      refine lc_fil trivial n.ws wireV (fun w => decide (w ≠ p)) wireV (by omega) (fun w hw => ?_) ?_
      · refine bn rfl ?_
        array_get_dec
        refine vNeW (w_nm hn hn.w w hw) (w_nm hn hn.w p hp) ?_
        array_get_dec
        exact ⟨rfl, rfl, fun _ => by array_get_dec; exact ⟨rfl, rfl⟩⟩
      intro V3 q3 e_q3 l_V3 g_q3 k_V3
      array_get_dec
      exact ⟨_, _, rfl, R11.kn k_V3, (wr_self hn fun w => decide (w ≠ p)).wok hn⟩
    · rw [mnx_self p3] at no
      exact absurd hp no
  · exact ws_nil ⟨n.ws, _, rfl, R9, hn.w⟩
  rintro ρ V2 ⟨ws, z12, rfl, R12, w⟩
  clear T9 T8 TU T6 T7 T5 T4 T3 T2 T1
  array_get_dec
  refine (right_wp hn so1 w R12).imp ?_
  rintro _ V3 ⟨rfl, k13⟩
  array_get_dec
  have sg := shl_ghs hn so1 w
  refine br_go (fun T => Kn V3 T) (fun c => ?_) (.refl _) ?_
  · have gne := hg (of_decide_eq_true c) ws w
    array_get_dec
    refine (ghosts_wp hn so1 w (.inl rfl)).imp ?_
    rintro _ V4 ⟨rfl, k14⟩
    array_get_dec
    refine vEqTup0 sg (by decide) ?_
    array_get_dec
    refine ⟨?_, k14⟩
    cases hgs : ghs n s1 ws with
    | nil => exact absurd hgs gne
    | cons _ _ => rfl
  intro V4 k14
  have R13 := (R12.kn k13).kn k14
  clear R12 R9 R8 RU hR hR7
  have u1 := upL_ok hn so1 w
  have ls1 := so1.len
  array_get_dec
  refine .inl ⟨_, rfl, ?_⟩
  refine lc_pure upRow rowNm trivial (by rw [List.length_map]; omega) (fun v hv => ?_) ?_
  · obtain ⟨r, hr, rfl⟩ := List.mem_map.mp hv
    refine bn rfl ?_
    array_get_dec
    refine ⟨?_, rfl, fun _ => by array_get_dec; exact ⟨rfl, rfl⟩⟩
    rw [upRow_iff]
    cases r.best <;> rfl
  have e0 : (((s1.map rwV).filter upRow).map rowNm) = (upL s1).map Val.str := by
    unfold upL
    rw [List.filter_map, List.map_map, List.map_map]
    have : (upRow ∘ rwV) = fun r => r.best.isSome := funext fun r => upRow_iff r
    rw [this]
    rfl
  rw [e0]
  intro V5 q5 e_q5 l_V5 g_q5 k_V5
  array_get_dec
  refine (halt_wp hn u1 (.inl rfl)).imp ?_
  rintro _ V6 ⟨rfl, k6⟩
  have R14 := (R13.kn k_V5).kn k6
  obtain ⟨mx0, mx1⟩ := mx_bd hn u1 (most := (mo : Nat))
  generalize mx (mo : Nat) n ws (upL s1) = mxx at mx0 mx1
  obtain ⟨mxn, rfl⟩ := Int.eq_ofNat_of_zero_le mx0
  array_get_dec
  rw [show ((mo : Nat) : Int) + (a : Nat) + 1 + (mxn : Nat) + 2 = ((mo + a + 1 + mxn + 2 : Nat) : Int) by omega]
  refine ⟨_, rfl, ?_, by omega, by omega⟩
  rw [range_nat]
  have sok : ∀ i, SOk n (itr n ws mo a s1 i) := fun i => itr_ok hn so1 w (by omega) (by omega) i
  have sz : s1 = itr n ws mo a s1 0 := rfl
  refine ws_loop (fun i ρ U => (∃ z3 z13 z14 z15 z16 z17 z18 : Option Val, ρ = [some (.scr ns), some (.ref 0), some (netV n), z3, some (.tup ((upL s1).map .str)), some (.int ((q + 1 : Nat) : Int)), some (.int (mo : Nat)), some (.int (a : Nat)), some (.ref r), some (stV (itr n ws mo a s1 i)), some (.tup (ws.map wireV)), some (.int d), z12, z13, z14, z15, z16, z17, z18]) ∧ ∃ k, k < 100 + i ∧ Rn U r rt n mo a (itr n ws mo a s1 i) ws k) ⟨⟨_, _, _, _, _, _, _, rfl⟩, _, by omega, R14⟩ (fun _ _ _ _ _ => trivial) ?_ ?_
  · rintro i v ρ U hv ⟨⟨z3, z13, z14, z15, z16, z17, z18, rfl⟩, k, hk, RU⟩
    have li : i < 100 := by
      have := (List.getElem?_eq_some_iff.mp hv).1
      rw [List.length_map, List.length_range] at this
      omega
    have so := sok i
    have so2 : SOk n (rnd n (itr n ws mo a s1 i) ws mo a) := sok (i + 1)
    have eN : itr n ws mo a s1 (i + 1) = rnd n (itr n ws mo a s1 i) ws mo a := rfl
    rw [eN]
    generalize itr n ws mo a s1 i = s at RU so so2
    have ls := so.len
    have ls2 := so2.len
    refine bn rfl ?_
    array_get_dec
    refine .inl ⟨_, rfl, ?_⟩
    refine lc_all trivial s rwV (fun r => boV r.best) (by omega) (fun r hr => ?_) ?_
    · refine bn rfl ?_
      array_get_dec
      refine ⟨rfl, rfl, ?_⟩
      array_get_dec
      exact ⟨rfl, rfl⟩
    intro U1 q1 e_q1 l_U1 g_q1 k_U1
    array_get_dec
    refine (turned_wp hn so w (by omega) (by omega)).imp ?_
    rintro _ U2 ⟨rfl, k2⟩
    have g2 := k2 _ _ g_q1
    array_get_dec
    refine ⟨_, rfl, ?_, by omega, by omega⟩
    rw [range_nat]
    refine lc_fil trivial (List.range (q + 1)) (fun k => Val.int (k : Nat)) (fun k => decide ((s.getD k rw0).best ≠ ((rnd n s ws mo a).getD k rw0).best)) (fun k => Val.int (k : Nat)) (by rw [List.length_range]; omega) (fun k hk => ?_) ?_
    · have lk : k < s.length := by have := List.mem_range.mp hk; omega
      have lk2 : k < (rnd n s ws mo a).length := by omega
      have g1 : s.getD k rw0 = s[k] := by rw [List.getD_eq_getElem?_getD, List.getElem?_eq_getElem lk]; rfl
      have g3 : (rnd n s ws mo a).getD k rw0 = (rnd n s ws mo a)[k] := by rw [List.getD_eq_getElem?_getD, List.getElem?_eq_getElem lk2]; rfl
      refine bn rfl ?_
      array_get_dec
      refine vIxL rfl rfl g2 (atI_nat (v := boV s[k].best) (by rw [List.getElem?_map, List.getElem?_eq_getElem lk]; rfl)) ?_
      array_get_dec
      refine vIxT rfl rfl (atI_nat (v := rwV (rnd n s ws mo a)[k]) (by rw [List.getElem?_map, List.getElem?_eq_getElem lk2]; rfl)) ?_
      array_get_dec
      refine vEqBo (row_bs hn so (List.getElem_mem lk)) (row_bs hn so2 (List.getElem_mem lk2)) ?_
      array_get_dec
      exact ⟨by rw [g1, g3], rfl, fun _ => by array_get_dec; exact ⟨rfl, rfl⟩⟩
    intro U3 q3 e_q3 l_U3 g_q3 k_U3
    array_get_dec
    rw [List.length_map, show q + 1 = s.length by omega, chg_eq (by omega)]
    have R3 := ((RU.kn k_U1).kn k2).kn k_U3
    array_get_dec
    refine wMe (wv rfl ⟨_, _, rfl, R3.ob, rfl, ?_⟩)
    array_get_dec
    refine (go_round_wp R3 hn so w (by omega) (by omega) (by omega)).imp ?_
    rintro _ U4 ⟨rfl, R4, k4, l4⟩
    array_get_dec
    refine brF (by simp) ?_
    array_get_dec
    refine (right_wp hn so2 w R4).imp ?_
    rintro _ U5 ⟨rfl, k5⟩
    array_get_dec
    exact ⟨⟨_, _, _, _, _, _, _, rfl⟩, _, by omega, R4.kn k5⟩
  · rintro ρ U ⟨⟨z3, z13, z14, z15, z16, z17, z18, rfl⟩, k, hk, RU⟩
    rw [List.length_map, List.length_range] at RU
    rw [List.length_map, List.length_range]
    have so := sok (mo + a + 1 + mxn + 2)
    have sg2 := shl_ghs hn so w
    have ng := no_ghost hn so1 w a4 mo9 (t := mo + a + 1 + mxn + 2) (by omega)
    array_get_dec
    refine (ghosts_wp hn so w (.inl rfl)).imp ?_
    rintro _ U2 ⟨rfl, k2⟩
    array_get_dec
    refine vEqTup0 sg2 (by decide) ?_
    rw [ng]
    rfl
end K70
namespace AL
open PySem PySem.Spec PyProof.Rows L2 G Th
def clsK (K : PySem.W.Frag) (x : Str) : Addr := match PySem.W.nsIn K mainGlobals x with
  | some (some (.ref a)) => a
  | _ => 0
theorem clsK_at {K : PySem.W.Frag} {x : Str} {a : Addr} (h : PySem.W.nsIn K mainGlobals x = some (some (.ref a))) : clsK K x = a := by
  unfold clsK
  rw [h]
abbrev TC (K : PySem.W.Frag) : TT := ⟨[], clsK K⟩
theorem hsp_c {K : PySem.W.Frag} {F : FA} (hF : ∀ ns : List Int, ns.length ≤ 63 → ∃ S', F [.scr ns] [] = some (.bl true, S')) {H : Hp} {a : Addr} {ns : List Int} {E : XK} (hl : ns.length ≤ 63) (hO : Only H) (hS : SqL K H a (ns.map V.int)) : @spA (TC K) K 1 F [.ref a] H (fun v _ => v = .bl true) E :=
  @hsp_t (TC K) K F hF H a ns E hl (fun p hp => by cases hp) (sqF_of hO hS)
end AL
namespace K70
open PySem PySem.Spec PyProof.Rows L2 G Th AL
open K57 (other_ends_ other_ends_B own_best_ own_best_B row_behind_ row_behind_B state_round_ state_round_B feedL_ feedL_B drawL_ drawL_B keyL_ keyL_B endsL_ endsL_B turnedL_ turnedL_B)
open K56 (first_state_ first_state_B row_up_ row_up_B state_up_ state_up_B)
open K58 (NetRun_state_now_ NetRun_state_now_B NetRun_init_ NetRun_init_B NetRun_go_round_ NetRun_go_round_B NetRun_set_up_ NetRun_set_up_B NetRun_set_wire_ NetRun_set_wire_B)
open K60 (near_names_ near_names_B own_keys_ own_keys_B steps_from_ steps_from_B pieces_of_ pieces_of_B nearer_ nearer_B tree_paper_ tree_paper_B farL_ farL_B)
open K62 (ring_from_ ring_from_B follow_ring_ follow_ring_B)
open K65 (ghosts_of_ ghosts_of_B rounds_to_halt_ rounds_to_halt_B)
open K67 (follows_of_ follows_of_B)
open K63 (ringL_ ringL_B)
theorem all_mk {l : PySem.W.OpenLaw} {w : World} {K : PySem.W.Frag} {h : Heap} {mg : Str → Option Value} {fa : Addr} (X : K.In h) (G : h.Ns mainGlobals mg) (hfa : mg "law" = some (.ref fa))
    {o0 : Value} {od0 an0 : Option Addr} {sl0 : Array (Option Value)} {kV0 dc0 pm0 cd0 ct0 : Value} {f0 : Addr} {o1 : Value} {od1 an1 : Option Addr} {sl1 : Array (Option Value)} {kV1 dc1 pm1 cd1 ct1 : Value} {f1 : Addr} {o2 : Value} {od2 an2 : Option Addr} {sl2 : Array (Option Value)} {kV2 dc2 pm2 cd2 ct2 : Value} {f2 : Addr} {o3 : Value} {od3 an3 : Option Addr} {sl3 : Array (Option Value)} {kV3 dc3 pm3 cd3 ct3 : Value} {f3 : Addr} {o4 : Value} {od4 an4 : Option Addr} {sl4 : Array (Option Value)} {kV4 dc4 pm4 cd4 ct4 : Value} {f4 : Addr} {o5 : Value} {od5 an5 : Option Addr} {sl5 : Array (Option Value)} {kV5 dc5 pm5 cd5 ct5 : Value} {f5 : Addr} {o6 : Value} {od6 an6 : Option Addr} {sl6 : Array (Option Value)} {kV6 dc6 pm6 cd6 ct6 : Value} {f6 : Addr} {o7 : Value} {od7 an7 : Option Addr} {sl7 : Array (Option Value)} {kV7 dc7 pm7 cd7 ct7 : Value} {f7 : Addr} {o8 : Value} {od8 an8 : Option Addr} {sl8 : Array (Option Value)} {kV8 dc8 pm8 cd8 ct8 : Value} {f8 : Addr} {o9 : Value} {od9 an9 : Option Addr} {sl9 : Array (Option Value)} {kV9 dc9 pm9 cd9 ct9 : Value} {f9 : Addr} {o10 : Value} {od10 an10 : Option Addr} {sl10 : Array (Option Value)} {kV10 dc10 pm10 cd10 ct10 : Value} {f10 : Addr} {o11 : Value} {od11 an11 : Option Addr} {sl11 : Array (Option Value)} {dc11 pm11 cd11 ct11 : Value} {f11 : Addr} {o12 : Value} {od12 an12 : Option Addr} {sl12 : Array (Option Value)} {dc12 pm12 cd12 ct12 : Value} {f12 : Addr} {o13 : Value} {od13 an13 : Option Addr} {sl13 : Array (Option Value)} {kV13 dc13 pm13 cd13 ct13 : Value} {f13 : Addr} {o14 : Value} {od14 an14 : Option Addr} {sl14 : Array (Option Value)} {kV14 dc14 pm14 cd14 ct14 : Value} {f14 : Addr} {o15 : Value} {od15 an15 : Option Addr} {sl15 : Array (Option Value)} {kV15 dc15 pm15 cd15 ct15 : Value} {f15 : Addr} {o16 : Value} {od16 an16 : Option Addr} {sl16 : Array (Option Value)} {kV16 dc16 pm16 cd16 ct16 : Value} {f16 : Addr} {o17 : Value} {od17 an17 : Option Addr} {sl17 : Array (Option Value)} {dc17 pm17 cd17 ct17 : Value} {f17 : Addr} {o18 : Value} {od18 an18 : Option Addr} {sl18 : Array (Option Value)} {kV18 dc18 pm18 cd18 ct18 : Value} {f18 : Addr} {o19 : Value} {od19 an19 : Option Addr} {sl19 : Array (Option Value)} {kV19 dc19 pm19 cd19 ct19 : Value} {f19 : Addr} {o20 : Value} {od20 an20 : Option Addr} {sl20 : Array (Option Value)} {kV20 dc20 pm20 cd20 ct20 : Value} {f20 : Addr} {o21 : Value} {od21 an21 : Option Addr} {sl21 : Array (Option Value)} {kV21 dc21 pm21 cd21 ct21 : Value} {f21 : Addr} {o22 : Value} {od22 an22 : Option Addr} {sl22 : Array (Option Value)} {kV22 dc22 pm22 cd22 ct22 : Value} {f22 : Addr} {o23 : Value} {od23 an23 : Option Addr} {sl23 : Array (Option Value)} {kV23 dc23 pm23 cd23 ct23 : Value} {f23 : Addr} {o24 : Value} {od24 an24 : Option Addr} {sl24 : Array (Option Value)} {kV24 dc24 pm24 cd24 ct24 : Value} {f24 : Addr} {o25 : Value} {od25 an25 : Option Addr} {sl25 : Array (Option Value)} {kV25 dc25 pm25 cd25 ct25 : Value} {f25 : Addr} {o26 : Value} {od26 an26 : Option Addr} {sl26 : Array (Option Value)} {kV26 dc26 pm26 cd26 ct26 : Value} {f26 : Addr} {o27 : Value} {od27 an27 : Option Addr} {sl27 : Array (Option Value)} {kV27 dc27 pm27 cd27 ct27 : Value} {f27 : Addr} {o28 : Value} {od28 an28 : Option Addr} {sl28 : Array (Option Value)} {dc28 pm28 cd28 ct28 : Value} {f28 : Addr} {o29 : Value} {od29 an29 : Option Addr} {sl29 : Array (Option Value)} {kV29 dc29 pm29 cd29 ct29 : Value} {f29 : Addr} {o30 : Value} {od30 an30 : Option Addr} {sl30 : Array (Option Value)} {kV30 dc30 pm30 cd30 ct30 : Value} {f30 : Addr} {o31 : Value} {od31 an31 : Option Addr} {sl31 : Array (Option Value)} {kV31 dc31 pm31 cd31 ct31 : Value} {f31 : Addr} {o32 : Value} {od32 an32 : Option Addr} {sl32 : Array (Option Value)} {kV32 dc32 pm32 cd32 ct32 : Value} {f32 : Addr}
 {C_NetRun : Addr} {C_NoHouse : Addr} {C_NoLink : Addr} {fI_NoHouse : Addr} {oI_NoHouse kVI_NoHouse dcI_NoHouse pmI_NoHouse cdI_NoHouse ctI_NoHouse : Value} {odI_NoHouse anI_NoHouse : Option Addr} {slI_NoHouse : Array (Option Value)} {fI_NoLink : Addr} {oI_NoLink kVI_NoLink dcI_NoLink pmI_NoLink cdI_NoLink ctI_NoLink : Value} {odI_NoLink anI_NoLink : Option Addr} {slI_NoLink : Array (Option Value)} {T11 : Addr} {oT11 : Value} {odT11 : Option Addr} {nT11 : Nat} {slT11 : Array (Option Value)} {p11_0 : Value} {D11 : Value} {D12 : Addr} {w12_most : Value} {w12_age : Value} {T17 : Addr} {oT17 : Value} {odT17 : Option Addr} {nT17 : Nat} {slT17 : Array (Option Value)} {p17_0 : Value} {D17 : Addr} {w17_most : Value} {w17_age : Value} {D28 : Addr} {w28_most : Value} {w28_age : Value}
    (a0 : PySem.W.nsIn K mainGlobals "other_ends" = some (some (.ref f0))) (l0 : K.lookup f0 = some ⟨o0, od0, .func (PySem.W.fnOf "other_ends" "other_ends" (defArgs st_other_ends_) (defBody st_other_ends_) (defScope st_other_ends_) .none kV0 dc0 pm0 an0 cd0 ct0), sl0⟩) (c0 : PySem.W.codeIn K cd0 "other_ends" = true) (k0 : PySem.W.keepIn K (.ref f0) = true)
    (a1 : PySem.W.nsIn K mainGlobals "own_best" = some (some (.ref f1))) (l1 : K.lookup f1 = some ⟨o1, od1, .func (PySem.W.fnOf "own_best" "own_best" (defArgs st_own_best_) (defBody st_own_best_) (defScope st_own_best_) .none kV1 dc1 pm1 an1 cd1 ct1), sl1⟩) (c1 : PySem.W.codeIn K cd1 "own_best" = true) (k1 : PySem.W.keepIn K (.ref f1) = true)
    (a2 : PySem.W.nsIn K mainGlobals "first_state" = some (some (.ref f2))) (l2 : K.lookup f2 = some ⟨o2, od2, .func (PySem.W.fnOf "first_state" "first_state" (defArgs st_first_state_) (defBody st_first_state_) (defScope st_first_state_) .none kV2 dc2 pm2 an2 cd2 ct2), sl2⟩) (c2 : PySem.W.codeIn K cd2 "first_state" = true) (k2 : PySem.W.keepIn K (.ref f2) = true)
    (a3 : PySem.W.nsIn K mainGlobals "row_up" = some (some (.ref f3))) (l3 : K.lookup f3 = some ⟨o3, od3, .func (PySem.W.fnOf "row_up" "row_up" (defArgs st_row_up_) (defBody st_row_up_) (defScope st_row_up_) .none kV3 dc3 pm3 an3 cd3 ct3), sl3⟩) (c3 : PySem.W.codeIn K cd3 "row_up" = true) (k3 : PySem.W.keepIn K (.ref f3) = true)
    (a4 : PySem.W.nsIn K mainGlobals "state_up" = some (some (.ref f4))) (l4 : K.lookup f4 = some ⟨o4, od4, .func (PySem.W.fnOf "state_up" "state_up" (defArgs st_state_up_) (defBody st_state_up_) (defScope st_state_up_) .none kV4 dc4 pm4 an4 cd4 ct4), sl4⟩) (c4 : PySem.W.codeIn K cd4 "state_up" = true) (k4 : PySem.W.keepIn K (.ref f4) = true)
    (a5 : PySem.W.nsIn K mainGlobals "near_names" = some (some (.ref f5))) (l5 : K.lookup f5 = some ⟨o5, od5, .func (PySem.W.fnOf "near_names" "near_names" (defArgs st_near_names_) (defBody st_near_names_) (defScope st_near_names_) .none kV5 dc5 pm5 an5 cd5 ct5), sl5⟩) (c5 : PySem.W.codeIn K cd5 "near_names" = true) (k5 : PySem.W.keepIn K (.ref f5) = true)
    (a6 : PySem.W.nsIn K mainGlobals "own_keys" = some (some (.ref f6))) (l6 : K.lookup f6 = some ⟨o6, od6, .func (PySem.W.fnOf "own_keys" "own_keys" (defArgs st_own_keys_) (defBody st_own_keys_) (defScope st_own_keys_) .none kV6 dc6 pm6 an6 cd6 ct6), sl6⟩) (c6 : PySem.W.codeIn K cd6 "own_keys" = true) (k6 : PySem.W.keepIn K (.ref f6) = true)
    (a7 : PySem.W.nsIn K mainGlobals "steps_from" = some (some (.ref f7))) (l7 : K.lookup f7 = some ⟨o7, od7, .func (PySem.W.fnOf "steps_from" "steps_from" (defArgs st_steps_from_) (defBody st_steps_from_) (defScope st_steps_from_) .none kV7 dc7 pm7 an7 cd7 ct7), sl7⟩) (c7 : PySem.W.codeIn K cd7 "steps_from" = true) (k7 : PySem.W.keepIn K (.ref f7) = true)
    (a8 : PySem.W.nsIn K mainGlobals "pieces_of" = some (some (.ref f8))) (l8 : K.lookup f8 = some ⟨o8, od8, .func (PySem.W.fnOf "pieces_of" "pieces_of" (defArgs st_pieces_of_) (defBody st_pieces_of_) (defScope st_pieces_of_) .none kV8 dc8 pm8 an8 cd8 ct8), sl8⟩) (c8 : PySem.W.codeIn K cd8 "pieces_of" = true) (k8 : PySem.W.keepIn K (.ref f8) = true)
    (a9 : PySem.W.nsIn K mainGlobals "nearer" = some (some (.ref f9))) (l9 : K.lookup f9 = some ⟨o9, od9, .func (PySem.W.fnOf "nearer" "nearer" (defArgs st_nearer_) (defBody st_nearer_) (defScope st_nearer_) .none kV9 dc9 pm9 an9 cd9 ct9), sl9⟩) (c9 : PySem.W.codeIn K cd9 "nearer" = true) (k9 : PySem.W.keepIn K (.ref f9) = true)
    (a10 : PySem.W.nsIn K mainGlobals "tree_paper" = some (some (.ref f10))) (l10 : K.lookup f10 = some ⟨o10, od10, .func (PySem.W.fnOf "tree_paper" "tree_paper" (defArgs st_tree_paper_) (defBody st_tree_paper_) (defScope st_tree_paper_) .none kV10 dc10 pm10 an10 cd10 ct10), sl10⟩) (c10 : PySem.W.codeIn K cd10 "tree_paper" = true) (k10 : PySem.W.keepIn K (.ref f10) = true)
    (a11 : PySem.W.nsIn K mainGlobals "ghosts_of" = some (some (.ref f11))) (l11 : K.lookup f11 = some ⟨o11, od11, .func (PySem.W.fnOf "ghosts_of" "ghosts_of" (defArgs st_ghosts_of_) (defBody st_ghosts_of_) (defScope st_ghosts_of_) (.ref T11) D11 dc11 pm11 an11 cd11 ct11), sl11⟩) (c11 : PySem.W.codeIn K cd11 "ghosts_of" = true) (k11 : PySem.W.keepIn K (.ref f11) = true) (lT11 : K.lookup T11 = some ⟨oT11, odT11, .seq ([p11_0] : List Value).toArray nT11, slT11⟩) (xp11_0 : CV K p11_0 (.non))
    (a12 : PySem.W.nsIn K mainGlobals "rounds_to_halt" = some (some (.ref f12))) (l12 : K.lookup f12 = some ⟨o12, od12, .func (PySem.W.fnOf "rounds_to_halt" "rounds_to_halt" (defArgs st_rounds_to_halt_) (defBody st_rounds_to_halt_) (defScope st_rounds_to_halt_) .none (.ref D12) dc12 pm12 an12 cd12 ct12), sl12⟩) (c12 : PySem.W.codeIn K cd12 "rounds_to_halt" = true) (k12 : PySem.W.keepIn K (.ref f12) = true) (q12_most : PySem.W.nsIn K D12 "most" = some (some w12_most)) (x12_most : CV K w12_most (.int 4)) (q12_age : PySem.W.nsIn K D12 "age" = some (some w12_age)) (x12_age : CV K w12_age (.int 1))
    (a13 : PySem.W.nsIn K mainGlobals "follows_of" = some (some (.ref f13))) (l13 : K.lookup f13 = some ⟨o13, od13, .func (PySem.W.fnOf "follows_of" "follows_of" (defArgs st_follows_of_) (defBody st_follows_of_) (defScope st_follows_of_) .none kV13 dc13 pm13 an13 cd13 ct13), sl13⟩) (c13 : PySem.W.codeIn K cd13 "follows_of" = true) (k13 : PySem.W.keepIn K (.ref f13) = true)
    (a14 : PySem.W.nsIn K mainGlobals "ring_from" = some (some (.ref f14))) (l14 : K.lookup f14 = some ⟨o14, od14, .func (PySem.W.fnOf "ring_from" "ring_from" (defArgs st_ring_from_) (defBody st_ring_from_) (defScope st_ring_from_) .none kV14 dc14 pm14 an14 cd14 ct14), sl14⟩) (c14 : PySem.W.codeIn K cd14 "ring_from" = true) (k14 : PySem.W.keepIn K (.ref f14) = true)
    (a15 : PySem.W.nsIn K mainGlobals "follow_ring" = some (some (.ref f15))) (l15 : K.lookup f15 = some ⟨o15, od15, .func (PySem.W.fnOf "follow_ring" "follow_ring" (defArgs st_follow_ring_) (defBody st_follow_ring_) (defScope st_follow_ring_) .none kV15 dc15 pm15 an15 cd15 ct15), sl15⟩) (c15 : PySem.W.codeIn K cd15 "follow_ring" = true) (k15 : PySem.W.keepIn K (.ref f15) = true)
    (a16 : PySem.W.nsIn K mainGlobals "row_behind" = some (some (.ref f16))) (l16 : K.lookup f16 = some ⟨o16, od16, .func (PySem.W.fnOf "row_behind" "row_behind" (defArgs st_row_behind_) (defBody st_row_behind_) (defScope st_row_behind_) .none kV16 dc16 pm16 an16 cd16 ct16), sl16⟩) (c16 : PySem.W.codeIn K cd16 "row_behind" = true) (k16 : PySem.W.keepIn K (.ref f16) = true)
    (a17 : PySem.W.nsIn K mainGlobals "state_round" = some (some (.ref f17))) (l17 : K.lookup f17 = some ⟨o17, od17, .func (PySem.W.fnOf "state_round" "state_round" (defArgs st_state_round_) (defBody st_state_round_) (defScope st_state_round_) (.ref T17) (.ref D17) dc17 pm17 an17 cd17 ct17), sl17⟩) (c17 : PySem.W.codeIn K cd17 "state_round" = true) (k17 : PySem.W.keepIn K (.ref f17) = true) (lT17 : K.lookup T17 = some ⟨oT17, odT17, .seq ([p17_0] : List Value).toArray nT17, slT17⟩) (xp17_0 : CV K p17_0 (.non)) (q17_most : PySem.W.nsIn K D17 "most" = some (some w17_most)) (x17_most : CV K w17_most (.int 4)) (q17_age : PySem.W.nsIn K D17 "age" = some (some w17_age)) (x17_age : CV K w17_age (.int 1))
    (a18 : PySem.W.nsIn K mainGlobals "_law_feed" = some (some (.ref f18))) (l18 : K.lookup f18 = some ⟨o18, od18, .func (PySem.W.fnOf "_law_feed" "_law_feed" (defArgs st_feedL_) (defBody st_feedL_) (defScope st_feedL_) .none kV18 dc18 pm18 an18 cd18 ct18), sl18⟩) (c18 : PySem.W.codeIn K cd18 "_law_feed" = true) (k18 : PySem.W.keepIn K (.ref f18) = true)
    (a19 : PySem.W.nsIn K mainGlobals "_law_draw" = some (some (.ref f19))) (l19 : K.lookup f19 = some ⟨o19, od19, .func (PySem.W.fnOf "_law_draw" "_law_draw" (defArgs st_drawL_) (defBody st_drawL_) (defScope st_drawL_) .none kV19 dc19 pm19 an19 cd19 ct19), sl19⟩) (c19 : PySem.W.codeIn K cd19 "_law_draw" = true) (k19 : PySem.W.keepIn K (.ref f19) = true)
    (a20 : PySem.W.nsIn K mainGlobals "_law_key" = some (some (.ref f20))) (l20 : K.lookup f20 = some ⟨o20, od20, .func (PySem.W.fnOf "_law_key" "_law_key" (defArgs st_keyL_) (defBody st_keyL_) (defScope st_keyL_) .none kV20 dc20 pm20 an20 cd20 ct20), sl20⟩) (c20 : PySem.W.codeIn K cd20 "_law_key" = true) (k20 : PySem.W.keepIn K (.ref f20) = true)
    (a21 : PySem.W.nsIn K mainGlobals "_law_ends" = some (some (.ref f21))) (l21 : K.lookup f21 = some ⟨o21, od21, .func (PySem.W.fnOf "_law_ends" "_law_ends" (defArgs st_endsL_) (defBody st_endsL_) (defScope st_endsL_) .none kV21 dc21 pm21 an21 cd21 ct21), sl21⟩) (c21 : PySem.W.codeIn K cd21 "_law_ends" = true) (k21 : PySem.W.keepIn K (.ref f21) = true)
    (a22 : PySem.W.nsIn K mainGlobals "_law_turned" = some (some (.ref f22))) (l22 : K.lookup f22 = some ⟨o22, od22, .func (PySem.W.fnOf "_law_turned" "_law_turned" (defArgs st_turnedL_) (defBody st_turnedL_) (defScope st_turnedL_) .none kV22 dc22 pm22 an22 cd22 ct22), sl22⟩) (c22 : PySem.W.codeIn K cd22 "_law_turned" = true) (k22 : PySem.W.keepIn K (.ref f22) = true)
    (a23 : PySem.W.nsIn K mainGlobals "_law_far" = some (some (.ref f23))) (l23 : K.lookup f23 = some ⟨o23, od23, .func (PySem.W.fnOf "_law_far" "_law_far" (defArgs st_farL_) (defBody st_farL_) (defScope st_farL_) .none kV23 dc23 pm23 an23 cd23 ct23), sl23⟩) (c23 : PySem.W.codeIn K cd23 "_law_far" = true) (k23 : PySem.W.keepIn K (.ref f23) = true)
    (a24 : PySem.W.nsIn K mainGlobals "_law_ring" = some (some (.ref f24))) (l24 : K.lookup f24 = some ⟨o24, od24, .func (PySem.W.fnOf "_law_ring" "_law_ring" (defArgs st_ringL_) (defBody st_ringL_) (defScope st_ringL_) .none kV24 dc24 pm24 an24 cd24 ct24), sl24⟩) (c24 : PySem.W.codeIn K cd24 "_law_ring" = true) (k24 : PySem.W.keepIn K (.ref f24) = true)
    (a25 : PySem.W.nsIn K mainGlobals "_law_line" = some (some (.ref f25))) (l25 : K.lookup f25 = some ⟨o25, od25, .func (PySem.W.fnOf "_law_line" "_law_line" (defArgs st_lineL_) (defBody st_lineL_) (defScope st_lineL_) .none kV25 dc25 pm25 an25 cd25 ct25), sl25⟩) (c25 : PySem.W.codeIn K cd25 "_law_line" = true) (k25 : PySem.W.keepIn K (.ref f25) = true)
    (a26 : PySem.W.findIn K (.ref C_NetRun) "state_now" = some (some (.ref f26))) (l26 : K.lookup f26 = some ⟨o26, od26, .func (PySem.W.fnOf "state_now" "NetRun.state_now" (defArgs st_NetRun_state_now_) (defBody st_NetRun_state_now_) (defScope st_NetRun_state_now_) .none kV26 dc26 pm26 an26 cd26 ct26), sl26⟩) (c26 : PySem.W.codeIn K cd26 "NetRun.state_now" = true) (k26 : PySem.W.keepIn K (.ref f26) = true) (t26 : PySem.W.isFn K (.ref f26) = true)
    (a27 : PySem.W.nsIn K mainGlobals "_law_right" = some (some (.ref f27))) (l27 : K.lookup f27 = some ⟨o27, od27, .func (PySem.W.fnOf "_law_right" "_law_right" (defArgs st_rightL_) (defBody st_rightL_) (defScope st_rightL_) .none kV27 dc27 pm27 an27 cd27 ct27), sl27⟩) (c27 : PySem.W.codeIn K cd27 "_law_right" = true) (k27 : PySem.W.keepIn K (.ref f27) = true)
    (a28 : PySem.W.findIn K (.ref C_NetRun) "__init__" = some (some (.ref f28))) (l28 : K.lookup f28 = some ⟨o28, od28, .func (PySem.W.fnOf "__init__" "NetRun.__init__" (defArgs st_NetRun_init_) (defBody st_NetRun_init_) (defScope st_NetRun_init_) .none (.ref D28) dc28 pm28 an28 cd28 ct28), sl28⟩) (c28 : PySem.W.codeIn K cd28 "NetRun.__init__" = true) (k28 : PySem.W.keepIn K (.ref f28) = true) (t28 : PySem.W.isFn K (.ref f28) = true) (q28_most : PySem.W.nsIn K D28 "most" = some (some w28_most)) (x28_most : CV K w28_most (.int 4)) (q28_age : PySem.W.nsIn K D28 "age" = some (some w28_age)) (x28_age : CV K w28_age (.int 1))
    (a29 : PySem.W.findIn K (.ref C_NetRun) "go_round" = some (some (.ref f29))) (l29 : K.lookup f29 = some ⟨o29, od29, .func (PySem.W.fnOf "go_round" "NetRun.go_round" (defArgs st_NetRun_go_round_) (defBody st_NetRun_go_round_) (defScope st_NetRun_go_round_) .none kV29 dc29 pm29 an29 cd29 ct29), sl29⟩) (c29 : PySem.W.codeIn K cd29 "NetRun.go_round" = true) (k29 : PySem.W.keepIn K (.ref f29) = true) (t29 : PySem.W.isFn K (.ref f29) = true)
    (a30 : PySem.W.findIn K (.ref C_NetRun) "set_up" = some (some (.ref f30))) (l30 : K.lookup f30 = some ⟨o30, od30, .func (PySem.W.fnOf "set_up" "NetRun.set_up" (defArgs st_NetRun_set_up_) (defBody st_NetRun_set_up_) (defScope st_NetRun_set_up_) .none kV30 dc30 pm30 an30 cd30 ct30), sl30⟩) (c30 : PySem.W.codeIn K cd30 "NetRun.set_up" = true) (k30 : PySem.W.keepIn K (.ref f30) = true) (t30 : PySem.W.isFn K (.ref f30) = true)
    (a31 : PySem.W.findIn K (.ref C_NetRun) "set_wire" = some (some (.ref f31))) (l31 : K.lookup f31 = some ⟨o31, od31, .func (PySem.W.fnOf "set_wire" "NetRun.set_wire" (defArgs st_NetRun_set_wire_) (defBody st_NetRun_set_wire_) (defScope st_NetRun_set_wire_) .none kV31 dc31 pm31 an31 cd31 ct31), sl31⟩) (c31 : PySem.W.codeIn K cd31 "NetRun.set_wire" = true) (k31 : PySem.W.keepIn K (.ref f31) = true) (t31 : PySem.W.isFn K (.ref f31) = true)
    (a32 : PySem.W.nsIn K mainGlobals "law" = some (some (.ref f32))) (l32 : K.lookup f32 = some ⟨o32, od32, .func (PySem.W.fnOf "law" "law" (defArgs st_law_) (defBody st_law_) (defScope st_law_) .none kV32 dc32 pm32 an32 cd32 ct32), sl32⟩) (c32 : PySem.W.codeIn K cd32 "law" = true) (k32 : PySem.W.keepIn K (.ref f32) = true)
    (aC_NetRun : PySem.W.nsIn K mainGlobals "NetRun" = some (some (.ref C_NetRun))) (oc0_NetRun : PySem.W.plainGet K C_NetRun Str.empty = true) (oc1_NetRun : PySem.W.hasDictIn K C_NetRun = true) (oc2_NetRun : PySem.W.plainOver K C_NetRun = true) (oc3_NetRun : PySem.W.findIn K (.ref C_NetRun) "__setattr__" = some (some (.builtin "object.__setattr__")))
    (mk0_NetRun : PySem.W.makesIn K C_NetRun = true) (mk1_NetRun : PySem.W.keepIn K (.ref C_NetRun) = true)
    (na_NetRun_age_0 : PySem.W.findIn K (.ref C_NetRun) "age" = some none)
    (na_NetRun_most_0 : PySem.W.findIn K (.ref C_NetRun) "most" = some none)
    (na_NetRun_net_0 : PySem.W.findIn K (.ref C_NetRun) "net" = some none)
    (na_NetRun_state_0 : PySem.W.findIn K (.ref C_NetRun) "state" = some none)
    (na_NetRun_turns_0 : PySem.W.findIn K (.ref C_NetRun) "turns" = some none)
    (na_NetRun_wires_up_0 : PySem.W.findIn K (.ref C_NetRun) "wires_up" = some none)
    (aC_NoHouse : PySem.W.nsIn K mainGlobals "NoHouse" = some (some (.ref C_NoHouse)))
    (aC_NoLink : PySem.W.nsIn K mainGlobals "NoLink" = some (some (.ref C_NoLink)))
    (T_NoHouse : OexL K C_NoHouse) (iC_NoHouse : PySem.W.findIn K (.ref C_NoHouse) "__init__" = some (some (.ref fI_NoHouse))) (tI_NoHouse : PySem.W.typeIn K (.ref fI_NoHouse) = some (.type "function")) (lI_NoHouse : K.lookup fI_NoHouse = some ⟨oI_NoHouse, odI_NoHouse, .func (PySem.W.fnOf "__init__" "NoHouse.__init__" (defArgs st_i_NoHouse) (defBody st_i_NoHouse) (defScope st_i_NoHouse) .none kVI_NoHouse dcI_NoHouse pmI_NoHouse anI_NoHouse cdI_NoHouse ctI_NoHouse), slI_NoHouse⟩) (cI_NoHouse : PySem.W.codeIn K cdI_NoHouse "NoHouse.__init__" = true) (kI_NoHouse : PySem.W.keepIn K (.ref fI_NoHouse) = true) (nC_NoHouse_0 : PySem.W.findIn K (.ref C_NoHouse) "name" = some none)
    (T_NoLink : OexL K C_NoLink) (iC_NoLink : PySem.W.findIn K (.ref C_NoLink) "__init__" = some (some (.ref fI_NoLink))) (tI_NoLink : PySem.W.typeIn K (.ref fI_NoLink) = some (.type "function")) (lI_NoLink : K.lookup fI_NoLink = some ⟨oI_NoLink, odI_NoLink, .func (PySem.W.fnOf "__init__" "NoLink.__init__" (defArgs st_i_NoLink) (defBody st_i_NoLink) (defScope st_i_NoLink) .none kVI_NoLink dcI_NoLink pmI_NoLink anI_NoLink cdI_NoLink ctI_NoLink), slI_NoLink⟩) (cI_NoLink : PySem.W.codeIn K cdI_NoLink "NoLink.__init__" = true) (kI_NoLink : PySem.W.keepIn K (.ref fI_NoLink) = true) (nC_NoLink_0 : PySem.W.findIn K (.ref C_NoLink) "number" = some none)
    (z_tuple : PySem.W.nsIn K mainGlobals "tuple" = some none) (z_zip : PySem.W.nsIn K mainGlobals "zip" = some none) (z_len : PySem.W.nsIn K mainGlobals "len" = some none) (z_sorted : PySem.W.nsIn K mainGlobals "sorted" = some none) (z_list : PySem.W.nsIn K mainGlobals "list" = some none) (z_min : PySem.W.nsIn K mainGlobals "min" = some none) (z_max : PySem.W.nsIn K mainGlobals "max" = some none) (z_dict : PySem.W.nsIn K mainGlobals "dict" = some none) (z_range : PySem.W.nsIn K mainGlobals "range" = some none) (z_repr : PySem.W.nsIn K mainGlobals "repr" = some none) :
    ∃ fd : FuncData, (∀ (s : Shared) (v : Value), BindsTo s fd ⟨[v], []⟩ [("_law_script", v)]) ∧ ∀ base : Heap, K.In base → base.Ns mainGlobals mg → FnG l.prog w K mg base 6 fa fd ["_law_script"] (@spA (TC K) K 1 law_) := by
  have e := hfa.symm.trans (PySem.W.mg_of X G a32)
  cases e
  have F0 := fun_mk (st := st_other_ends_) l0 c0 k0
  have g0 := PySem.W.mg_of X G a0
  have b0 := F0.binds (ps := ["wires", "name"]) fun _ _ _ _ _ _ us hl => match us, hl with | [_, _], _ => rfl
  have F1 := fun_mk (st := st_own_best_) l1 c1 k1
  have g1 := PySem.W.mg_of X G a1
  have b1 := F1.binds (ps := ["member"]) fun _ _ _ _ _ _ us hl => match us, hl with | [_], _ => rfl
  have F2 := fun_mk (st := st_first_state_) l2 c2 k2
  have g2 := PySem.W.mg_of X G a2
  have b2 := F2.binds (ps := ["net"]) fun _ _ _ _ _ _ us hl => match us, hl with | [_], _ => rfl
  have F3 := fun_mk (st := st_row_up_) l3 c3 k3
  have g3 := PySem.W.mg_of X G a3
  have b3 := F3.binds (ps := ["member", "row", "truth"]) fun _ _ _ _ _ _ us hl => match us, hl with | [_, _, _], _ => rfl
  have F4 := fun_mk (st := st_state_up_) l4 c4 k4
  have g4 := PySem.W.mg_of X G a4
  have b4 := F4.binds (ps := ["net", "state", "name", "truth"]) fun _ _ _ _ _ _ us hl => match us, hl with | [_, _, _, _], _ => rfl
  have F5 := fun_mk (st := st_near_names_) l5 c5 k5
  have g5 := PySem.W.mg_of X G a5
  have b5 := F5.binds (ps := ["net", "up", "wires"]) fun _ _ _ _ _ _ us hl => match us, hl with | [_, _, _], _ => rfl
  have F6 := fun_mk (st := st_own_keys_) l6 c6 k6
  have g6 := PySem.W.mg_of X G a6
  have b6 := F6.binds (ps := ["net"]) fun _ _ _ _ _ _ us hl => match us, hl with | [_], _ => rfl
  have F7 := fun_mk (st := st_steps_from_) l7 c7 k7
  have g7 := PySem.W.mg_of X G a7
  have b7 := F7.binds (ps := ["near", "start"]) fun _ _ _ _ _ _ us hl => match us, hl with | [_, _], _ => rfl
  have F8 := fun_mk (st := st_pieces_of_) l8 c8 k8
  have g8 := PySem.W.mg_of X G a8
  have b8 := F8.binds (ps := ["net", "up", "wires"]) fun _ _ _ _ _ _ us hl => match us, hl with | [_, _, _], _ => rfl
  have F9 := fun_mk (st := st_nearer_) l9 c9 k9
  have g9 := PySem.W.mg_of X G a9
  have b9 := F9.binds (ps := ["near", "steps", "name"]) fun _ _ _ _ _ _ us hl => match us, hl with | [_, _, _], _ => rfl
  have F10 := fun_mk (st := st_tree_paper_) l10 c10 k10
  have g10 := PySem.W.mg_of X G a10
  have b10 := F10.binds (ps := ["net", "up", "wires"]) fun _ _ _ _ _ _ us hl => match us, hl with | [_, _, _], _ => rfl
  have g11 := PySem.W.mg_of X G a11
  obtain ⟨yp11_0, rp11_0, zp11_0⟩ := xp11_0
  have FD11 := fund_mk1 (x := "ghosts_of") (qual := "ghosts_of") (st := st_ghosts_of_) (dvs := [yp11_0]) l11 c11 k11 lT11 rfl (.cons rp11_0 .nil) (by simp)
  have F11 := FunW.of FD11
  have F12 := fun_mk (st := st_rounds_to_halt_) l12 c12 k12
  have g12 := PySem.W.mg_of X G a12
  obtain ⟨y12_most, r12_most, z12_most⟩ := x12_most
  obtain ⟨y12_age, r12_age, z12_age⟩ := x12_age
  have FD12 := fund_mk (x := "rounds_to_halt") (qual := "rounds_to_halt") (st := st_rounds_to_halt_) (kws := [("most", y12_most), ("age", y12_age)]) l12 c12 k12 (fun q hq => by simp only [List.mem_cons, List.not_mem_nil, or_false] at hq; rcases hq with rfl | rfl; exact ⟨_, q12_most, r12_most⟩; exact ⟨_, q12_age, r12_age⟩)
  have F13 := fun_mk (st := st_follows_of_) l13 c13 k13
  have g13 := PySem.W.mg_of X G a13
  have b13 := F13.binds (ps := ["state"]) fun _ _ _ _ _ _ us hl => match us, hl with | [_], _ => rfl
  have F14 := fun_mk (st := st_ring_from_) l14 c14 k14
  have g14 := PySem.W.mg_of X G a14
  have b14 := F14.binds (ps := ["leads", "name"]) fun _ _ _ _ _ _ us hl => match us, hl with | [_, _], _ => rfl
  have F15 := fun_mk (st := st_follow_ring_) l15 c15 k15
  have g15 := PySem.W.mg_of X G a15
  have b15 := F15.binds (ps := ["pairs"]) fun _ _ _ _ _ _ us hl => match us, hl with | [_], _ => rfl
  have F16 := fun_mk (st := st_row_behind_) l16 c16 k16
  have g16 := PySem.W.mg_of X G a16
  have b16 := F16.binds (ps := ["member", "fresh", "heard", "most", "age"]) fun _ _ _ _ _ _ us hl => match us, hl with | [_, _, _, _, _], _ => rfl
  have g17 := PySem.W.mg_of X G a17
  obtain ⟨y17_most, r17_most, z17_most⟩ := x17_most
  obtain ⟨y17_age, r17_age, z17_age⟩ := x17_age
  obtain ⟨yp17_0, rp17_0, zp17_0⟩ := xp17_0
  have FD17 := fund_mk2 (x := "state_round") (qual := "state_round") (st := st_state_round_) (dvs := [yp17_0]) (kws := [("most", y17_most), ("age", y17_age)]) l17 c17 k17 lT17 rfl (.cons rp17_0 .nil) (by simp) (fun q hq => by simp only [List.mem_cons, List.not_mem_nil, or_false] at hq; rcases hq with rfl | rfl; exact ⟨_, q17_most, r17_most⟩; exact ⟨_, q17_age, r17_age⟩)
  have F17 := FunW.of FD17
  have F18 := fun_mk (st := st_feedL_) l18 c18 k18
  have g18 := PySem.W.mg_of X G a18
  have b18 := F18.binds (ps := ["_law_script"]) fun _ _ _ _ _ _ us hl => match us, hl with | [_], _ => rfl
  have F19 := fun_mk (st := st_drawL_) l19 c19 k19
  have g19 := PySem.W.mg_of X G a19
  have b19 := F19.binds (ps := ["_law_feed_here", "_law_many"]) fun _ _ _ _ _ _ us hl => match us, hl with | [_, _], _ => rfl
  have F20 := fun_mk (st := st_keyL_) l20 c20 k20
  have g20 := PySem.W.mg_of X G a20
  have b20 := F20.binds (ps := ["_law_member"]) fun _ _ _ _ _ _ us hl => match us, hl with | [_], _ => rfl
  have F21 := fun_mk (st := st_endsL_) l21 c21 k21
  have g21 := PySem.W.mg_of X G a21
  have b21 := F21.binds (ps := ["_law_wires", "_law_name"]) fun _ _ _ _ _ _ us hl => match us, hl with | [_, _], _ => rfl
  have F22 := fun_mk (st := st_turnedL_) l22 c22 k22
  have g22 := PySem.W.mg_of X G a22
  have b22 := F22.binds (ps := ["_law_net", "_law_state", "_law_wires", "_law_limit", "_law_span"]) fun _ _ _ _ _ _ us hl => match us, hl with | [_, _, _, _, _], _ => rfl
  have F23 := fun_mk (st := st_farL_) l23 c23 k23
  have g23 := PySem.W.mg_of X G a23
  have b23 := F23.binds (ps := ["_law_names", "_law_wires", "_law_name"]) fun _ _ _ _ _ _ us hl => match us, hl with | [_, _, _], _ => rfl
  have F24 := fun_mk (st := st_ringL_) l24 c24 k24
  have g24 := PySem.W.mg_of X G a24
  have b24 := F24.binds (ps := ["_law_pairs"]) fun _ _ _ _ _ _ us hl => match us, hl with | [_], _ => rfl
  have F25 := fun_mk (st := st_lineL_) l25 c25 k25
  have g25 := PySem.W.mg_of X G a25
  have b25 := F25.binds (ps := ["_law_size", "_law_is_ring"]) fun _ _ _ _ _ _ us hl => match us, hl with | [_, _], _ => rfl
  have F26 := fun_mk (st := st_NetRun_state_now_) l26 c26 k26
  have b26 := F26.binds (ps := ["self"]) fun _ _ _ _ _ _ us hl => match us, hl with | [_], _ => rfl
  have F27 := fun_mk (st := st_rightL_) l27 c27 k27
  have g27 := PySem.W.mg_of X G a27
  have b27 := F27.binds (ps := ["_law_net", "_law_run", "_law_state", "_law_wires"]) fun _ _ _ _ _ _ us hl => match us, hl with | [_, _, _, _], _ => rfl
  have F28 := fun_mk (st := st_NetRun_init_) l28 c28 k28
  obtain ⟨y28_most, r28_most, z28_most⟩ := x28_most
  obtain ⟨y28_age, r28_age, z28_age⟩ := x28_age
  have FD28 := fund_mk (x := "__init__") (qual := "NetRun.__init__") (st := st_NetRun_init_) (kws := [("most", y28_most), ("age", y28_age)]) l28 c28 k28 (fun q hq => by simp only [List.mem_cons, List.not_mem_nil, or_false] at hq; rcases hq with rfl | rfl; exact ⟨_, q28_most, r28_most⟩; exact ⟨_, q28_age, r28_age⟩)
  have F29 := fun_mk (st := st_NetRun_go_round_) l29 c29 k29
  have b29 := F29.binds (ps := ["self"]) fun _ _ _ _ _ _ us hl => match us, hl with | [_], _ => rfl
  have F30 := fun_mk (st := st_NetRun_set_up_) l30 c30 k30
  have b30 := F30.binds (ps := ["self", "name", "truth"]) fun _ _ _ _ _ _ us hl => match us, hl with | [_, _, _], _ => rfl
  have F31 := fun_mk (st := st_NetRun_set_wire_) l31 c31 k31
  have b31 := F31.binds (ps := ["self", "one", "other", "truth"]) fun _ _ _ _ _ _ us hl => match us, hl with | [_, _, _, _], _ => rfl
  have F32 := fun_mk (st := st_law_) l32 c32 k32
  have gC_NetRun := PySem.W.mg_of X G aC_NetRun
  have gC_NoHouse := PySem.W.mg_of X G aC_NoHouse
  have gC_NoLink := PySem.W.mg_of X G aC_NoLink
  have FI_NoHouse := fun_mk (st := st_i_NoHouse) lI_NoHouse cI_NoHouse kI_NoHouse
  have bI_NoHouse := FI_NoHouse.binds (ps := ["self", "name"]) fun _ _ _ _ _ _ us hl => match us, hl with | [_, _], _ => rfl
  have FI_NoLink := fun_mk (st := st_i_NoLink) lI_NoLink cI_NoLink kI_NoLink
  have bI_NoLink := FI_NoLink.binds (ps := ["self", "number"]) fun _ _ _ _ _ _ us hl => match us, hl with | [_, _], _ => rfl
  have m_tuple := PySem.W.mg_none_of X G z_tuple
  have m_zip := PySem.W.mg_none_of X G z_zip
  have m_len := PySem.W.mg_none_of X G z_len
  have m_sorted := PySem.W.mg_none_of X G z_sorted
  have m_list := PySem.W.mg_none_of X G z_list
  have m_min := PySem.W.mg_none_of X G z_min
  have m_max := PySem.W.mg_none_of X G z_max
  have m_dict := PySem.W.mg_none_of X G z_dict
  have m_range := PySem.W.mg_none_of X G z_range
  have m_repr := PySem.W.mg_none_of X G z_repr
  letI : AL.TT := TC K
  refine ⟨PySem.W.fnOf "law" "law" (defArgs st_law_) (defBody st_law_) (defScope st_law_) .none kV32 dc32 pm32 an32 cd32 ct32, fun s v => .of_eq rfl, fun base _ _ => ?_⟩
  have tc_NetRun : AL.TT.cls "NetRun" = C_NetRun := clsK_at aC_NetRun
  have oc_NetRun : Cls K (AL.TT.cls "NetRun") := by rw [tc_NetRun]; exact ⟨oc0_NetRun, oc1_NetRun, oc2_NetRun, oc3_NetRun⟩
  have na_NetRun_age : NoAttr K (AL.TT.cls "NetRun") "age" := by rw [tc_NetRun]; exact na_NetRun_age_0
  have na_NetRun_most : NoAttr K (AL.TT.cls "NetRun") "most" := by rw [tc_NetRun]; exact na_NetRun_most_0
  have na_NetRun_net : NoAttr K (AL.TT.cls "NetRun") "net" := by rw [tc_NetRun]; exact na_NetRun_net_0
  have na_NetRun_state : NoAttr K (AL.TT.cls "NetRun") "state" := by rw [tc_NetRun]; exact na_NetRun_state_0
  have na_NetRun_turns : NoAttr K (AL.TT.cls "NetRun") "turns" := by rw [tc_NetRun]; exact na_NetRun_turns_0
  have na_NetRun_wires_up : NoAttr K (AL.TT.cls "NetRun") "wires_up" := by rw [tc_NetRun]; exact na_NetRun_wires_up_0
  have x_NoHouse : KnX l.prog w K mg base "NoHouse" := kn_NoHouse T_NoHouse iC_NoHouse tI_NoHouse gC_NoHouse FI_NoHouse bI_NoHouse nC_NoHouse_0
  have x_NoLink : KnX l.prog w K mg base "NoLink" := kn_NoLink T_NoLink iC_NoLink tI_NoLink gC_NoLink FI_NoLink bI_NoLink nC_NoLink_0
  have d_other_ends_ : Def l.prog w K mg base 1 "other_ends" ["wires", "name"] other_ends_ := ok_other_ends_ F0 b0 g0
  have d_own_best_ : Def l.prog w K mg base 1 "own_best" ["member"] own_best_ := ok_own_best_ F1 b1 g1
  have d_first_state_ : Def l.prog w K mg base 2 "first_state" ["net"] first_state_ := ok_first_state_ F2 b2 g2 d_own_best_ m_tuple
  have d_row_up_ : Def l.prog w K mg base 2 "row_up" ["member", "row", "truth"] row_up_ := ok_row_up_ F3 b3 g3 d_own_best_
  have d_state_up_ : DefX l.prog w K mg base 3 "state_up" ["net", "state", "name", "truth"] state_up_ := ok_state_up_ F4 b4 g4 d_row_up_ x_NoHouse m_tuple m_zip
  have d_near_names_ : Def l.prog w K mg base 2 "near_names" ["net", "up", "wires"] near_names_ := ok_near_names_ F5 b5 g5 d_other_ends_
  have d_own_keys_ : Def l.prog w K mg base 2 "own_keys" ["net"] own_keys_ := ok_own_keys_ F6 b6 g6 d_own_best_
  have d_steps_from_ : Def l.prog w K mg base 1 "steps_from" ["near", "start"] steps_from_ := ok_steps_from_ F7 b7 g7 m_len
  have d_pieces_of_ : Def l.prog w K mg base 3 "pieces_of" ["net", "up", "wires"] pieces_of_ := ok_pieces_of_ F8 b8 g8 d_near_names_ d_steps_from_ m_tuple m_sorted m_list
  have d_nearer_ : Def l.prog w K mg base 1 "nearer" ["near", "steps", "name"] nearer_ := ok_nearer_ F9 b9 g9 m_min
  have d_tree_paper_ : Def l.prog w K mg base 4 "tree_paper" ["net", "up", "wires"] tree_paper_ := ok_tree_paper_ F10 b10 g10 d_own_keys_ d_near_names_ d_pieces_of_ d_steps_from_ d_nearer_ m_tuple m_min m_sorted
  have G_ghosts_of_ := ok_ghosts_of_ (P := l.prog) (w := w) (mg := mg) (base := base) F11 d_own_keys_ d_pieces_of_ m_tuple m_sorted m_list
  have k_ghosts_of_3 : DefK l.prog w K mg base 4 "ghosts_of" 3 [] (fun as _ => as ++ []) ghosts_of_ := defk_1 1 G_ghosts_of_ g11 FD11 (by simp) rfl (fun H m => .nil) (fun T kV doc pm an cdv ct us its l1 l2 => match us, its, l1, l2 with | [_, _, _], [_], _, _ => ⟨_, rfl, rfl⟩)
  have G_rounds_to_halt_ := ok_rounds_to_halt_ (P := l.prog) (w := w) (mg := mg) (base := base) F12 d_tree_paper_ m_max
  have k_rounds_to_halt_3_most_age : DefK l.prog w K mg base 5 "rounds_to_halt" 3 ["most", "age"] (fun as bs => as ++ bs) rounds_to_halt_ := defk_in G_rounds_to_halt_ g12 FD12 (by simp) rfl (fun D doc pm an cdv ct us mv ws l1 l2 l3 => match us, mv, ws, l1, l2, l3 with | [_, _, _], [], [_, _], _, _, _ => rfl)
  have d_follows_of_ : Def l.prog w K mg base 1 "follows_of" ["state"] follows_of_ := ok_follows_of_ F13 b13 g13 m_tuple
  have d_ring_from_ : Def l.prog w K mg base 1 "ring_from" ["leads", "name"] ring_from_ := ok_ring_from_ F14 b14 g14 m_len m_tuple
  have d_follow_ring_ : Def l.prog w K mg base 2 "follow_ring" ["pairs"] follow_ring_ := ok_follow_ring_ F15 b15 g15 d_ring_from_
  have d_row_behind_ : Def l.prog w K mg base 2 "row_behind" ["member", "fresh", "heard", "most", "age"] row_behind_ := ok_row_behind_ F16 b16 g16 d_own_best_ m_tuple m_sorted m_min
  have G_state_round_ := ok_state_round_ (P := l.prog) (w := w) (mg := mg) (base := base) F17 d_other_ends_ d_row_behind_ m_zip m_tuple
  have k_state_round_3_most_age : DefK l.prog w K mg base 3 "state_round" 3 ["most", "age"] (fun as bs => as ++ ([] ++ ([] ++ bs))) state_round_ := defk_a (ms := []) 1 G_state_round_ g17 FD17 (by simp) (by simp) (by simp) rfl (fun H m => .nil) (fun H m => .nil) (fun T D doc pm an cdv ct us its mv ws l1 l2 l3 l4 => match us, its, mv, ws, l1, l2, l3, l4 with | [_, _, _], [_], [], [_, _], _, _, _, _ => ⟨_, rfl, rfl⟩)
  have d_feedL_ : Def l.prog w K mg base 1 "_law_feed" ["_law_script"] feedL_ := ok_feedL_ F18 b18 g18 m_list
  have d_drawL_ : Def l.prog w K mg base 1 "_law_draw" ["_law_feed_here", "_law_many"] drawL_ := ok_drawL_ F19 b19 g19 m_len
  have d_keyL_ : Def l.prog w K mg base 1 "_law_key" ["_law_member"] keyL_ := ok_keyL_ F20 b20 g20
  have d_endsL_ : Def l.prog w K mg base 1 "_law_ends" ["_law_wires", "_law_name"] endsL_ := ok_endsL_ F21 b21 g21 m_sorted
  have d_turnedL_ : Def l.prog w K mg base 2 "_law_turned" ["_law_net", "_law_state", "_law_wires", "_law_limit", "_law_span"] turnedL_ := ok_turnedL_ F22 b22 g22 d_endsL_ d_keyL_ m_dict m_range m_tuple m_len m_sorted
  have d_farL_ : Def l.prog w K mg base 2 "_law_far" ["_law_names", "_law_wires", "_law_name"] farL_ := ok_farL_ F23 b23 g23 d_endsL_
  have d_ringL_ : Def l.prog w K mg base 1 "_law_ring" ["_law_pairs"] ringL_ := ok_ringL_ F24 b24 g24 m_dict m_tuple
  have d_lineL_ : Def l.prog w K mg base 1 "_law_line" ["_law_size", "_law_is_ring"] lineL_ := ok_lineL_ F25 b25 g25 m_tuple m_range m_sorted
  have d_NetRun_state_now_ : Met l.prog w K mg base 1 "NetRun" "state_now" ["self"] NetRun_state_now_ := ok_NetRun_state_now_ F26 b26 (by rw [tc_NetRun]; exact ⟨a26, t26, k26⟩) oc_NetRun oc_NetRun na_NetRun_state
  have d_rightL_ : Def l.prog w K mg base 5 "_law_right" ["_law_net", "_law_run", "_law_state", "_law_wires"] rightL_ := ok_rightL_ F27 b27 g27 d_NetRun_state_now_ d_follows_of_ d_follow_ring_ d_ringL_ d_keyL_ d_farL_ k_ghosts_of_3 m_tuple m_dict m_repr
  have G_NetRun_init_ := ok_NetRun_init_ (P := l.prog) (w := w) (mg := mg) (base := base) F28 d_first_state_ oc_NetRun na_NetRun_turns na_NetRun_wires_up na_NetRun_state na_NetRun_age na_NetRun_most na_NetRun_net
  have kk_NetRun1_most_age : MadeK l.prog w K mg base 3 "NetRun" 1 ["most", "age"] (fun as bs => as ++ bs) NetRun_init_ := madek_in G_NetRun_init_ (by rw [tc_NetRun]; exact ⟨mk0_NetRun, a28, t28, mk1_NetRun⟩) (by rw [tc_NetRun]; exact gC_NetRun) FD28 (by simp) rfl (fun D doc pm an cdv ct us mv ws l1 l2 l3 => match us, mv, ws, l1, l2, l3 with | [_, _], [], [_, _], _, _, _ => rfl)
  have d_NetRun_go_round_ : Met l.prog w K mg base 4 "NetRun" "go_round" ["self"] NetRun_go_round_ := ok_NetRun_go_round_ F29 b29 (by rw [tc_NetRun]; exact ⟨a29, t29, k29⟩) oc_NetRun k_state_round_3_most_age oc_NetRun na_NetRun_turns na_NetRun_state na_NetRun_wires_up na_NetRun_net na_NetRun_age na_NetRun_most m_len m_zip
  have d_NetRun_set_up_ : MetX l.prog w K mg base 4 "NetRun" "set_up" ["self", "name", "truth"] NetRun_set_up_ := ok_NetRun_set_up_ F30 b30 (by rw [tc_NetRun]; exact ⟨a30, t30, k30⟩) oc_NetRun d_state_up_ oc_NetRun na_NetRun_state na_NetRun_net
  have n_NetRun_set_up_ := d_NetRun_set_up_.no
  have d_NetRun_set_wire_ : MetX l.prog w K mg base 3 "NetRun" "set_wire" ["self", "one", "other", "truth"] NetRun_set_wire_ := ok_NetRun_set_wire_ F31 b31 (by rw [tc_NetRun]; exact ⟨a31, t31, k31⟩) oc_NetRun x_NoLink oc_NetRun na_NetRun_wires_up na_NetRun_net m_tuple m_min m_max m_sorted
  have n_NetRun_set_wire_ := d_NetRun_set_wire_.no
  exact ok_law_ F32 d_feedL_ d_lineL_ d_drawL_ kk_NetRun1_most_age d_NetRun_go_round_ d_turnedL_ d_rightL_ d_keyL_ k_ghosts_of_3 k_rounds_to_halt_3_most_age n_NetRun_set_wire_ n_NetRun_set_up_ m_range m_tuple m_len
end K70
open PySem PySem.W PyProof.Rows in
set_option maxRecDepth 100000 in
set_option maxHeartbeats 0 in
theorem PySem.Challenge.cw_ledclocks_k70_rings_and_ghosts_there_holds : PySem.Challenge.rw_ledclocks_k70_rings_and_ghosts_there.Holds := by
  w_on; o_law; k_head; (case hw => w_witness2)
  k_fill
  refine G.walk_g (l := PySem.Challenge.rw_ledclocks_k70_rings_and_ghosts_there) (n := 63) (k := 6) (x := "_law_script") (sp := fun w => @AL.spA (AL.TC _) _ 1 K70.law_) rfl (by decide) rfl ⟨rfl, by decide, by decide⟩ (fun w h Y => PySem.W.kIn_of Y) ?F (fun w _ a ns hl hO hS => AL.hsp_c K70.law_true hl hO hS)
  case F =>
    intro w mg fa h KX G hmg
    refine' K70.all_mk KX G hmg  ?a0 ?l0 ?c0 ?k0 ?a1 ?l1 ?c1 ?k1 ?a2 ?l2 ?c2 ?k2 ?a3 ?l3 ?c3 ?k3 ?a4 ?l4 ?c4 ?k4 ?a5 ?l5 ?c5 ?k5 ?a6 ?l6 ?c6 ?k6 ?a7 ?l7 ?c7 ?k7 ?a8 ?l8 ?c8 ?k8 ?a9 ?l9 ?c9 ?k9 ?a10 ?l10 ?c10 ?k10 ?a11 ?l11 ?c11 ?k11 ?lT11 ?xp11_0 ?a12 ?l12 ?c12 ?k12 ?q12_most ?x12_most ?q12_age ?x12_age ?a13 ?l13 ?c13 ?k13 ?a14 ?l14 ?c14 ?k14 ?a15 ?l15 ?c15 ?k15 ?a16 ?l16 ?c16 ?k16 ?a17 ?l17 ?c17 ?k17 ?lT17 ?xp17_0 ?q17_most ?x17_most ?q17_age ?x17_age ?a18 ?l18 ?c18 ?k18 ?a19 ?l19 ?c19 ?k19 ?a20 ?l20 ?c20 ?k20 ?a21 ?l21 ?c21 ?k21 ?a22 ?l22 ?c22 ?k22 ?a23 ?l23 ?c23 ?k23 ?a24 ?l24 ?c24 ?k24 ?a25 ?l25 ?c25 ?k25 ?a26 ?l26 ?c26 ?k26 ?t26 ?a27 ?l27 ?c27 ?k27 ?a28 ?l28 ?c28 ?k28 ?t28 ?q28_most ?x28_most ?q28_age ?x28_age ?a29 ?l29 ?c29 ?k29 ?t29 ?a30 ?l30 ?c30 ?k30 ?t30 ?a31 ?l31 ?c31 ?k31 ?t31 ?a32 ?l32 ?c32 ?k32 ?aC_NetRun ?oc0_NetRun ?oc1_NetRun ?oc2_NetRun ?oc3_NetRun ?mk0_NetRun ?mk1_NetRun ?na_NetRun_age_0 ?na_NetRun_most_0 ?na_NetRun_net_0 ?na_NetRun_state_0 ?na_NetRun_turns_0 ?na_NetRun_wires_up_0 ?aC_NoHouse ?aC_NoLink  ?T_NoHouse ?iC_NoHouse ?tI_NoHouse ?lI_NoHouse ?cI_NoHouse ?kI_NoHouse ?nC_NoHouse_0 ?T_NoLink ?iC_NoLink ?tI_NoLink ?lI_NoLink ?cI_NoLink ?kI_NoLink ?nC_NoLink_0   ?z_tuple ?z_zip ?z_len ?z_sorted ?z_list ?z_min ?z_max ?z_dict ?z_range ?z_repr
    (case aC_NetRun => k_is)
    (case oc0_NetRun => k_is)
    (case oc1_NetRun => k_is)
    (case oc2_NetRun => k_is)
    (case oc3_NetRun => k_is)
    (case mk0_NetRun => k_is)
    (case mk1_NetRun => k_is)
    (case na_NetRun_age_0 => k_is)
    (case na_NetRun_most_0 => k_is)
    (case na_NetRun_net_0 => k_is)
    (case na_NetRun_state_0 => k_is)
    (case na_NetRun_turns_0 => k_is)
    (case na_NetRun_wires_up_0 => k_is)
    (case a0 => k_is)
    (case l0 => k_is)
    (case c0 => k_is)
    (case k0 => k_is)
    (case a1 => k_is)
    (case l1 => k_is)
    (case c1 => k_is)
    (case k1 => k_is)
    (case a2 => k_is)
    (case l2 => k_is)
    (case c2 => k_is)
    (case k2 => k_is)
    (case a3 => k_is)
    (case l3 => k_is)
    (case c3 => k_is)
    (case k3 => k_is)
    (case a4 => k_is)
    (case l4 => k_is)
    (case c4 => k_is)
    (case k4 => k_is)
    (case a5 => k_is)
    (case l5 => k_is)
    (case c5 => k_is)
    (case k5 => k_is)
    (case a6 => k_is)
    (case l6 => k_is)
    (case c6 => k_is)
    (case k6 => k_is)
    (case a7 => k_is)
    (case l7 => k_is)
    (case c7 => k_is)
    (case k7 => k_is)
    (case a8 => k_is)
    (case l8 => k_is)
    (case c8 => k_is)
    (case k8 => k_is)
    (case a9 => k_is)
    (case l9 => k_is)
    (case c9 => k_is)
    (case k9 => k_is)
    (case a10 => k_is)
    (case l10 => k_is)
    (case c10 => k_is)
    (case k10 => k_is)
    (case a11 => k_is)
    (case l11 => k_is)
    (case c11 => k_is)
    (case k11 => k_is)
    (case lT11 => k_is)
    (case xp11_0 => open AL in exact cv_non)
    (case a12 => k_is)
    (case l12 => k_is)
    (case c12 => k_is)
    (case k12 => k_is)
    (case q12_most => k_is)
    (case x12_most => open AL in exact cv_int)
    (case q12_age => k_is)
    (case x12_age => open AL in exact cv_int)
    (case a13 => k_is)
    (case l13 => k_is)
    (case c13 => k_is)
    (case k13 => k_is)
    (case a14 => k_is)
    (case l14 => k_is)
    (case c14 => k_is)
    (case k14 => k_is)
    (case a15 => k_is)
    (case l15 => k_is)
    (case c15 => k_is)
    (case k15 => k_is)
    (case a16 => k_is)
    (case l16 => k_is)
    (case c16 => k_is)
    (case k16 => k_is)
    (case a17 => k_is)
    (case l17 => k_is)
    (case c17 => k_is)
    (case k17 => k_is)
    (case lT17 => k_is)
    (case xp17_0 => open AL in exact cv_non)
    (case q17_most => k_is)
    (case x17_most => open AL in exact cv_int)
    (case q17_age => k_is)
    (case x17_age => open AL in exact cv_int)
    (case a18 => k_is)
    (case l18 => k_is)
    (case c18 => k_is)
    (case k18 => k_is)
    (case a19 => k_is)
    (case l19 => k_is)
    (case c19 => k_is)
    (case k19 => k_is)
    (case a20 => k_is)
    (case l20 => k_is)
    (case c20 => k_is)
    (case k20 => k_is)
    (case a21 => k_is)
    (case l21 => k_is)
    (case c21 => k_is)
    (case k21 => k_is)
    (case a22 => k_is)
    (case l22 => k_is)
    (case c22 => k_is)
    (case k22 => k_is)
    (case a23 => k_is)
    (case l23 => k_is)
    (case c23 => k_is)
    (case k23 => k_is)
    (case a24 => k_is)
    (case l24 => k_is)
    (case c24 => k_is)
    (case k24 => k_is)
    (case a25 => k_is)
    (case l25 => k_is)
    (case c25 => k_is)
    (case k25 => k_is)
    (case a26 => k_is)
    (case l26 => k_is)
    (case c26 => k_is)
    (case k26 => k_is)
    (case t26 => k_is)
    (case a27 => k_is)
    (case l27 => k_is)
    (case c27 => k_is)
    (case k27 => k_is)
    (case a28 => k_is)
    (case l28 => k_is)
    (case c28 => k_is)
    (case k28 => k_is)
    (case t28 => k_is)
    (case q28_most => k_is)
    (case x28_most => open AL in exact cv_int)
    (case q28_age => k_is)
    (case x28_age => open AL in exact cv_int)
    (case a29 => k_is)
    (case l29 => k_is)
    (case c29 => k_is)
    (case k29 => k_is)
    (case t29 => k_is)
    (case a30 => k_is)
    (case l30 => k_is)
    (case c30 => k_is)
    (case k30 => k_is)
    (case t30 => k_is)
    (case a31 => k_is)
    (case l31 => k_is)
    (case c31 => k_is)
    (case k31 => k_is)
    (case t31 => k_is)
    (case a32 => k_is)
    (case l32 => k_is)
    (case c32 => k_is)
    (case k32 => k_is)
    (case aC_NoHouse => k_is)
    (case aC_NoLink => k_is)
    (case T_NoHouse => exact ⟨⟨_, _, _, _, _, _, _, _, _, _, _, _, _, _, _, by k_is, by decide +kernel⟩, by k_is, by k_is, by k_is, by k_is⟩)
    (case iC_NoHouse => k_is)
    (case tI_NoHouse => k_is)
    (case lI_NoHouse => k_is)
    (case cI_NoHouse => k_is)
    (case kI_NoHouse => k_is)
    (case nC_NoHouse_0 => k_is)
    (case T_NoLink => exact ⟨⟨_, _, _, _, _, _, _, _, _, _, _, _, _, _, _, by k_is, by decide +kernel⟩, by k_is, by k_is, by k_is, by k_is⟩)
    (case iC_NoLink => k_is)
    (case tI_NoLink => k_is)
    (case lI_NoLink => k_is)
    (case cI_NoLink => k_is)
    (case kI_NoLink => k_is)
    (case nC_NoLink_0 => k_is)
    (case z_tuple => k_is)
    (case z_zip => k_is)
    (case z_len => k_is)
    (case z_sorted => k_is)
    (case z_list => k_is)
    (case z_min => k_is)
    (case z_max => k_is)
    (case z_dict => k_is)
    (case z_range => k_is)
    (case z_repr => k_is)
