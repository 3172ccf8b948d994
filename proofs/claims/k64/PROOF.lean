import PyProof.Rows.All
import Wide.All
import OpenK.AllK
import Wide.FinOn
import HandS.ForMost
import HandS.Wide
import HandS.TryOnly
import HandS.Codes
import PyProof.ReprRoads
import HandS.Lambda
import HandS.Walk
import HandS.Strs
import HandS.Sort
import HandS.SortRule
import HandS.Style
import HandS.IsInst
import HandS.TupAny
import HandS.RaiseMore
import PyProof.StrOps2
import PyProof.StrLawsRepr
import KE.GoesMore
import PyProof.EnumMake
import PyProof.EnumFor
import PyProof.Draws
import HandS.Iter
import KE.GoesZip
import HandS.Zip
import KE.KSortTupAny
import HandS.SortOrd
import HandS.More
import HandS.Defaults
import HandS.MakeKwOnly
import HandS.DictComp
import HandS.Exc
import HandS.SetFor
import HandS.Deep
import PyProof.P3Eq
import HandS.TupLe
import HandS.ExcOwn
import HandS.ExcInit
import KE.KExcInit
import KE.KDictPairs
import HandS.Dict
import KE.KEqDict
import HandS.Conv
import HandS.ExcField
import HandS.EndBits
import KE.KExcIs
import KE.KTryMore
import PyProof.Rows.CountFlat
import HandS.TupMul
import PyProof.CallStr
import PyProof.FitsInt
import PyProof.Rows.InDataRows
import HandS.HotCalls
import HandS.ExcIs
import KE.RegKIsAll
import PySem.Challenge.RW_ledclocks_k64_follow_rings_judged
set_option Elab.async false
set_option linter.all false
set_option maxRecDepth 100000
set_option maxHeartbeats 4000000
set_option exponentiation.threshold 3000
namespace G
open PySem PySem.Spec PyProof.Rows L2

structure FnG (P : Program) (w : World) (K : PySem.W.Frag) (mg : Str → Option Value) (base : Heap) (k : Nat) (f : Addr) (fd : FuncData) (ps : List Str) (sp : Sp) : Prop where
  len : ∀ vs H Q E, sp vs H Q E → vs.length = ps.length
  run : ∀ (A : Around) (outer : List Env) (s : Shared) (H : Hp) (args : Args) (us : List Value) (vs : List V) (Q : VK) (E : XK),
    A.guards = some [] → Room k A → Env0 P w K mg base A outer s H → BindsTo s fd args (ps.zip us) → Vals vs us → sp vs H Q E →
      codeAny (model P w) A (.call (.ref f) args) (CR CX0 outer P w H s Q E) s
section
variable {X : Cx} {k : Nat} {f : Addr} {fd : FuncData} {ps : List Str} {sp : Sp} {E : XK} {x : Str} {p pos : Pos} {e : Expr} {es : List Expr} {t : TA}
theorem run_g {pins : List (Addr × Obj)} {σ : L2.St} {H : Hp} {s : Shared} {Q : VK} {us : List Value} {vs : List V}
    (F : FnG X.prog X.w X.K X.mg X.base k f fd ps sp) (g : X.A.guards = some []) (hr : Room k X.A) (hb : Binds X.K fd ps [])
    (I : Inv X pins σ H s) (r : Vals vs us) (h : sp vs H Q E) :
    wpAny (model X.prog X.w) X.A (call (.ref f) us) (EP X pins σ Q) X.xe s := by
  have n1 : us.length = ps.length := r.length.symm.trans (F.len vs H Q E h)
  have b1 := hb s us I.kIn ((congrArg List.length (List.append_nil us)).trans n1)
  rw [List.append_nil] at b1
  refine wpAny_call (codeAny_mono (F.run X.A X.stack s H ⟨us, []⟩ us vs Q E g hr I.env0 b1 r h) ?_)
  intro res s' c
  match res, c with
  | .error _, c => exact False.elim c
  | .ok (.ret _), c => exact I.after c
  | .ok .next, c => exact False.elim c
  | .ok .brk, c => exact False.elim c
  | .ok .cont, c => exact False.elim c

theorem pe_callG (F : FnG X.prog X.w X.K X.mg X.base k f fd ps sp) (g : X.A.guards = some []) (hr : Room k X.A) (hgl : Gl X x) (hm : X.mg x = some (.ref f))
    (hk : PySem.W.keepIn X.K (.ref f) = true) (hb : Binds X.K fd ps []) (ha : PA X (e :: es) t)
    (hdb : (x == ("__debug__" : Str)) = false := by decide)
    (he : starEach (e :: es) X.env = (false, eval e X.env) :: starEach es X.env := by rfl)
    (hpl : (backTo pos (starEach es X.env)).any (·.1) = false := by rfl) :
    PE X (.Call (.Name x p) (e :: es) [] pos) (fun σ H Q => t σ H fun vs H1 => sp vs H1 Q E0) := by
  constructor
  intro pins s σ H Q I h
  apply wpAny_Call_Name_kw
  apply ld_glob I hgl hm _ hdb
  refine PySem.W.callWith_K (h₀ := X.base) I.ok.mod.kin hk (thn (ha.run pos pins s σ H _ I h) ?_) he hpl
  rintro us s1 ⟨vs, H1, I1, r, q⟩
  exact ⟨I1.kIn, run_g (E := E0) F g hr hb I1 r q⟩
end

theorem fn_g {P : Program} {w : World} {K : PySem.W.Frag} {mg : Str → Option Value} {base : Heap} {x qual : Str} {st : Stmt} {f : Addr} {fd : FuncData} {N ps : List Str} {k : Nat} {sp : Sp}
    (F : Fun K x qual st f fd) (S : FnScope N ps (defScope st)) (len : ∀ vs H Q E, sp vs H Q E → vs.length = ps.length)
    (body : ∀ (cdv : Value) (A : Around) (outer : List Env) (s : Shared) (H : Hp) (vs : List V) (Q : VK) (E : XK), A.guards = some [] →
      Room k (A.deeper (envOfC qual (defScope st) s.heap.objs.size f cdv)) → sp vs H Q E →
      ∃ t, PSs (cxOf CX0 P w K mg base N qual (defScope st) f cdv A outer s H E).nox (defBody st) t ∧ t { nx := fun _ H' => Q .non H', rt := Q } (start N vs) H) :
    FnG P w K mg base (k + 1) f fd ps sp := by
  obtain ⟨oc, od, kV, doc, pm, an, cdv, ct, osl, rfl, lk, hcd⟩ := F.ex
  refine ⟨len, ?_⟩
  intro A outer s H args us vs Q E g hr e0 hb r hsp
  have up : ∀ b o, base.get? b = some o → s.heap.get? b = some o := fun b o e => (e0.bs b o e).1
  have KX : K.In s.heap := e0.mod.kin.keeps up
  refine codeAny_call_function hr.depth (KX _ _ lk) rfl S.co S.gen rfl (PySem.W.codeRec_of KX hcd) (hb _ _ _ _ ?_)
  refine wpAny_newFunctionEnv_cells S.kind ?_ ?_
  · rintro ⟨n, v⟩ hy
    cases S.par n (List.of_mem_zip hy).1 with
    | inl q => exact .inl q
    | inr q => exact .inr ⟨q, PySem.W.cellsFrom_some _ _ _ (.inl q)⟩
  · rintro env rfl s1 x
    refine ⟨(e0.mod.nolimit.keeps up).keeps x.toInCall.keep, codeAny_func ?_⟩
    obtain ⟨t, ht, hq⟩ := body cdv A outer s H vs Q E g (hr.deeper _) hsp
    have I := inv_start (CX := CX0) (E := E) S hr.hd e0 (len _ _ _ _ hsp) r x
    refine wpAny_mono (ht.nox.run [] s1 (start N vs) H _ I hq) ?_ (fun e s' hs => hs)
    intro fl s' hs
    match fl, hs with
    | .ret u, ⟨v, σ', H', J, rv, q⟩ => exact ⟨v, H', J.os, J.bare, J.base, J.hok, rv, q⟩
    | .next, ⟨σ', H', J, q⟩ => exact ⟨.non, H', J.os, J.bare, J.base, J.hok, rfl, q⟩
    | .brk, ⟨_, _, _, q⟩ => exact False.elim q
    | .cont, ⟨_, _, _, q⟩ => exact False.elim q

theorem law_core {P : Program} {w : World} {K : PySem.W.Frag} {mg mb : Str → Option Value} {k : Nat} {fa a : Addr} {fd : FuncData} {x : Str} {sp : Sp} {s₁ : Shared} {vs : List Value}
    (KX : K.In s₁.heap) (hns : s₁.heap.Ns mainGlobals mg) (hb : s₁.heap.Ns builtinsNs mb) (hbb : ∀ x : Str, x ≠ "__name__" → mb x = bootBuiltins x) (hlim : s₁.heap.NoLimit) (hg : s₁.gens = #[])
    (ha : s₁.heap.get? a = some { cls := .type "list", data := .seq vs.toArray }) (hr : Room k callerA)
    (F : ∀ base : Heap, K.In base → base.Ns mainGlobals mg → FnG P w K mg base k fa fd [x] sp) (hbind : ∀ (s : Shared) (u : Value), BindsTo s fd ⟨[u], []⟩ [(x, u)])
    (H : Hp) (hO : Only H) (hok : HOk P w H s₁.heap) (hA : ∀ b, H b ≠ none → b = a) (hK : H a ≠ none → K.lookup a = none)
    (hsp : sp [.ref a] H (fun v _ => v = .bl true) fun _ _ _ => False) :
    codeAny (model P w) callerA (.call (.ref fa) ⟨[.ref a], []⟩) (fun r s' => r = .ok (.ret (.bool true)) ∧ OldK s₁.heap s'.heap ∧ s'.os = s₁.os ∧ AllBare s'.gens) s₁ := by
  have free : ∀ {b : Addr} {o : Obj}, s₁.heap.get? b = some o → (b = a → False) → H b = none := by
    intro b o _ hne
    cases q : H b with
    | none => rfl
    | some u => exact (hne (hA b (by simp [q]))).elim
  have hid : ∀ {b : Addr} {o : Obj}, s₁.heap.get? b = some o → H b = none → (hidT s₁.heap H).get? b = some o := fun e n => hidT_get e n
  have ns_of : ∀ {b : Addr} {m : Str → Option Value}, s₁.heap.Ns b m → (hidT s₁.heap H).Ns b m := by
    rintro b m ⟨o, es, ep, e, d, r⟩
    refine ⟨o, es, ep, hid e (free e fun z => ?_), d, r⟩
    subst z
    rw [ha] at e
    cases e
    cases (d : Data.seq vs.toArray _ = Data.dict es ep)
  have kin : K.In (hidT s₁.heap H) := by
    intro b o e
    have e2 := KX b o e
    cases q : H b with
    | none => exact hid e2 q
    | some u =>
      have z := hA b (by simp [q])
      subst z
      rw [hK (by simp [q])] at e
      cases e
  obtain ⟨mc, l1, l2⟩ := hlim
  have md : Mod K mg (hidT s₁.heap H) := ⟨kin, ns_of hns, ⟨mb, ns_of hb, hbb⟩, ⟨mc, ns_of l1, l2⟩⟩
  have none_in : ∀ {b : Addr} {Z : Prop}, b ∈ ([] : List Addr) → Z := fun z => (nomatch z)
  have e0 : Env0 P w K mg (hidT s₁.heap H) callerA [] s₁ H :=
    ⟨rfl, md, fun b o e => of_hidT e, Nat.le_of_eq (hidT_size _ _), trivial, fun b z => none_in z, hok, .of_eq hg⟩
  refine codeAny_mono ((F _ kin (ns_of hns)).run callerA [] s₁ H ⟨[.ref a], []⟩ [.ref a] [.ref a] _ _ rfl hr e0 (hbind s₁ (.ref a)) (.cons rfl .nil) hsp) ?_
  intro r s' c
  match r, c with
  | .error _, c => exact False.elim c
  | .ok .next, c => exact False.elim c
  | .ok .brk, c => exact False.elim c
  | .ok .cont, c => exact False.elim c
  | .ok (.ret u), ⟨v, H', os, bare, un, hok', rv, q⟩ =>
    have q' : v = .bl true := q
    subst q'
    obtain rfl : u = Value.bool true := rv
    refine ⟨rfl, OldK.of_keep ?_, os, bare⟩
    intro b o e
    cases hq : H b with
    | none => exact un.keep b o e hq (fun z => none_in z) (by simp)
    | some u =>
      cases hO b with
      | inl z => rw [hq] at z; cases z
      | inr z =>
        obtain ⟨ob, xs, z⟩ := z
        have o1 := (hok b _ z).1
        have o2 := (hok' b _ (un.frzs b ob _ z)).1
        rw [e] at o1
        cases o1
        exact o2
theorem law_g {P : Program} {w : World} {K : PySem.W.Frag} {mg mb : Str → Option Value} {k : Nat} {fa a : Addr} {fd : FuncData} {x : Str} {sp : Sp} {s₁ : Shared} {vs : List Value} {ns : List Int}
    (KX : K.In s₁.heap) (hns : s₁.heap.Ns mainGlobals mg) (hb : s₁.heap.Ns builtinsNs mb) (hbb : ∀ x : Str, x ≠ "__name__" → mb x = bootBuiltins x) (hlim : s₁.heap.NoLimit) (hg : s₁.gens = #[])
    (ha : s₁.heap.get? a = some { cls := .type "list", data := .seq vs.toArray }) (hi : IntsAre vs ns) (hl : ns.length ≤ sizeLine) (hr : Room k callerA)
    (F : ∀ base : Heap, K.In base → base.Ns mainGlobals mg → FnG P w K mg base k fa fd [x] sp) (hbind : ∀ (s : Shared) (u : Value), BindsTo s fd ⟨[u], []⟩ [(x, u)])
    (hsp : ∀ H : Hp, Only H → SqL K H a (ns.map V.int) → sp [.ref a] H (fun v _ => v = .bl true) fun _ _ _ => False) :
    codeAny (model P w) callerA (.call (.ref fa) ⟨[.ref a], []⟩) (fun r s' => r = .ok (.ret (.bool true)) ∧ OldK s₁.heap s'.heap ∧ s'.os = s₁.os ∧ AllBare s'.gens) s₁ := by
  have rv := vals_ints hi
  cases hk : K.lookup a with
  | some o =>
    have e := KX a o hk
    rw [ha] at e
    cases e
    have oo : Only (fun _ => none) := fun _ => .inl rfl
    refine law_core KX hns hb hbb hlim hg ha hr F hbind (fun _ => none) oo (fun b u z => by cases (z : (none : Option HO) = some u)) (fun b z => absurd rfl z) (fun z => absurd rfl z) (hsp _ oo ?_)
    refine .inr ⟨_, vs.toArray, _, hk, rfl, rfl, rfl, ?_, by simpa using rv⟩
    rw [List.size_toArray, hi.length]
    exact hl
  | none =>
    let H : Hp := fun b => if b = a then some (.frz { cls := .type "list", data := .seq vs.toArray } (.lst (ns.map V.int))) else none
    have at_ : H a = some (.frz { cls := .type "list", data := .seq vs.toArray } (.lst (ns.map V.int))) := if_pos rfl
    have off : ∀ {b : Addr}, b ≠ a → H b = none := fun n => if_neg n
    have oo : Only H := fun b => by
      by_cases z : b = a
      · subst z
        exact .inr ⟨_, _, at_⟩
      · exact .inl (off z)
    refine law_core KX hns hb hbb hlim hg ha hr F hbind H oo ?_ ?_ (fun _ => hk) (hsp _ oo (.inl (.inr ⟨_, at_⟩)))
    · intro b u z
      by_cases q : b = a
      · subst q
        rw [at_] at z
        cases z
        exact ⟨ha, by rw [List.length_map]; exact hl, vs, _, rv, ha⟩
      · rw [off q] at z
        cases z
    · intro b z
      by_cases q : b = a
      · exact q
      · exact absurd (off q) z

theorem walk_g {l : PySem.W.OpenLaw} {n k : Nat} {q : Program} {loose : List Str} {XP : (Str → Option Value) → Heap → Prop} {YP : World → Heap → Prop} {d : DefRec} {K : Params → PySem.W.Frag} {sp : World → Sp} {x : Str}
    (hn : l.most = some n) (hn2 : n ≤ sizeLine) (hdf : d.params.defaults = []) (hr : Room k callerA)
    (hY : ∀ (w : World) (h : Heap), YP w h → (K w.params).In h)
    (F : ∀ (w : World) (mg : Str → Option Value) (fa : Addr) (h : Heap), (K w.params).In h → h.Ns mainGlobals mg → mg d.name = some (.ref fa) →
      ∃ fd : FuncData, (∀ (s : Shared) (u : Value), BindsTo s fd ⟨[u], []⟩ [(x, u)]) ∧
        ∀ base : Heap, (K w.params).In base → base.Ns mainGlobals mg → FnG l.prog w (K w.params) mg base k fa fd [x] (sp w))
    (hsp : ∀ (w : World) (H : Hp) (a : Addr) (ns : List Int), ns.length ≤ n → Only H → SqL (K w.params) H a (ns.map V.int) → sp w [.ref a] H (fun v _ => v = .bl true) fun _ _ _ => False) :
    PySem.W.WalkO q loose XP YP l.row.toRowW d [] (fun f vs => PySem.call f vs) := by
  refine Att.attach_call hn hdf ?_
  intro w s₀ s₁ mg mb fa o pm cd doc a vs ns G Y ho hd hcd hmg hobj hints hlen hg
  obtain ⟨fd, hb, hF⟩ := F w mg fa _ (hY w _ Y) G.T.g hmg
  exact law_g (hY w _ Y) G.T.g G.T.b G.T.builtins G.T.nolimit hg hobj hints (Nat.le_trans hlen hn2) hr hF hb (fun H oo hS => hsp w H a ns hlen oo hS)
end G
namespace LamT
open PySem PySem.Spec PyProof.Rows L2 LamX

structure TE where
  P : Addr
  lo : Nat
  hi : Nat
  q : Str
def TabS (H : Hp) (e : TE) : Prop := ∃ tb : Array Value, H e.P = some (.tbl tb) ∧ TriplesOk tb.toList ∧ ∀ (at_ : Pos) (v : Value), e.lo ≤ at_.line → at_.line ≤ e.hi → codeAmong at_ tb.toList = some v → ∃ d, v = .ref d ∧ H d = some (CodeO d e.q)
def Tabs (T : List TE) (H : Hp) : Prop := ∀ e ∈ T, TabS H e
theorem TabS.nil {H : Hp} {e : TE} (h : H e.P = some (.tbl #[])) : TabS H e := by
  refine ⟨#[], h, trivial, ?_⟩
  intro at_ v _ _ z
  have z2 : codeAmong at_ ([] : List Value) = some v := z
  simp [codeAmong] at z2
end LamT
namespace AL
open PySem PySem.Spec PyProof.Rows L2 G
inductive Val where
  | non | bl (b : Bool) | int (i : Int) | str (x : Str) | tup (vs : List Val) | ref (n : Nat) | scr (ns : List Int)
  
  | lam (f c : Addr) (q : Str) (us : List V) (vs : List Val)
  
  | exc (a dd : Addr) (c : Str) (vs : List Val)
  
  | ptu (vs : List Val)
inductive Ob where
  | lst (vs : List Val)
  | dic (kvs : List (Key × Val))
  | set (w : World) (f : Int → Bool) (n : Nat)
  
  | obj (C : Str) (fs : List (Str × Val))
abbrev Sto := List Ob

class TT where
  T : List LamT.TE
  
  cls : Str → Addr
instance (priority := low) noTT : TT := ⟨[], fun _ => 0⟩

def xfs (c : Str) : List Str := if c = "NoPaper" then ["word", "at"] else if c = "NoEvent" then ["word", "at"] else if c = "NoWorld" then ["ring"] else if c = "Lied" then ["many"] else if c = "NoText" then ["row", "word"] else if c = "NoRow" then ["row"] else if c = "NoHouse" then ["name"] else ["number"]

theorem set_ne_code {w : World} {a : Addr} {f : Int → Bool} {n : Nat} {q : Str} : SetO w a f n ≠ LamX.CodeO a q := by
  intro z
  have e : (fun h => SetR w h a f n) = fun h => ∃ (oc : Obj) (vs : Array Value) (t : Tok), h.get? a = some oc ∧ oc.data = .fields vs ∧ vs[1]? = some (.str q t) := HO.ext.inj z
  have g : (⟨Array.replicate (a + 1) { cls := .none, data := .fields #[.none, .str q 0] }, {}⟩ : Heap).get? a = some { cls := .none, data := .fields #[.none, .str q 0] } := by
    unfold Heap.get?
    simp
  have y := congrFun e ⟨Array.replicate (a + 1) { cls := .none, data := .fields #[.none, .str q 0] }, {}⟩
  have h2 : ∃ (oc : Obj) (vs : Array Value) (t : Tok), (⟨Array.replicate (a + 1) { cls := .none, data := .fields #[.none, .str q 0] }, {}⟩ : Heap).get? a = some oc ∧ oc.data = .fields vs ∧ vs[1]? = some (.str q t) := ⟨_, _, 0, g, rfl, rfl⟩
  obtain ⟨o, es, ep, t, ho, _, hd, _⟩ := y.mpr h2
  rw [g] at ho
  cases ho
  cases hd
abbrev Rho := List (Option Val)

def SqF (K : PySem.W.Frag) (H : Hp) (a : Addr) (ns : List Int) : Prop :=
  (∃ o, H a = some (.frz o (.lst (ns.map V.int)))) ∨ ∃ (o : Obj) (its : Array Value) (n : Nat), K.lookup a = some o ∧ o.cls = .type "list" ∧ o.dict = none ∧ o.data = .seq its n ∧ its.size ≤ sizeLine ∧ Vals (ns.map V.int) its.toList
theorem SqF.sq {K : PySem.W.Frag} {H : Hp} {a : Addr} {ns : List Int} (h : SqF K H a ns) : SqL K H a (ns.map V.int) := by
  rcases h with ⟨o, h⟩ | h
  · exact .inl (.inr ⟨o, h⟩)
  · exact .inr h

def TupAt (K : PySem.W.Frag) (H : Hp) (a : Addr) (xs : List V) : Prop :=
  H a = some (.tup xs) ∨ (∃ (o : Obj) (its : Array Value) (n : Nat), K.lookup a = some o ∧ o.cls = .type "tuple" ∧ o.data = .seq its n ∧ its.size ≤ sizeLine ∧ Vals xs its.toList) ∨ ∃ o : Obj, H a = some (.frz o (.tup xs))
theorem TupAt.sq {K : PySem.W.Frag} {H : Hp} {a : Addr} {xs : List V} (h : TupAt K H a xs) : SqT K H a xs := by
  rcases h with h | h | ⟨o, h⟩
  · exact .inl (.inl h)
  · exact .inr h
  · exact .inl (.inr ⟨o, h⟩)
mutual
inductive VR (K : PySem.W.Frag) (H : Hp) (m : List Addr) : V → Val → Prop
  | non : VR K H m .non .non
  | bl (b : Bool) : VR K H m (.bl b) (.bl b)
  | int (i : Int) : VR K H m (.int i) (.int i)
  | str (x : Str) : VR K H m (.str x) (.str x)
  | tup {a : Addr} {xs : List V} {vs : List Val} : TupAt K H a xs → VRs K H m xs vs → VR K H m (.ref a) (.tup vs)
  | ref {a : Addr} {n : Nat} : m[n]? = some a → VR K H m (.ref a) (.ref n)
  | scr {a : Addr} {ns : List Int} : SqF K H a ns → VR K H m (.ref a) (.scr ns)
  | lam {f c : Addr} {q : Str} {us : List V} {vs : List Val} : H c = some (LamX.CodeO c q) → VRs K H m us vs → VR K H m (.ref f) (.lam f c q us vs)
  | exc {a dd : Addr} {c : Str} {fs : List (Str × V)} {us : List V} {vs : List Val} : H dd = some (.xd fs) → (∀ (i : Nat) (n : Str) (u : V), (xfs c)[i]? = some n → us[i]? = some u → fs.lookup n = some u) → VRs K H m us vs → VR K H m (.ref a) (.exc a dd c vs)
  | ptu {a : Addr} {o : Obj} {xs : List V} {vs : List Val} : H a = some (.frz o (.tup xs)) → o.dict = none → VRs K H m xs vs → VR K H m (.ref a) (.ptu vs)
inductive VRs (K : PySem.W.Frag) (H : Hp) (m : List Addr) : List V → List Val → Prop
  | nil : VRs K H m [] []
  | cons {u : V} {us : List V} {v : Val} {vs : List Val} : VR K H m u v → VRs K H m us vs → VRs K H m (u :: us) (v :: vs)
end

structure Kp (m : List Addr) (H : Hp) (m' : List Addr) (H' : Hp) : Prop where
  pre : ∃ r, m' = m ++ r
  tup : ∀ a xs, H a = some (.tup xs) → H' a = some (.tup xs)
  frz : ∀ a o u, H a = some (.frz o u) → H' a = some (.frz o u)
  xd : ∀ a fs, H a = some (.xd fs) → H' a = some (.xd fs)
  cod : ∀ a q, H a = some (LamX.CodeO a q) → H' a = some (LamX.CodeO a q)
theorem Kp.refl (m : List Addr) (H : Hp) : Kp m H m H := ⟨⟨[], (List.append_nil m).symm⟩, fun _ _ h => h, fun _ _ _ h => h, fun _ _ h => h, fun _ _ h => h⟩
theorem Kp.grow {m : List Addr} {H H' : Hp} (r : List Addr) (k : Kp m H m H') : Kp m H (m ++ r) H' := ⟨⟨r, rfl⟩, k.tup, k.frz, k.xd, k.cod⟩
theorem Kp.trans {m m1 m2 : List Addr} {H H1 H2 : Hp} (a : Kp m H m1 H1) (b : Kp m1 H1 m2 H2) : Kp m H m2 H2 := by
  obtain ⟨r, rfl⟩ := a.pre
  obtain ⟨q, rfl⟩ := b.pre
  exact ⟨⟨r ++ q, List.append_assoc ..⟩, fun x y h => b.tup x y (a.tup x y h), fun x y z h => b.frz x y z (a.frz x y z h), fun x y h => b.xd x y (a.xd x y h), fun x y h => b.cod x y (a.cod x y h)⟩
theorem Kp.get {m m' : List Addr} {H H' : Hp} (k : Kp m H m' H') {n : Nat} {a : Addr} (h : m[n]? = some a) : m'[n]? = some a := by
  obtain ⟨r, rfl⟩ := k.pre
  rw [List.getElem?_append_left (List.getElem?_eq_some_iff.mp h).1]
  exact h

def Mut (a : Addr) : HO → Prop := fun u => (∃ xs, u = .lst xs) ∨ (∃ xs, u = .dK xs) ∨ (∃ C dx fs, u = .ins C dx fs) ∨ ∃ w f n, u = SetO w a f n
theorem Mut.ne {a : Addr} {u : HO} (h : Mut a u) : (∀ xs, u ≠ .tup xs) ∧ (∀ o v, u ≠ .frz o v) ∧ (∀ fs, u ≠ .xd fs) ∧ (∀ q, u ≠ LamX.CodeO a q) ∧ ∀ ps, u ≠ .tbl ps := by
  rcases h with ⟨xs, rfl⟩ | ⟨xs, rfl⟩ | ⟨C, dx, fs, rfl⟩ | ⟨w, f, n, rfl⟩
  · refine ⟨?_, ?_, ?_, ?_, ?_⟩ <;> intros <;> intro z <;> cases z
  · refine ⟨?_, ?_, ?_, ?_, ?_⟩ <;> intros <;> intro z <;> cases z
  · refine ⟨?_, ?_, ?_, ?_, ?_⟩ <;> intros <;> intro z <;> cases z
  · refine ⟨fun _ z => ?_, fun _ _ z => ?_, fun _ z => ?_, fun _ => set_ne_code, fun _ z => ?_⟩ <;> (unfold SetO at z; cases z)
theorem Kp.at_ {m : List Addr} {H : Hp} {a : Addr} {o : HO} (h : ∀ u, H a = some u → Mut a u) : Kp m H m (upd H a o) := by
  refine ⟨⟨[], (List.append_nil m).symm⟩, fun b xs e => ?_, fun b o' u e => ?_, fun b xs e => ?_, fun b xs e => ?_⟩
  · rw [upd_ne (show b ≠ a from fun z => (h _ (z ▸ e)).ne.1 xs rfl)]
    exact e
  · rw [upd_ne (show b ≠ a from fun z => (h _ (z ▸ e)).ne.2.1 o' u rfl)]
    exact e
  · rw [upd_ne (show b ≠ a from fun z => (h _ (z ▸ e)).ne.2.2.1 xs rfl)]
    exact e
  · by_cases z : b = a
    · subst z
      exact absurd rfl ((h _ e).ne.2.2.2.1 xs)
    · rw [upd_ne z]
      exact e
theorem Kp.new {m : List Addr} {H : Hp} {a : Addr} {o : HO} (h : H a = none) : Kp m H m (upd H a o) := .at_ fun u e => by rw [h] at e; cases e
section
variable {K : PySem.W.Frag} {H H' : Hp} {m m' : List Addr}
theorem TupAt.kp (k : Kp m H m' H') {a : Addr} {xs : List V} (h : TupAt K H a xs) : TupAt K H' a xs := by
  rcases h with h | h | ⟨o, h⟩
  · exact .inl (k.tup _ _ h)
  · exact .inr (.inl h)
  · exact .inr (.inr ⟨o, k.frz _ _ _ h⟩)
theorem SqF.kp (k : Kp m H m' H') {a : Addr} {ns : List Int} (h : SqF K H a ns) : SqF K H' a ns := by
  rcases h with ⟨o, h⟩ | h
  · exact .inl ⟨o, k.frz _ _ _ h⟩
  · exact .inr h
mutual
theorem VR.kpA (k : Kp m H m' H') : ∀ (v : Val) (u : V), VR K H m u v → VR K H' m' u v
  | .non, _, h => by cases h; exact .non
  | .bl b, _, h => by cases h; exact .bl _
  | .int i, _, h => by cases h; exact .int _
  | .str x, _, h => by cases h; exact .str _
  | .ref n, _, h => by
    cases h with
    | ref e => exact .ref (k.get e)
  | .scr ns, _, h => by
    cases h with
    | scr e => exact .scr (e.kp k)
  | .lam f c q us vs, _, h => by
    cases h with
    | lam e r => exact .lam (k.cod _ _ e) (VRs.kpA k vs _ r)
  | .exc a dd c vs, _, h => by
    cases h with
    | exc e l r => exact .exc (k.xd _ _ e) l (VRs.kpA k vs _ r)
  | .ptu vs, _, h => by
    cases h with
    | ptu e d r => exact .ptu (k.frz _ _ _ e) d (VRs.kpA k vs _ r)
  | .tup vs, _, h => by
    cases h with
    | tup e r => exact .tup (e.kp k) (VRs.kpA k vs _ r)
theorem VRs.kpA (k : Kp m H m' H') : ∀ (vs : List Val) (us : List V), VRs K H m us vs → VRs K H' m' us vs
  | [], _, h => by cases h; exact .nil
  | v :: vs, _, h => by
    cases h with
    | cons a r => exact .cons (VR.kpA k v _ a) (VRs.kpA k vs _ r)
end
theorem VR.kp {u : V} {v : Val} (h : VR K H m u v) (k : Kp m H m' H') : VR K H' m' u v := VR.kpA k v u h
theorem VRs.kp {us : List V} {vs : List Val} (h : VRs K H m us vs) (k : Kp m H m' H') : VRs K H' m' us vs := VRs.kpA k vs us h
theorem VRs.len : ∀ {us : List V} {vs : List Val}, VRs K H m us vs → us.length = vs.length
  | _, _, .nil => rfl
  | _, _, .cons _ r => by rw [List.length_cons, List.length_cons, r.len]
theorem VRs.get : ∀ {us : List V} {vs : List Val} {i : Nat} {v : Val}, VRs K H m us vs → vs[i]? = some v → ∃ u, us[i]? = some u ∧ VR K H m u v
  | _, _, _, _, .nil, e => by simp at e
  | _, _, 0, _, .cons a q, e => by
    cases e
    exact ⟨_, rfl, a⟩
  | _, _, i + 1, _, .cons a q, e => q.get (i := i) e
theorem VRs.app : ∀ {us ws : List V} {vs xs : List Val}, VRs K H m us vs → VRs K H m ws xs → VRs K H m (us ++ ws) (vs ++ xs)
  | _, _, _, _, .nil, r => r
  | _, _, _, _, .cons a q, r => .cons a (q.app r)
theorem VRs.take : ∀ {us : List V} {vs : List Val} (n : Nat), VRs K H m us vs → VRs K H m (us.take n) (vs.take n)
  | _, _, 0, _ => .nil
  | _, _, _ + 1, .nil => .nil
  | _, _, n + 1, .cons a q => .cons a (q.take n)
theorem VRs.drop : ∀ {us : List V} {vs : List Val} (n : Nat), VRs K H m us vs → VRs K H m (us.drop n) (vs.drop n)
  | _, _, 0, h => h
  | _, _, _ + 1, .nil => .nil
  | _, _, n + 1, .cons a q => q.drop n
theorem VRs.set {u : V} {v : Val} (h : VR K H m u v) : ∀ {us : List V} {vs : List Val} (n : Nat), VRs K H m us vs → VRs K H m (us.set n u) (vs.set n v)
  | _, _, _, .nil => .nil
  | _, _, 0, .cons a q => .cons h q
  | _, _, n + 1, .cons a q => .cons a (q.set h n)
theorem VR.one {u : V} {v : Val} (h : VR K H m u v) : VRs K H m [u] [v] := .cons h .nil
end
variable [TT]

def OR (K : PySem.W.Frag) (H : Hp) (m : List Addr) (a : Addr) : Ob → Prop
  | .lst vs => ∃ xs, H a = some (.lst xs) ∧ VRs K H m xs vs
  | .dic kvs => ∃ xs : List (Key × V), H a = some (.dK xs) ∧ xs.map (·.1) = kvs.map (·.1) ∧ VRs K H m (xs.map (·.2)) (kvs.map (·.2))
  | .set w f n => H a = some (SetO w a f n)
  | .obj C fs => ∃ (dx : Addr) (xs : List (Str × V)), H a = some (.ins (TT.cls C) dx xs) ∧ xs.map (·.1) = fs.map (·.1) ∧ VRs K H m (xs.map (·.2)) (fs.map (·.2))
structure Rel (K : PySem.W.Frag) (m : List Addr) (S : Sto) (H : Hp) : Prop where
  len : m.length = S.length
  nd : m.Nodup
  ob : ∀ (n : Nat) (o : Ob) (a : Addr), S[n]? = some o → m[n]? = some a → OR K H m a o
  tb : LamT.Tabs TT.T H
structure Ext (m : List Addr) (H : Hp) (m' : List Addr) (H' : Hp) : Prop where
  pre : ∃ r, m' = m ++ r
  fr' : ∀ a o, H a = some o → a ∉ m → (∀ ps, o ≠ .tbl ps) → H' a = some o
  nw' : ∀ a o, a ∈ m' → a ∉ m → H a = some o → ∃ ps, o = .tbl ps
section
variable {K : PySem.W.Frag} {H H' H2 : Hp} {m m' m2 : List Addr} {S S' : Sto}
omit [TT] in
theorem Ext.refl (m : List Addr) (H : Hp) : Ext m H m H := ⟨⟨[], (List.append_nil m).symm⟩, fun _ _ h _ _ => h, fun _ _ h n => absurd h n⟩
omit [TT] in
theorem Ext.fr (e : Ext m H m' H') (a : Addr) (o : HO) (h : H a = some o) (n : a ∉ m) (t : ∀ ps, o ≠ .tbl ps := by intro ps z; cases z) : H' a = some o := e.fr' a o h n t
omit [TT] in
theorem Ext.no (e : Ext m H m' H') {a : Addr} {o : HO} (h : H a = some o) (n : a ∉ m) (t : ∀ ps, o ≠ .tbl ps := by intro ps z; cases z) : a ∉ m' := fun z => by
  obtain ⟨ps, e⟩ := e.nw' a o z n h
  exact t ps e
omit [TT] in
theorem Ext.mem (e : Ext m H m' H') {a : Addr} (h : a ∈ m) : a ∈ m' := by
  obtain ⟨r, rfl⟩ := e.pre
  exact List.mem_append_left _ h
omit [TT] in
theorem Ext.trans (a : Ext m H m' H') (b : Ext m' H' m2 H2) : Ext m H m2 H2 := by
  refine ⟨?_, fun x o h n t => b.fr' x o (a.fr' x o h n t) (a.no h n t) t, fun x o h n e => ?_⟩
  · obtain ⟨r, rfl⟩ := a.pre
    obtain ⟨q, rfl⟩ := b.pre
    exact ⟨r ++ q, List.append_assoc ..⟩
  · by_cases t : ∀ ps, o ≠ .tbl ps
    · exact b.nw' x o h (a.no e n t) (a.fr' x o e n t)
    · simpa using t
theorem Rel.find (R : Rel K m S H) {n : Nat} {a : Addr} (h : m[n]? = some a) : ∃ o, S[n]? = some o ∧ OR K H m a o := by
  have l := (List.getElem?_eq_some_iff.mp h).1
  have l2 : n < S.length := by rw [← R.len]; exact l
  exact ⟨S[n], List.getElem?_eq_getElem l2, R.ob n _ a (List.getElem?_eq_getElem l2) h⟩
theorem OR.some {a : Addr} {o : Ob} (h : OR K H m a o) : ∃ u, H a = some u ∧ Mut a u := by
  cases o with
  | lst vs => obtain ⟨xs, h, _⟩ := h; exact ⟨_, h, .inl ⟨xs, rfl⟩⟩
  | dic kvs => obtain ⟨xs, h, _⟩ := h; exact ⟨_, h, .inr (.inl ⟨xs, rfl⟩)⟩
  | set w f n => exact ⟨_, h, .inr (.inr (.inr ⟨w, f, n, rfl⟩))⟩
  | obj C fs => obtain ⟨dx, xs, h, _⟩ := h; exact ⟨_, h, .inr (.inr (.inl ⟨_, dx, xs, rfl⟩))⟩
theorem Rel.held (R : Rel K m S H) {a : Addr} (h : a ∈ m) : ∃ u, H a = some u ∧ Mut a u := by
  obtain ⟨n, hn⟩ := List.getElem?_of_mem h
  obtain ⟨o, _, q⟩ := R.find hn
  exact q.some
theorem Rel.off_ (R : Rel K m S H) {a : Addr} {u : HO} (h : H a = some u) (hu : ¬ Mut a u) : a ∉ m := fun z => by
  obtain ⟨u', e, hm⟩ := R.held z
  rw [h] at e
  cases e
  exact hu hm
theorem Rel.noTup (R : Rel K m S H) {a : Addr} {xs : List V} (h : H a = some (.tup xs)) : a ∉ m := R.off_ h fun z => z.ne.1 xs rfl
theorem Rel.noFrz (R : Rel K m S H) {a : Addr} {o : Obj} {u : HO} (h : H a = some (.frz o u)) : a ∉ m := R.off_ h fun z => z.ne.2.1 o u rfl
theorem Rel.noXd (R : Rel K m S H) {a : Addr} {fs : List (Str × V)} (h : H a = some (.xd fs)) : a ∉ m := R.off_ h fun z => z.ne.2.2.1 fs rfl
theorem Rel.noCod (R : Rel K m S H) {a : Addr} {q : Str} (h : H a = some (LamX.CodeO a q)) : a ∉ m := R.off_ h fun z => z.ne.2.2.2.1 q rfl
theorem Rel.noTbl (R : Rel K m S H) {a : Addr} {ps : Array Value} (h : H a = some (.tbl ps)) : a ∉ m := R.off_ h fun z => z.ne.2.2.2.2 ps rfl
theorem Rel.noNone (R : Rel K m S H) {a : Addr} (h : H a = none) : a ∉ m := fun z => by
  obtain ⟨u', e, _⟩ := R.held z
  rw [h] at e
  cases e

theorem Rel.kput (R : Rel K m S H) {a : Addr} {o : HO} (h : a ∈ m) : Kp m H m (upd H a o) := .at_ fun u e => by
  obtain ⟨u', e', hm⟩ := R.held h
  rw [e] at e'
  cases e'
  exact hm
theorem Ext.kp (R : Rel K m S H) (e : Ext m H m' H') : Kp m H m' H' := ⟨e.pre, fun a xs h => e.fr a _ h (R.noTup h), fun a o u h => e.fr a _ h (R.noFrz h), fun a xs h => e.fr a _ h (R.noXd h), fun a q h => e.fr' a _ h (R.noCod h) LamX.codeO_ne⟩
theorem OR.kp {a : Addr} {o : Ob} (h : OR K H m a o) (k : Kp m H m' H') (e : H' a = H a) : OR K H' m' a o := by
  cases o with
  | lst vs => obtain ⟨xs, h, r⟩ := h; exact ⟨xs, e.trans h, r.kp k⟩
  | dic kvs => obtain ⟨xs, h, q, r⟩ := h; exact ⟨xs, e.trans h, q, r.kp k⟩
  | set w f n => exact e.trans h
  | obj C fs => obtain ⟨dx, xs, h, q, r⟩ := h; exact ⟨dx, xs, e.trans h, q, r.kp k⟩

theorem tabs_kp {T : List LamT.TE} (h : LamT.Tabs T H) (k : Kp m H m' H') (t : ∀ P ps, H P = some (.tbl ps) → H' P = some (.tbl ps)) : LamT.Tabs T H' := fun p hp => by
  obtain ⟨ps, h1, h2, h3⟩ := h p hp
  refine ⟨ps, t _ _ h1, h2, fun pos cv l1 l2 hc => ?_⟩
  obtain ⟨c, e1, e2⟩ := h3 pos cv l1 l2 hc
  exact ⟨c, e1, k.cod _ _ e2⟩
theorem Rel.off (R : Rel K m S H) (k : Kp m H m H') (e : ∀ a ∈ m, H' a = H a) (t : ∀ P ps, H P = some (.tbl ps) → H' P = some (.tbl ps)) : Rel K m S H' :=
  ⟨R.len, R.nd, fun n o a h1 h2 => (R.ob n o a h1 h2).kp k (e a (List.mem_of_getElem? h2)), tabs_kp R.tb k t⟩
omit [TT] in
theorem tbl_at {a P : Addr} {o u : HO} {ps : Array Value} (h : H a = some u) (hu : ∀ ps, u ≠ .tbl ps) (e : H P = some (.tbl ps)) : upd H a o P = some (.tbl ps) := by
  rw [upd_ne fun z => ?_]
  · exact e
  · rw [z, h] at e
    cases e
    exact hu _ rfl
omit [TT] in
theorem Ext.off (e : ∀ a o, H a = some o → a ∉ m → H' a = some o) : Ext m H m H' := ⟨⟨[], (List.append_nil m).symm⟩, fun a o h n _ => e a o h n, fun _ _ h n => absurd h n⟩

theorem Rel.tmp (R : Rel K m S H) {p : Addr} {o : HO} (h : H p = none) : Rel K m S (upd H p o) ∧ Ext m H m (upd H p o) := by
  refine ⟨R.off (.new h) (fun a ha => upd_ne fun z => R.noNone h (z ▸ ha)) fun P ps e => by rw [upd_ne (ne_of_none e h)]; exact e, .off fun a o' e n => ?_⟩
  rw [upd_ne (ne_of_none e h)]
  exact e

theorem Rel.alloc (R : Rel K m S H) {p : Addr} {o : HO} {b : Ob} (h : H p = none) (hb : OR K (upd H p o) (m ++ [p]) p b) : Rel K (m ++ [p]) (S ++ [b]) (upd H p o) ∧ Ext m H (m ++ [p]) (upd H p o) := by
  have k : Kp m H (m ++ [p]) (upd H p o) := .grow [p] (.new h)
  have np := R.noNone h
  refine ⟨⟨by simp [R.len], ?_, fun n o' a h1 h2 => ?_, tabs_kp R.tb k fun P ps e => by rw [upd_ne (ne_of_none e h)]; exact e⟩, ⟨⟨[p], rfl⟩, fun a o' e n _ => ?_, fun a o' ha n e => ?_⟩⟩
  · rw [List.nodup_append]
    refine ⟨R.nd, by simp, fun a ha b hb z => ?_⟩
    simp only [List.mem_singleton] at hb
    exact np (hb ▸ z ▸ ha)
  · by_cases hn : n < S.length
    · rw [List.getElem?_append_left hn] at h1
      rw [List.getElem?_append_left (by rw [R.len]; exact hn)] at h2
      refine (R.ob n o' a h1 h2).kp k (upd_ne fun z => np (z ▸ List.mem_of_getElem? h2))
    · have e : n = S.length := by
        have := (List.getElem?_eq_some_iff.mp h1).1
        simp only [List.length_append, List.length_singleton] at this
        omega
      subst e
      rw [List.getElem?_concat_length] at h1
      rw [← R.len, List.getElem?_concat_length] at h2
      cases h1
      cases h2
      exact hb
  · rw [upd_ne (ne_of_none e h)]
    exact e
  · rcases List.mem_append.mp ha with q | q
    · exact absurd q n
    · simp only [List.mem_singleton] at q
      rw [q, h] at e
      cases e

theorem Rel.put (R : Rel K m S H) {n : Nat} {a : Addr} {o : HO} {b : Ob} (h : m[n]? = some a) (hb : OR K (upd H a o) m a b) : Rel K m (S.set n b) (upd H a o) ∧ Ext m H m (upd H a o) := by
  have ha := List.mem_of_getElem? h
  have k : Kp m H m (upd H a o) := R.kput ha
  refine ⟨⟨by simp [R.len], R.nd, fun n' o' a' h1 h2 => ?_, tabs_kp R.tb k fun P ps e => by rw [upd_ne (show P ≠ a from fun z => R.noTbl e (z ▸ ha))]; exact e⟩, .off fun x o' e nx => ?_⟩
  · by_cases z : n' = n
    · subst z
      rw [h] at h2
      cases h2
      have l := (List.getElem?_eq_some_iff.mp h1).1
      rw [List.length_set] at l
      rw [List.getElem?_set_self l] at h1
      cases h1
      exact hb
    · rw [List.getElem?_set_ne (Ne.symm z)] at h1
      refine (R.ob n' o' a' h1 h2).kp k (upd_ne fun q => z ?_)
      have l1 := (List.getElem?_eq_some_iff.mp h).1
      have l2 := (List.getElem?_eq_some_iff.mp h2).1
      rw [← q] at h
      exact (List.getElem?_inj l2 R.nd).mp (h2.trans h.symm)
  · rw [upd_ne (show x ≠ a from fun z => nx (z ▸ ha))]
    exact e
end
structure RhoR (K : PySem.W.Frag) (H : Hp) (m : List Addr) (ρ : Rho) (σ : L2.St) : Prop where
  len : ρ.length = σ.length
  at_ : ∀ (i : Nat) (v : Val), ρ[i]? = some (some v) → ∃ u, σ[i]? = some (some u) ∧ VR K H m u v
section
variable {K : PySem.W.Frag} {H H' : Hp} {m m' : List Addr} {ρ : Rho} {σ : L2.St}
theorem RhoR.kp (r : RhoR K H m ρ σ) (k : Kp m H m' H') : RhoR K H' m' ρ σ := ⟨r.len, fun i v h => let ⟨u, h1, h2⟩ := r.at_ i v h; ⟨u, h1, h2.kp k⟩⟩
theorem RhoR.set (r : RhoR K H m ρ σ) {u : V} {v : Val} (h : VR K H m u v) (i : Nat) : RhoR K H m (ρ.set i (some v)) (σ.set i (some u)) := by
  refine ⟨by simp [r.len], fun j w e => ?_⟩
  by_cases z : i = j
  · subst z
    have l := (List.getElem?_eq_some_iff.mp e).1
    rw [List.length_set] at l
    rw [List.getElem?_set_self l] at e
    cases e
    exact ⟨u, List.getElem?_set_self (by rw [← r.len]; exact l), h⟩
  · rw [List.getElem?_set_ne z] at e
    rw [List.getElem?_set_ne z]
    exact r.at_ j w e
theorem RhoR.unset (r : RhoR K H m ρ σ) (i : Nat) (o : Option V) : RhoR K H m (ρ.set i none) (σ.set i o) := by
  refine ⟨by simp [r.len], fun j w e => ?_⟩
  by_cases z : i = j
  · subst z
    have l := (List.getElem?_eq_some_iff.mp e).1
    rw [List.length_set] at l
    rw [List.getElem?_set_self l] at e
    cases e
  · rw [List.getElem?_set_ne z] at e
    rw [List.getElem?_set_ne z]
    exact r.at_ j w e
end
end AL
namespace AL
open PySem PySem.Spec PyProof.Rows L2 G
variable [TT]
abbrev EF := Rho → Sto → Option (Val × Sto)
abbrev BF := Rho → Sto → Option (Bool × Sto)
abbrev AF := Rho → Sto → Option (List Val × Sto)
def tF (K : PySem.W.Frag) (f : EF) : TE := fun σ H Q => ∃ m ρ S v S', Rel K m S H ∧ RhoR K H m ρ σ ∧ f ρ S = some (v, S') ∧ ∀ m' u H', Ext m H m' H' → Rel K m' S' H' → VR K H' m' u v → Q u H'
def tFb (K : PySem.W.Frag) (f : BF) : L2.TT := fun σ H Q => ∃ m ρ S b S', Rel K m S H ∧ RhoR K H m ρ σ ∧ f ρ S = some (b, S') ∧ ∀ m' H', Ext m H m' H' → Rel K m' S' H' → Q b H'
def tFa (K : PySem.W.Frag) (f : AF) : TA := fun σ H Q => ∃ m ρ S vs S', Rel K m S H ∧ RhoR K H m ρ σ ∧ f ρ S = some (vs, S') ∧ ∀ m' us H', Ext m H m' H' → Rel K m' S' H' → VRs K H' m' us vs → Q us H'
abbrev AE (X : Cx) (e : Expr) (f : EF) : Prop := PE X e (tF X.K f)
abbrev AT (X : Cx) (e : Expr) (f : BF) : Prop := PT X e (tFb X.K f)
abbrev AW (X : Cx) (e : Expr) (f : BF) : Prop := PW X e (tFb X.K f)
abbrev AA (X : Cx) (es : List Expr) (f : AF) : Prop := PA X es (tFa X.K f)
section
variable {X : Cx} {e a b c : Expr} {es : List Expr} {pos : Pos} {f fa fb fc : EF} {K : PySem.W.Frag}
theorem pe_w {t t' : TE} (h : PE X e t) (hi : ∀ σ H Q, t' σ H Q → t σ H Q) : PE X e t' := ⟨fun pins s σ H Q I hq => h.run pins s σ H Q I (hi σ H Q hq)⟩
theorem pt_w {t t' : L2.TT} (h : PT X e t) (hi : ∀ σ H Q, t' σ H Q → t σ H Q) : PT X e t' := ⟨fun pins s σ H Q I hq => h.run pins s σ H Q I (hi σ H Q hq)⟩
theorem pw_w {t t' : L2.TT} (h : PW X e t) (hi : ∀ σ H Q, t' σ H Q → t σ H Q) : PW X e t' := ⟨fun w pins s σ H Q I hq => h.run w pins s σ H Q I (hi σ H Q hq)⟩
theorem pa_w {t t' : TA} (h : PA X es t) (hi : ∀ σ H Q, t' σ H Q → t σ H Q) : PA X es t' := ⟨fun p pins s σ H Q I hq => h.run p pins s σ H Q I (hi σ H Q hq)⟩
def eV (i : Nat) : EF := fun ρ S => match ρ[i]? with
  | some (some v) => some (v, S)
  | _ => none
def eC (v : Val) : EF := fun _ S => some (v, S)
theorem av (i : Nat) {x : Str} (hN : X.N[i]? = some x := by rfl) (hv : Vis X.env.scope x := by first | exact Or.inl rfl | exact Or.inr (Or.inl rfl) | exact Or.inr (Or.inr rfl)) (hd : (x == ("__debug__" : Str)) = false := by decide)
    (hcd : (x == ("__classdict__" : Str)) = false := by decide) : AE X (.Name x pos) (eV i) := by
  refine pe_w (pe_var hN hv hd hcd) fun σ H Q h => ?_
  obtain ⟨m, ρ, S, v, S', R, r, e, q⟩ := h
  unfold eV at e
  split at e
  · next w hw =>
    cases e
    obtain ⟨u, h1, h2⟩ := r.at_ i _ hw
    exact ⟨u, h1, q m u H (.refl _ _) R h2⟩
  · cases e
theorem ac {u : V} {v : Val} (h : PE X e (tC u)) (hv : ∀ H m, VR X.K H m u v) : AE X e (eC v) := by
  refine pe_w h fun σ H Q h => ?_
  obtain ⟨m, ρ, S, w, S', R, r, e, q⟩ := h
  cases e
  exact q m u H (.refl _ _) R (hv H m)
theorem ai {i : Int} {j : Nat} : AE X (.Constant (.int i) j pos) (eC (.int i)) := ac pe_int fun _ _ => .int i
theorem abl {i : Bool} {j : Nat} : AE X (.Constant (.bool i) j pos) (eC (.bl i)) := ac pe_bl fun _ _ => .bl i
theorem an {j : Nat} : AE X (.Constant .none j pos) (eC .non) := ac pe_non fun _ _ => .non
theorem astr {x : Str} {j : Nat} : AE X (.Constant (.str x) j pos) (eC (.str x)) := ac pe_str fun _ _ => .str x
def eB (g : Val → Val → Sto → Option (Val × Sto)) (fa fb : EF) : EF := fun ρ S => (fa ρ S).bind fun p => (fb ρ p.2).bind fun q => g p.1 q.1 q.2
def OpA (K : PySem.W.Frag) (r : R2) (g : Val → Val → Sto → Option (Val × Sto)) : Prop := ∀ m S H x y v S' u w Q, Rel K m S H → VR K H m u x → VR K H m w y → g x y S = some (v, S') →
  (∀ m' z H', Ext m H m' H' → Rel K m' S' H' → VR K H' m' z v → Q z H') → r u w H Q
theorem eB_ok {r : R2} {g : Val → Val → Sto → Option (Val × Sto)} (hg : OpA K r g) {σ : L2.St} {H : Hp} {Q : VK} (h : tF K (eB g fa fb) σ H Q) : tOp r (tF K fa) (tF K fb) σ H Q := by
  obtain ⟨m, ρ, S, v, S', R, r, e, q⟩ := h
  obtain ⟨⟨x, S1⟩, e1, e⟩ := Option.bind_eq_some_iff.mp e
  obtain ⟨⟨y, S2⟩, e2, e⟩ := Option.bind_eq_some_iff.mp e
  refine ⟨m, ρ, S, x, S1, R, r, e1, fun m1 u H1 E1 R1 r1 => ⟨m1, ρ, S1, y, S2, R1, r.kp (E1.kp R), e2, fun m2 w H2 E2 R2 r2 => ?_⟩⟩
  exact hg m2 S2 H2 x y v S' u w Q R2 (r1.kp (E2.kp R1)) r2 e fun m3 z H3 E3 R3 r3 => q m3 z H3 ((E1.trans E2).trans E3) R3 r3
theorem aop {op : Operator} {r : R2} {g : Val → Val → Sto → Option (Val × Sto)} (ho : OpR X (binaryOp op) r) (hg : OpA X.K r g) (ha : AE X a fa) (hb : AE X b fb) : AE X (.BinOp a op b pos) (eB g fa fb) := pe_w (pe_op ho ha hb) fun _ _ _ h => eB_ok hg h
def eT (f : EF) : BF := fun ρ S => (f ρ S).bind fun p => match p.1 with
  | .bl b => some (b, p.2)
  | _ => none
theorem eT_ok {σ : L2.St} {H : Hp} {Q : Bool → Hp → Prop} (h : tFb K (eT f) σ H Q) : tF K f σ H fun x H' => ∃ k, x = .bl k ∧ Q k H' := by
  obtain ⟨m, ρ, S, v, S', R, r, e, q⟩ := h
  obtain ⟨⟨x, S1⟩, e1, e⟩ := Option.bind_eq_some_iff.mp e
  refine ⟨m, ρ, S, x, S1, R, r, e1, fun m1 u H1 E1 R1 r1 => ?_⟩
  cases x <;> try cases e
  cases r1
  exact ⟨_, rfl, q m1 H1 E1 R1⟩
theorem atc {op : CmpOp} {r : R2} {g : Val → Val → Sto → Option (Val × Sto)} (ho : OpR X (compareOp op) r) (hg : OpA X.K r g) (ha : AE X a fa) (hb : AE X b fb) (hm : behindInMarks op b = false) : AT X (.Compare a [op] [b] pos) (eT (eB g fa fb)) := pt_w (pt_cmpR ho ha hb hm) fun _ _ _ h => eB_ok hg (eT_ok h)
theorem atv (ha : AE X e f) (he : ∀ whole, isTrue e X.env whole = (do let v ← whole; standAt e.pos; holding [v] (truthy v)) := by intro _; rfl) : AT X e (eT f) := pt_w (pt_val ha he) fun _ _ _ h => eT_ok h
def bAnd (f g : BF) : BF := fun ρ S => (f ρ S).bind fun p => if p.1 then g ρ p.2 else some (false, p.2)
def bOr (f g : BF) : BF := fun ρ S => (f ρ S).bind fun p => if p.1 then some (true, p.2) else g ρ p.2
def bNot (f : BF) : BF := fun ρ S => (f ρ S).bind fun p => some (!p.1, p.2)
variable {g1 g2 : BF} {rest : List Expr}
theorem aw1 (h : AT X a g1) : AW X (.BoolOp .And [a] pos) g1 := pw_and1 h
theorem awo1 (h : AT X a g1) : AW X (.BoolOp .Or [a] pos) g1 := pw_or1 h
theorem aw (h : AT X a g1) (h2 : AW X (.BoolOp .And (b :: rest) pos) g2) : AW X (.BoolOp .And (a :: b :: rest) pos) (bAnd g1 g2) := by
  refine pw_w (pw_and h h2) fun σ H Q h => ?_
  obtain ⟨m, ρ, S, v, S', R, r, e, q⟩ := h
  obtain ⟨⟨x, S1⟩, e1, e⟩ := Option.bind_eq_some_iff.mp e
  refine ⟨m, ρ, S, x, S1, R, r, e1, fun m1 H1 E1 R1 => ?_⟩
  cases x with
  | true => exact ⟨m1, ρ, S1, v, S', R1, r.kp (E1.kp R), e, fun m2 H2 E2 R2 => q m2 H2 (E1.trans E2) R2⟩
  | false =>
    cases e
    exact q m1 H1 E1 R1
theorem awo (h : AT X a g1) (h2 : AW X (.BoolOp .Or (b :: rest) pos) g2) : AW X (.BoolOp .Or (a :: b :: rest) pos) (bOr g1 g2) := by
  refine pw_w (pw_or h h2) fun σ H Q h => ?_
  obtain ⟨m, ρ, S, v, S', R, r, e, q⟩ := h
  obtain ⟨⟨x, S1⟩, e1, e⟩ := Option.bind_eq_some_iff.mp e
  refine ⟨m, ρ, S, x, S1, R, r, e1, fun m1 H1 E1 R1 => ?_⟩
  cases x with
  | true =>
    cases e
    exact q m1 H1 E1 R1
  | false => exact ⟨m1, ρ, S1, v, S', R1, r.kp (E1.kp R), e, fun m2 H2 E2 R2 => q m2 H2 (E1.trans E2) R2⟩
theorem atw (h : AW X e g1) : AT X e g1 := PW.pt h
theorem atn (h : AT X a g1) : AT X (.UnaryOp .Not a pos) (bNot g1) := by
  refine pt_w (pt_not h) fun σ H Q h => ?_
  obtain ⟨m, ρ, S, v, S', R, r, e, q⟩ := h
  obtain ⟨⟨x, S1⟩, e1, e⟩ := Option.bind_eq_some_iff.mp e
  cases e
  exact ⟨m, ρ, S, x, _, R, r, e1, q⟩

def eAnd (f g : EF) : EF := fun ρ S => (f ρ S).bind fun p => match p.1 with
  | .bl true => g ρ p.2
  | .bl false => some (.bl false, p.2)
  | _ => none
def eOr (f g : EF) : EF := fun ρ S => (f ρ S).bind fun p => match p.1 with
  | .bl true => some (.bl true, p.2)
  | .bl false => g ρ p.2
  | _ => none
def eNot (f : EF) : EF := fun ρ S => (f ρ S).bind fun p => match p.1 with
  | .bl b => some (.bl (!b), p.2)
  | _ => none
def eIf (t : BF) (fa fb : EF) : EF := fun ρ S => (t ρ S).bind fun p => if p.1 then fa ρ p.2 else fb ρ p.2
theorem aif (hc : AT X c g1) (ha : AE X a fa) (hb : AE X b fb) : AE X (.IfExp c a b pos) (eIf g1 fa fb) := by
  refine pe_w (pe_ifExp hc ha hb) fun σ H Q h => ?_
  obtain ⟨m, ρ, S, v, S', R, r, e, q⟩ := h
  obtain ⟨⟨x, S1⟩, e1, e⟩ := Option.bind_eq_some_iff.mp e
  refine ⟨m, ρ, S, x, S1, R, r, e1, fun m1 H1 E1 R1 => ?_⟩
  cases x with
  | true => exact ⟨m1, ρ, S1, v, S', R1, r.kp (E1.kp R), e, fun m2 u H2 E2 R2 r2 => q m2 u H2 (E1.trans E2) R2 r2⟩
  | false => exact ⟨m1, ρ, S1, v, S', R1, r.kp (E1.kp R), e, fun m2 u H2 E2 R2 r2 => q m2 u H2 (E1.trans E2) R2 r2⟩

def eCh (g g' : Val → Val → Sto → Option (Val × Sto)) (fa fb fc : EF) : EF := fun ρ S => (fa ρ S).bind fun p => (fb ρ p.2).bind fun q => (g p.1 q.1 q.2).bind fun z => match z.1 with
  | .bl true => (fc ρ z.2).bind fun w => g' q.1 w.1 w.2
  | .bl false => some (.bl false, z.2)
  | _ => none
def aNil : AF := fun _ S => some ([], S)
def aCons (f : EF) (g : AF) : AF := fun ρ S => (f ρ S).bind fun p => (g ρ p.2).bind fun q => some (p.1 :: q.1, q.2)
variable {ga : AF}
theorem aan : AA X [] aNil := by
  refine pa_w pa_nil fun σ H Q h => ?_
  obtain ⟨m, ρ, S, v, S', R, r, e, q⟩ := h
  cases e
  exact q m [] H (.refl _ _) R .nil
theorem aac (ha : AE X e f) (hr : AA X es ga) (hs : starEach (e :: es) X.env = (false, eval e X.env) :: starEach es X.env := by rfl) : AA X (e :: es) (aCons f ga) := by
  refine pa_w (pa_cons ha hr hs) fun σ H Q h => ?_
  obtain ⟨m, ρ, S, v, S', R, r, e, q⟩ := h
  obtain ⟨⟨x, S1⟩, e1, e⟩ := Option.bind_eq_some_iff.mp e
  obtain ⟨⟨y, S2⟩, e2, e⟩ := Option.bind_eq_some_iff.mp e
  cases e
  exact ⟨m, ρ, S, x, S1, R, r, e1, fun m1 u H1 E1 R1 r1 => ⟨m1, ρ, S1, y, S2, R1, r.kp (E1.kp R), e2, fun m2 w H2 E2 R2 r2 => q m2 _ H2 (E1.trans E2) R2 (.cons (r1.kp (E2.kp R1)) r2)⟩⟩
def eTup (g : AF) : EF := fun ρ S => (g ρ S).bind fun p => if p.1.length ≤ 1000000 then some (.tup p.1, p.2) else none
def eLst (g : AF) : EF := fun ρ S => (g ρ S).bind fun p => if p.1.length ≤ 1000000 then some (.ref p.2.length, p.2 ++ [.lst p.1]) else none
theorem mill {n : Nat} (h : n ≤ 1000000) : n ≤ sizeLine := Nat.le_trans h (by decide)
theorem atup {k : Nat} (h : AA X es ga) : AE X (.Tuple es k pos) (eTup ga) := by
  refine pe_w (pe_tup h) fun σ H Q h => ?_
  obtain ⟨m, ρ, S, v, S', R, r, e, q⟩ := h
  obtain ⟨⟨x, S1⟩, e1, e⟩ := Option.bind_eq_some_iff.mp e
  refine ⟨m, ρ, S, x, S1, R, r, e1, fun m1 us H1 E1 R1 r1 => ?_⟩
  dsimp only at e
  split at e
  · next hl =>
    cases e
    refine ⟨by rw [r1.len]; exact mill hl, fun p hp => ?_⟩
    obtain ⟨R2, E2⟩ := R1.tmp (o := .tup us) hp
    exact q m1 _ _ (E1.trans E2) R2 (.tup (.inl upd_same) (r1.kp (E2.kp R1)))
  · cases e
theorem alst (h : AA X es ga) : AE X (.List es pos) (eLst ga) := by
  refine pe_w (pe_lst h) fun σ H Q h => ?_
  obtain ⟨m, ρ, S, v, S', R, r, e, q⟩ := h
  obtain ⟨⟨x, S1⟩, e1, e⟩ := Option.bind_eq_some_iff.mp e
  refine ⟨m, ρ, S, x, S1, R, r, e1, fun m1 us H1 E1 R1 r1 => ?_⟩
  dsimp only at e
  split at e
  · next hl =>
    cases e
    refine ⟨by rw [r1.len]; exact mill hl, fun p hp => ?_⟩
    have k1 : Kp m1 H1 (m1 ++ [p]) (upd H1 p (.lst us)) := .grow [p] (.new hp)
    obtain ⟨R2, E2⟩ := R1.alloc (o := .lst us) (b := .lst x) hp ⟨us, upd_same, r1.kp k1⟩
    refine q _ _ _ (E1.trans E2) R2 (.ref ?_)
    rw [← R1.len, List.getElem?_concat_length]
  · cases e
def eCall (g : List Val → Sto → Option (Val × Sto)) (ga : AF) : EF := fun ρ S => (ga ρ S).bind fun p => g p.1 p.2
def CaA (K : PySem.W.Frag) (r : List V → Hp → VK → Prop) (g : List Val → Sto → Option (Val × Sto)) : Prop := ∀ m S H xs v S' us Q, Rel K m S H → VRs K H m us xs → g xs S = some (v, S') →
  (∀ m' z H', Ext m H m' H' → Rel K m' S' H' → VR K H' m' z v → Q z H') → r us H Q
theorem eCall_ok {r : List V → Hp → VK → Prop} {g : List Val → Sto → Option (Val × Sto)} (hg : CaA K r g) {σ : L2.St} {H : Hp} {Q : VK} (h : tF K (eCall g ga) σ H Q) : tFa K ga σ H fun us H1 => r us H1 Q := by
  obtain ⟨m, ρ, S, v, S', R, r, e, q⟩ := h
  obtain ⟨⟨x, S1⟩, e1, e⟩ := Option.bind_eq_some_iff.mp e
  exact ⟨m, ρ, S, x, S1, R, r, e1, fun m1 us H1 E1 R1 r1 => hg m1 S1 H1 x v S' us Q R1 r1 e fun m2 z H2 E2 R2 r2 => q m2 z H2 (E1.trans E2) R2 r2⟩
theorem CaA.or {r r' : List V → Hp → VK → Prop} {g g' : List Val → Sto → Option (Val × Sto)} (h : CaA K r g) (h' : CaA K r' g') : CaA K (fun x H Q => r x H Q ∨ r' x H Q) (fun x S => (g x S).or (g' x S)) := by
  intro m S H x v S' u Q R ru e q
  cases eg : g x S with
  | some p =>
    simp only [eg, Option.some_or] at e
    cases e
    exact .inl (h m S H x v S' u Q R ru eg q)
  | none =>
    simp only [eg, Option.none_or] at e
    exact .inr (h' m S H x v S' u Q R ru e q)
theorem CallR.or {f : Value} {r r' : List V → Hp → VK → Prop} (h : CallR X f r) (h' : CallR X f r') : CallR X f (fun xs H Q => r xs H Q ∨ r' xs H Q) := by
  intro pins s σ H xs us Q I rs q
  rcases q with q | q
  · exact h pins s σ H xs us Q I rs q
  · exact h' pins s σ H xs us Q I rs q
theorem acb {id : String} {x : Str} {p : Pos} {r : List V → Hp → VK → Prop} {g : List Val → Sto → Option (Val × Sto)} (hc : CallR X (.builtin id) r) (hgg : CaA X.K r g) (hg : Gl X x) (hm : X.mg x = none) (hv : bootBuiltins x = some (.builtin id)) (ha : AA X (e :: es) ga) (hn : x ≠ "__name__" := by decide) (hdb : (x == ("__debug__" : Str)) = false := by decide)
    (he : starEach (e :: es) X.env = (false, eval e X.env) :: starEach es X.env := by rfl) (hpl : (backTo pos (starEach es X.env)).any (·.1) = false := by rfl) : AE X (.Call (.Name x p) (e :: es) [] pos) (eCall g ga) :=
  pe_w (pe_callB hc hg hm hv ha hn hdb he hpl) fun _ _ _ h => eCall_ok hgg h
theorem act {T : String} {x : Str} {p : Pos} {r : List V → Hp → VK → Prop} {g : List Val → Sto → Option (Val × Sto)} (hc : CallR X (.type T) r) (hgg : CaA X.K r g) (hg : Gl X x) (hm : X.mg x = none) (hv : bootBuiltins x = some (.type T)) (ha : AA X (e :: es) ga) (hn : x ≠ "__name__" := by decide) (hdb : (x == ("__debug__" : Str)) = false := by decide)
    (he : starEach (e :: es) X.env = (false, eval e X.env) :: starEach es X.env := by rfl) (hpl : (backTo pos (starEach es X.env)).any (·.1) = false := by rfl) : AE X (.Call (.Name x p) (e :: es) [] pos) (eCall g ga) :=
  pe_w (pe_callTy hc hg hm hv ha hn hdb he hpl) fun _ _ _ h => eCall_ok hgg h
abbrev FA := List Val → Sto → Option (Val × Sto)
def spA (K : PySem.W.Frag) (n : Nat) (F : FA) : Sp := fun us H Q _ => us.length = n ∧ ∃ m S vs v S', Rel K m S H ∧ VRs K H m us vs ∧ F vs S = some (v, S') ∧ ∀ m' z H', Ext m H m' H' → Rel K m' S' H' → VR K H' m' z v → Q z H'

structure Def (P : Program) (w : World) (K : PySem.W.Frag) (mg : Str → Option Value) (base : Heap) (k : Nat) (x : Str) (ps : List Str) (F : FA) : Prop where
  ex : ∃ f fd, FnG P w K mg base k f fd ps (spA K ps.length F) ∧ Binds K fd ps [] ∧ mg x = some (.ref f) ∧ PySem.W.keepIn K (.ref f) = true
def eDef (F : FA) (n : Nat) (ga : AF) : EF := fun ρ S => (ga ρ S).bind fun p => if p.1.length = n then F p.1 p.2 else none
theorem acd {k : Nat} {x : Str} {ps : List Str} {F : FA} {p : Pos} (D : Def X.prog X.w X.K X.mg X.base k x ps F) (g : X.A.guards = some []) (hr : Room k X.A) (hgl : Gl X x) (ha : AA X (e :: es) ga) (hdb : (x == ("__debug__" : Str)) = false := by decide)
    (he : starEach (e :: es) X.env = (false, eval e X.env) :: starEach es X.env := by rfl) (hpl : (backTo pos (starEach es X.env)).any (·.1) = false := by rfl) {n : Nat} (hn : ps.length = n := by rfl) : AE X (.Call (.Name x p) (e :: es) [] pos) (eDef F n ga) := by
  subst hn
  obtain ⟨f, fd, hF, hb, hm, hk⟩ := D.ex
  refine pe_w (pe_callG hF g hr hgl hm hk hb ha hdb he hpl) fun σ H Q h => ?_
  obtain ⟨m, ρ, S, v, S', R, r, e, q⟩ := h
  obtain ⟨⟨x, S1⟩, e1, e⟩ := Option.bind_eq_some_iff.mp e
  dsimp only at e
  split at e
  · next hl => exact ⟨m, ρ, S, x, S1, R, r, e1, fun m1 us H1 E1 R1 r1 => ⟨by rw [r1.len]; exact hl, m1, S1, x, v, S', R1, r1, e, fun m2 z H2 E2 R2 r2 => q m2 z H2 (E1.trans E2) R2 r2⟩⟩
  · cases e
def eMt (ok : Val → Sto → Bool) (g : Val → List Val → Sto → Option (Val × Sto)) (fo : EF) (ga : AF) : EF := fun ρ S => (fo ρ S).bind fun p => if ok p.1 p.2 then (ga ρ p.2).bind fun q => g p.1 q.1 q.2 else none
def MtA (K : PySem.W.Frag) (r : V → List V → Hp → VK → Prop) (g : Val → List Val → Sto → Option (Val × Sto)) : Prop := ∀ m S H x xs v S' u us Q, Rel K m S H → VR K H m u x → VRs K H m us xs → g x xs S = some (v, S') →
  (∀ m' z H', Ext m H m' H' → Rel K m' S' H' → VR K H' m' z v → Q z H') → r u us H Q
def TyA (K : PySem.W.Frag) (T : String) (ok : Val → Sto → Bool) : Prop := ∀ m S H u v, Rel K m S H → VR K H m u v → ok v S = true → tyV K T u H
theorem am {o : Expr} {fo : EF} {name : Str} {apos cpos : Pos} {T id : String} {r : V → List V → Hp → VK → Prop} {g : Val → List Val → Sto → Option (Val × Sto)} {ok : Val → Sto → Bool} (pa : PlainAttrs T) (slot : Slot T name id) (hty : typeOf (.builtin id) = pure (.type "method_descriptor")) (hm : MtR X id r) (hg : MtA X.K r g) (ht : TyA X.K T ok) (ho : AE X o fo) (ha : AA X (e :: es) ga)
    (hbase : attributeBase o name X.env (eval o X.env) = eval o X.env := by rfl)
    (hfew : ((backTo cpos (starEach (e :: es) X.env)).all (fun x => !x.1) && (backToKw cpos (keywordEach [] X.env)).all (fun x => x.1.isSome)
      && decide ((e :: es).length + ([] : List Keyword).length + (if ([] : List Keyword).isEmpty then 0 else 1) < 30)) = true := by rfl)
    (hline : (apos.endLine == cpos.line) = true := by rfl) (hs : starEach (e :: es) X.env = (false, eval e X.env) :: starEach es X.env := by rfl) (hplain : (backTo cpos (starEach es X.env)).any (·.1) = false := by rfl) :
    AE X (.Call (.Attribute o name apos) (e :: es) [] cpos) (eMt ok g fo ga) := by
  refine pe_w (pe_bm pa slot hty hm ho ha hbase hfew hline hs hplain) fun σ H Q h => ?_
  obtain ⟨m, ρ, S, v, S', R, r, e, q⟩ := h
  obtain ⟨⟨x, S1⟩, e1, e⟩ := Option.bind_eq_some_iff.mp e
  dsimp only at e
  split at e
  · next hl =>
    obtain ⟨⟨y, S2⟩, e2, e⟩ := Option.bind_eq_some_iff.mp e
    refine ⟨m, ρ, S, x, S1, R, r, e1, fun m1 u H1 E1 R1 r1 => ⟨ht m1 S1 H1 u x R1 r1 hl, m1, ρ, S1, y, S2, R1, r.kp (E1.kp R), e2, fun m2 us H2 E2 R2 r2 => ?_⟩⟩
    exact hg m2 S2 H2 x y v S' u us Q R2 (r1.kp (E2.kp R1)) r2 e fun m3 z H3 E3 R3 r3 => q m3 z H3 ((E1.trans E2).trans E3) R3 r3
  · cases e
def eMt0 (ok : Val → Sto → Bool) (g : Val → List Val → Sto → Option (Val × Sto)) (fo : EF) : EF := fun ρ S => (fo ρ S).bind fun p => if ok p.1 p.2 then g p.1 [] p.2 else none

def eU (g : Val → Sto → Option (Val × Sto)) (fa : EF) : EF := fun ρ S => (fa ρ S).bind fun p => g p.1 p.2
def UnA (K : PySem.W.Frag) (r : V → Hp → VK → Prop) (g : Val → Sto → Option (Val × Sto)) : Prop := ∀ m S H x v S' u Q, Rel K m S H → VR K H m u x → g x S = some (v, S') → (∀ m' z H', Ext m H m' H' → Rel K m' S' H' → VR K H' m' z v → Q z H') → r u H Q
theorem aun {op : UnaryOp} {r : V → Hp → VK → Prop} {g : Val → Sto → Option (Val × Sto)} (ho : UnR X (unaryOp op) r) (hg : UnA X.K r g) (ha : AE X a fa) : AE X (.UnaryOp op a pos) (eU g fa) := by
  refine pe_w (pe_un ho ha) fun σ H Q h => ?_
  obtain ⟨m, ρ, S, v, S', R, r, e, q⟩ := h
  obtain ⟨⟨x, S1⟩, e1, e⟩ := Option.bind_eq_some_iff.mp e
  exact ⟨m, ρ, S, x, S1, R, r, e1, fun m1 u H1 E1 R1 r1 => hg m1 S1 H1 x v S' u Q R1 r1 e fun m2 z H2 E2 R2 r2 => q m2 z H2 (E1.trans E2) R2 r2⟩

abbrev OF := Rho → Sto → Option (Option Int × Sto)
def oN : OF := fun _ S => some (none, S)
def oS (f : EF) : OF := fun ρ S => (f ρ S).bind fun p => match p.1 with
  | .int i => some (some i, p.2)
  | _ => none
def tFo (K : PySem.W.Frag) (f : OF) : TO := fun σ H Q => ∃ m ρ S o S', Rel K m S H ∧ RhoR K H m ρ σ ∧ f ρ S = some (o, S') ∧ ∀ m' H', Ext m H m' H' → Rel K m' S' H' → Q o H'
theorem po_w {o : Option Expr} {t t' : TO} (h : PO X o t) (hi : ∀ σ H Q, t' σ H Q → t σ H Q) : PO X o t' := ⟨fun pins s σ H Q I hq => h.run pins s σ H Q I (hi σ H Q hq)⟩
theorem aon : PO X none (tFo X.K oN) := po_w po_none fun σ H Q h => by
  obtain ⟨m, ρ, S, v, S', R, r, e, q⟩ := h
  cases e
  exact q m H (.refl _ _) R
theorem aos (ha : AE X e f) : PO X (some e) (tFo X.K (oS f)) := po_w (po_some ha) fun σ H Q h => by
  obtain ⟨m, ρ, S, v, S', R, r, e, q⟩ := h
  obtain ⟨⟨x, S1⟩, e1, e⟩ := Option.bind_eq_some_iff.mp e
  refine ⟨m, ρ, S, x, S1, R, r, e1, fun m1 u H1 E1 R1 r1 => ?_⟩
  cases x <;> cases e
  cases r1
  exact ⟨_, rfl, q m1 H1 E1 R1⟩
def eSl (g : Val → Option Int → Option Int → Sto → Option (Val × Sto)) (fa : EF) (lo hi : OF) : EF := fun ρ S => (fa ρ S).bind fun p => (lo ρ p.2).bind fun q => (hi ρ q.2).bind fun z => g p.1 q.1 z.1 z.2
def SlA (K : PySem.W.Frag) (r : V → Option Int → Option Int → Hp → VK → Prop) (g : Val → Option Int → Option Int → Sto → Option (Val × Sto)) : Prop := ∀ m S H x lo hi v S' u Q, Rel K m S H → VR K H m u x → g x lo hi S = some (v, S') →
  (∀ m' z H', Ext m H m' H' → Rel K m' S' H' → VR K H' m' z v → Q z H') → r u lo hi H Q
theorem asl {r : V → Option Int → Option Int → Hp → VK → Prop} {g : Val → Option Int → Option Int → Sto → Option (Val × Sto)} {lo hi : Option Expr} {fl fh : OF} {p2 : Pos} (hs : SlR X r) (hg : SlA X.K r g) (ha : AE X a fa) (hl : PO X lo (tFo X.K fl)) (hh : PO X hi (tFo X.K fh)) : AE X (.Subscript a (.Slice lo hi none p2) pos) (eSl g fa fl fh) := by
  refine pe_w (pe_slice hs ha hl hh) fun σ H Q h => ?_
  obtain ⟨m, ρ, S, v, S', R, r, e, q⟩ := h
  obtain ⟨⟨x, S1⟩, e1, e⟩ := Option.bind_eq_some_iff.mp e
  obtain ⟨⟨y, S2⟩, e2, e⟩ := Option.bind_eq_some_iff.mp e
  obtain ⟨⟨z, S3⟩, e3, e⟩ := Option.bind_eq_some_iff.mp e
  refine ⟨m, ρ, S, x, S1, R, r, e1, fun m1 u H1 E1 R1 r1 => ⟨m1, ρ, S1, y, S2, R1, r.kp (E1.kp R), e2, fun m2 H2 E2 R2 => ⟨m2, ρ, S2, z, S3, R2, r.kp ((E1.trans E2).kp R), e3, fun m3 H3 E3 R3 => ?_⟩⟩⟩
  exact hg m3 S3 H3 x y z v S' u Q R3 (r1.kp ((E2.trans E3).kp R1)) e fun m4 z H4 E4 R4 r4 => q m4 z H4 (((E1.trans E2).trans E3).trans E4) R4 r4
end
end AL
namespace AL
open PySem PySem.Spec PyProof.Rows L2 G
variable [TT]
inductive Res where
  | stuck | nx (ρ : Rho) (S : Sto) | rt (v : Val) (S : Sto) | bk (ρ : Rho) (S : Sto) | ct (ρ : Rho) (S : Sto)
abbrev SF := Rho → Sto → Res
def Post (K : PySem.W.Frag) (m : List Addr) (H : Hp) (D : Ends) : Res → Prop
  | .stuck => False
  | .nx ρ S => ∀ m' σ' H', Ext m H m' H' → Rel K m' S H' → RhoR K H' m' ρ σ' → D.nx σ' H'
  | .rt v S => ∀ m' u H', Ext m H m' H' → Rel K m' S H' → VR K H' m' u v → D.rt u H'
  | .bk ρ S => ∀ m' σ' H', Ext m H m' H' → Rel K m' S H' → RhoR K H' m' ρ σ' → D.bk σ' H'
  | .ct ρ S => ∀ m' σ' H', Ext m H m' H' → Rel K m' S H' → RhoR K H' m' ρ σ' → D.ct σ' H'
theorem Post.ext {K : PySem.W.Frag} {m m1 : List Addr} {H H1 : Hp} {D : Ends} {r : Res} (h : Post K m H D r) (E : Ext m H m1 H1) : Post K m1 H1 D r := by
  cases r with
  | stuck => exact h
  | nx ρ S => exact fun m' σ' H' E' => h m' σ' H' (E.trans E')
  | rt ρ S => exact fun m' σ' H' E' => h m' σ' H' (E.trans E')
  | bk ρ S => exact fun m' σ' H' E' => h m' σ' H' (E.trans E')
  | ct ρ S => exact fun m' σ' H' E' => h m' σ' H' (E.trans E')
def tS (K : PySem.W.Frag) (g : SF) : TS := fun D σ H => ∃ m ρ S, Rel K m S H ∧ RhoR K H m ρ σ ∧ Post K m H D (g ρ S)
abbrev AS (X : Cx) (st : Stmt) (g : SF) : Prop := PS X st (tS X.K g)
abbrev ASs (X : Cx) (sts : List Stmt) (g : SF) : Prop := PSs X sts (tS X.K g)
section
variable {X : Cx} {st : Stmt} {sts rest : List Stmt} {e a b c o i : Expr} {es : List Expr} {pos : Pos} {f fa fb fc : EF} {g g1 g2 : SF} {tb : BF} {K : PySem.W.Frag} {ga : AF}
theorem ps_w {t t' : TS} (h : PS X st t) (hi : ∀ D σ H, t' D σ H → t D σ H) : PS X st t' := ⟨fun pins s σ H D I hq => h.run pins s σ H D I (hi D σ H hq)⟩
theorem pss_w {t t' : TS} (h : PSs X sts t) (hi : ∀ D σ H, t' D σ H → t D σ H) : PSs X sts t' := ⟨fun pins s σ H D I hq => h.run pins s σ H D I (hi D σ H hq)⟩
def sNil : SF := fun ρ S => .nx ρ S
def sSeq (g1 g2 : SF) : SF := fun ρ S => match g1 ρ S with
  | .nx ρ S => g2 ρ S
  | r => r
theorem asn : ASs X [] sNil := pss_w pss_nil fun D σ H h => by
  obtain ⟨m, ρ, S, R, r, p⟩ := h
  exact p m σ H (.refl _ _) R r
theorem asq (h1 : AS X st g1) (h2 : ASs X rest g2) : ASs X (st :: rest) (sSeq g1 g2) := pss_w (pss_cons h1 h2) fun D σ H h => by
  obtain ⟨m, ρ, S, R, r, p⟩ := h
  refine ⟨m, ρ, S, R, r, ?_⟩
  unfold sSeq at p
  cases e : g1 ρ S with
  | nx ρ1 S1 =>
    rw [e] at p
    intro m1 σ1 H1 E1 R1 r1
    exact ⟨m1, ρ1, S1, R1, r1, p.ext E1⟩
  | stuck => rw [e] at p; exact p
  | rt v S1 => rw [e] at p; exact p
  | bk v S1 => rw [e] at p; exact p
  | ct v S1 => rw [e] at p; exact p
theorem as1 (h : AS X st g) : ASs X [st] g := pss_one h
def sExpr (f : EF) : SF := fun ρ S => match f ρ S with
  | some (_, S) => .nx ρ S
  | none => .stuck
theorem asx (he : AE X e f) (hs : swapsWith e none pos.line X.env = pure false := by rfl) : AS X (.Expr e pos) (sExpr f) := ps_w (ps_expr he hs) fun D σ H h => by
  obtain ⟨m, ρ, S, R, r, p⟩ := h
  unfold sExpr at p
  split at p
  · next v S1 e1 => exact ⟨m, ρ, S, v, S1, R, r, e1, fun m1 u H1 E1 R1 r1 => p m1 σ H1 E1 R1 (r.kp (E1.kp R))⟩
  · exact p.elim
def sRet (f : EF) : SF := fun ρ S => match f ρ S with
  | some (v, S) => .rt v S
  | none => .stuck
theorem asr (he : AE X e f) : AS X (.Return (some e) pos) (sRet f) := ps_w (ps_ret he) fun D σ H h => by
  obtain ⟨m, ρ, S, R, r, p⟩ := h
  unfold sRet at p
  split at p
  · next v S1 e1 => exact ⟨m, ρ, S, v, S1, R, r, e1, p⟩
  · exact p.elim
def sIf (t : BF) (g1 g2 : SF) : SF := fun ρ S => match t ρ S with
  | some (true, S) => g1 ρ S
  | some (false, S) => g2 ρ S
  | none => .stuck
theorem asi (hc : AT X c tb) (h1 : ASs X sts g1) (h2 : ASs X rest g2) : AS X (.If c sts rest pos) (sIf tb g1 g2) := ps_w (ps_if hc h1 h2) fun D σ H h => by
  obtain ⟨m, ρ, S, R, r, p⟩ := h
  unfold sIf at p
  split at p
  · next S1 e1 => exact ⟨m, ρ, S, true, S1, R, r, e1, fun m1 H1 E1 R1 => ⟨m1, ρ, S1, R1, r.kp (E1.kp R), p.ext E1⟩⟩
  · next S1 e1 => exact ⟨m, ρ, S, false, S1, R, r, e1, fun m1 H1 E1 R1 => ⟨m1, ρ, S1, R1, r.kp (E1.kp R), p.ext E1⟩⟩
  · exact p.elim
inductive Pat where
  | nm (i : Nat)
  | tp (ps : List Pat)
mutual
def Pat.bind : Pat → Val → Rho → Option Rho
  | .nm i, v, ρ => some (ρ.set i (some v))
  | .tp ps, .tup vs, ρ => Pat.binds ps vs ρ
  | .tp _, _, _ => none
def Pat.binds : List Pat → List Val → Rho → Option Rho
  | [], [], ρ => some ρ
  | p :: ps, v :: vs, ρ => (Pat.bind p v ρ).bind fun ρ1 => Pat.binds ps vs ρ1
  | _, _, _ => none
end
mutual
def Pat.slots : Pat → List Nat
  | .nm i => [i]
  | .tp ps => Pat.slotss ps
def Pat.slotss : List Pat → List Nat
  | [] => []
  | p :: ps => Pat.slots p ++ Pat.slotss ps
end
theorem wipe_get (σ : L2.St) : ∀ (vs : List Nat) (j : Nat), (wipe σ vs)[j]? = if j ∈ vs then (σ[j]?).map (fun _ => none) else σ[j]?
  | [], j => by simp [wipe]
  | v :: vs, j => by
    unfold wipe
    by_cases z : v = j
    · subst z
      rw [List.getElem?_set]
      simp only [if_true, wipe_length, List.mem_cons, true_or, if_true]
      by_cases l : v < σ.length
      · simp [l]
      · simp [l, List.getElem?_eq_none (Nat.le_of_not_lt l)]
    · rw [List.getElem?_set_ne z, wipe_get σ vs j]
      simp [List.mem_cons, Ne.symm z]
theorem wipe_set (σ : L2.St) {i : Nat} {vs : List Nat} (x : Option V) (h : i ∈ vs) : wipe (σ.set i x) vs = wipe σ vs := by
  apply List.ext_getElem?
  intro j
  rw [wipe_get, wipe_get]
  by_cases z : i = j
  · subst z
    simp only [h, if_true]
    by_cases l : i < σ.length
    · simp [l]
    · rw [List.getElem?_eq_none (by rw [List.length_set]; omega), List.getElem?_eq_none (by omega)]
  · rw [List.getElem?_set_ne z]
def tG (K : PySem.W.Frag) (p : Pat) : TG := fun u σ H Q => ∃ m S ρ v ρ', Rel K m S H ∧ RhoR K H m ρ σ ∧ VR K H m u v ∧ p.bind v ρ = some ρ' ∧ ∀ σ', RhoR K H m ρ' σ' → (∀ ws, (∀ i ∈ p.slots, i ∈ ws) → wipe σ' ws = wipe σ ws) → Q σ' H
def tGs (K : PySem.W.Frag) (ps : List Pat) : TGs := fun us σ H Q => ∃ m S ρ vs ρ', Rel K m S H ∧ RhoR K H m ρ σ ∧ VRs K H m us vs ∧ Pat.binds ps vs ρ = some ρ' ∧ ∀ σ', RhoR K H m ρ' σ' → (∀ ws, (∀ i ∈ Pat.slotss ps, i ∈ ws) → wipe σ' ws = wipe σ ws) → Q σ' H
theorem pg_w {tg : Expr} {t t' : TG} (h : PG X tg t) (hi : ∀ v σ H Q, t' v σ H Q → t v σ H Q) : PG X tg t' := ⟨fun pins s σ H v u Q I rv hq => h.run pins s σ H v u Q I rv (hi v σ H Q hq)⟩
theorem pgs_w {tgs : List Expr} {t t' : TGs} (h : PGs X tgs t) (hi : ∀ v σ H Q, t' v σ H Q → t v σ H Q) : PGs X tgs t' := ⟨fun pins s σ H v u Q I rv hq => h.run pins s σ H v u Q I rv (hi v σ H Q hq)⟩
theorem agn {i : Nat} {x : Str} (hN : X.N.Nodup) (hi : X.N[i]? = some x) (hx : Loc X.env.scope x) (hf : X.fn x = true ∨ X.env.scope.names.lookup x = some .local := by first | exact .inl rfl | exact .inr rfl | assumption) : PG X (.Name x pos) (tG X.K (.nm i)) := pg_w (pg_name hN hi hx hf) fun u σ H Q h => by
  obtain ⟨m, S, ρ, v, ρ', R, r, rv, e, q⟩ := h
  simp only [Pat.bind] at e
  cases e
  exact q _ (r.set rv i) fun ws hw => wipe_set σ _ (hw i (by simp [Pat.slots]))
theorem agl0 : PGs X [] (tGs X.K []) := pgs_w pgs_nil fun us σ H Q h => by
  obtain ⟨m, S, ρ, vs, ρ', R, r, rv, e, q⟩ := h
  cases vs with
  | nil =>
    cases rv
    simp only [Pat.binds] at e
    cases e
    exact ⟨rfl, q σ r fun _ _ => rfl⟩
  | cons v vs => simp only [Pat.binds] at e; cases e
theorem agl {p : Pat} {ps : List Pat} (h1 : PG X e (tG X.K p)) (h2 : PGs X es (tGs X.K ps))
    (hs : (assignEach (e :: es) X.env).map (·.2) = assign e X.env :: (assignEach es X.env).map (·.2) := by rfl) : PGs X (e :: es) (tGs X.K (p :: ps)) := pgs_w (pgs_cons h1 h2 hs) fun us σ H Q h => by
  obtain ⟨m, S, ρ, vs, ρ', R, r, rv, e, q⟩ := h
  cases vs with
  | nil => simp only [Pat.binds] at e; cases e
  | cons v vs =>
    cases rv with
    | cons rv rvs =>
      simp only [Pat.binds] at e
      obtain ⟨ρ1, e1, e2⟩ := Option.bind_eq_some_iff.mp e
      refine ⟨_, _, rfl, m, S, ρ, v, ρ1, R, r, rv, e1, fun σ1 r1 w1 => ⟨m, S, ρ1, vs, ρ', R, r1, rvs, e2, fun σ2 r2 w2 => q σ2 r2 fun ws hw => ?_⟩⟩
      rw [w2 ws fun i hi => hw i (by simp [Pat.slotss, hi]), w1 ws fun i hi => hw i (by simp [Pat.slotss, hi])]
theorem bindLen : ∀ {ps : List Pat} {vs : List Val} {ρ ρ' : Rho}, Pat.binds ps vs ρ = some ρ' → vs.length = ps.length
  | [], [], _, _, _ => rfl
  | [], _ :: _, _, _, h => by simp only [Pat.binds] at h; cases h
  | _ :: _, [], _, _, h => by simp only [Pat.binds] at h; cases h
  | p :: ps, v :: vs, ρ, ρ', h => by
    simp only [Pat.binds] at h
    obtain ⟨ρ1, e1, e2⟩ := Option.bind_eq_some_iff.mp h
    rw [List.length_cons, List.length_cons, bindLen e2]
theorem agt {ps : List Pat} {k n : Nat} (hc : X.calm = true) (h : PGs X es (tGs X.K ps)) (hn : (assignEach es X.env).length = n := by rfl) (hst : (assignEach es X.env).findIdx? (·.1) = none := by rfl) (hl : ps.length = n := by rfl) : PG X (.Tuple es k pos) (tG X.K (.tp ps)) := pg_w (pg_tup hc h hn hst) fun u σ H Q h => by
  obtain ⟨m, S, ρ, v, ρ', R, r, rv, e, q⟩ := h
  cases v <;> simp only [Pat.bind] at e <;> try cases e
  cases rv with
  | tup ha rs =>
    exact ⟨_, _, rfl, ha.sq, by rw [rs.len, bindLen e, hl], m, S, ρ, _, ρ', R, r, rs, e, fun σ' r' w' => q σ' r' fun ws hw => w' ws fun i hi => hw i (by simpa [Pat.slots] using hi)⟩
def sAsg (p : Pat) (f : EF) : SF := fun ρ S => match f ρ S with
  | some (v, S) => match p.bind v ρ with
    | some ρ => .nx ρ S
    | none => .stuck
  | none => .stuck
theorem ass {i : Nat} {x : Str} {pos' : Pos} (hN : X.N.Nodup) (hi : X.N[i]? = some x) (hx : Loc X.env.scope x) (he : AE X e f) (hs : swapsWith e (some (.Name x pos')) pos.line X.env = pure false := by rfl) (hf : X.fn x = true ∨ X.env.scope.names.lookup x = some .local := by first | exact .inl rfl | exact .inr rfl | assumption) :
    AS X (.Assign [.Name x pos'] e pos) (sAsg (.nm i) f) := ps_w (ps_set hN hi hx he hs hf) fun D σ H h => by
  obtain ⟨m, ρ, S, R, r, q⟩ := h
  unfold sAsg at q
  split at q
  · next v S1 e1 =>
    simp only [Pat.bind] at q
    exact ⟨m, ρ, S, v, S1, R, r, e1, fun m1 u H1 E1 R1 r1 => q m1 _ H1 E1 R1 ((r.kp (E1.kp R)).set r1 i)⟩
  · exact q.elim

def sPar (is : List Nat) (ga : AF) : SF := fun ρ S => match ga ρ S with
  | some (vs, S) => match Pat.binds (is.map Pat.nm) vs ρ with
    | some ρ => .nx ρ S
    | none => .stuck
  | none => .stuck

def sSub (g : Val → Val → Val → Sto → Option Sto) (fo fi f : EF) : SF := fun ρ S => match f ρ S with
  | some (v, S) => match fo ρ S with
    | some (o, S) => match fi ρ S with
      | some (i, S) => match g o i v S with
        | some S => .nx ρ S
        | none => .stuck
      | none => .stuck
    | none => .stuck
  | none => .stuck
def SetA (K : PySem.W.Frag) (r : TSet) (g : Val → Val → Val → Sto → Option Sto) : Prop := ∀ m S H o i v S' uo ui u Q, Rel K m S H → VR K H m uo o → VR K H m ui i → VR K H m u v → g o i v S = some S' → (∀ H', Ext m H m H' → Rel K m S' H' → Q H') → r uo ui u H Q
def whR (t : BF) (g : SF) : Nat → SF
  | 0 => fun _ _ => .stuck
  | n + 1 => fun ρ S => match t ρ S with
    | none => .stuck
    | some (false, S) => .nx ρ S
    | some (true, S) => match g ρ S with
      | .nx ρ S => whR t g n ρ S
      | .ct ρ S => whR t g n ρ S
      | .bk ρ S => .nx ρ S
      | .rt v S => .rt v S
      | .stuck => .stuck
open Classical in
noncomputable def sWhile (t : BF) (g : SF) : SF := fun ρ S => if h : ∃ n, whR t g n ρ S ≠ .stuck then whR t g h.choose ρ S else .stuck
theorem whR_succ {t : BF} {g : SF} : ∀ {n : Nat} {ρ : Rho} {S : Sto}, whR t g n ρ S ≠ .stuck → whR t g (n + 1) ρ S = whR t g n ρ S
  | 0, _, _, h => absurd rfl h
  | n + 1, ρ, S, h => by
    unfold whR at h ⊢
    split
    · rfl
    · rfl
    · next S1 e1 =>
      simp only [e1] at h
      split
      · next ρ2 S2 e2 =>
        simp only [e2] at h
        exact whR_succ h
      · next ρ2 S2 e2 =>
        simp only [e2] at h
        exact whR_succ h
      · rfl
      · rfl
      · rfl
theorem whR_add {t : BF} {g : SF} {n : Nat} {ρ : Rho} {S : Sto} (h : whR t g n ρ S ≠ .stuck) : ∀ k, whR t g (n + k) ρ S = whR t g n ρ S
  | 0 => rfl
  | k + 1 => by
    have e := whR_add h k
    rw [← Nat.add_assoc, whR_succ (by rw [e]; exact h), e]
theorem sWhile_eq {t : BF} {g : SF} {n : Nat} {ρ : Rho} {S : Sto} {r : Res} (h : whR t g n ρ S = r) (hr : r ≠ .stuck) : sWhile t g ρ S = r := by
  have ex : ∃ n, whR t g n ρ S ≠ .stuck := ⟨n, by rw [h]; exact hr⟩
  unfold sWhile
  rw [dif_pos ex]
  have h1 := whR_add ex.choose_spec n
  have h2 := whR_add (show whR t g n ρ S ≠ .stuck by rw [h]; exact hr) ex.choose
  rw [← h1, ← h, ← h2, Nat.add_comm]
theorem asw (hp : PassesOwn (model X.prog X.w) X.A X.env X.xe) (hc : AT X c tb) (hb : ASs X sts g) : AS X (.While c sts [] pos) (sWhile tb g) := ps_w (ps_while hp hc hb) fun D σ H h => by
  obtain ⟨m, ρ, S, R, r, q⟩ := h
  unfold sWhile at q
  split at q
  · next hex =>
    generalize hex.choose = n at q
    refine ⟨fun k σ H => ∃ m ρ S, Rel X.K m S H ∧ RhoR X.K H m ρ σ ∧ Post X.K m H D (whR tb g k ρ S), ⟨n, m, ρ, S, R, r, q⟩, ?_⟩
    rintro k σ H ⟨m, ρ, S, R, r, q⟩
    cases k with
    | zero => exact q.elim
    | succ k =>
      unfold whR at q
      split at q
      · exact q.elim
      · next S1 e1 =>
        refine ⟨m, ρ, S, false, S1, R, r, e1, fun m1 H1 E1 R1 => ?_⟩
        exact q m1 σ H1 E1 R1 (r.kp (E1.kp R))
      · next S1 e1 =>
        refine ⟨m, ρ, S, true, S1, R, r, e1, fun m1 H1 E1 R1 => ?_⟩
        refine iteT ?_
        refine ⟨fun σ H => ∃ m ρ S, Rel X.K m S H ∧ RhoR X.K H m ρ σ ∧ Post X.K m H D (whR tb g k ρ S), fun σ' H' h => ⟨k, Nat.lt_succ_self k, h⟩, m1, ρ, S1, R1, r.kp (E1.kp R), ?_⟩
        split at q
        · next ρ2 S2 e2 =>
          rw [e2]
          exact fun m2 σ2 H2 E2 R2 r2 => ⟨m2, ρ2, S2, R2, r2, q.ext (E1.trans E2)⟩
        · next ρ2 S2 e2 =>
          rw [e2]
          exact fun m2 σ2 H2 E2 R2 r2 => ⟨m2, ρ2, S2, R2, r2, q.ext (E1.trans E2)⟩
        · next ρ2 S2 e2 =>
          rw [e2]
          exact fun m2 σ2 H2 E2 R2 r2 => q m2 σ2 H2 (E1.trans E2) R2 r2
        · next v2 S2 e2 =>
          rw [e2]
          exact fun m2 σ2 H2 E2 R2 r2 => q m2 σ2 H2 (E1.trans E2) R2 r2
        · exact q.elim
  · exact q.elim
abbrev IF := Rho → Sto → Option (List Val × (Sto → Prop) × Sto)
structure ItA (K : PySem.W.Frag) (J : It) (m0 : List Addr) (H0 : Hp) (vs : List Val) (ok : Sto → Prop) : Prop where
  step : ∀ (i : Nat) (m : List Addr) (S : Sto) (H : Hp), Ext m0 H0 m H → Rel K m S H → ok S → ∀ v, vs[i]? = some v → J.go i H ∧ ∀ x H', J.yld i H x H' → Rel K m S H' ∧ Ext m H m H' ∧ VR K H' m x v
  stop : ∀ (m : List Addr) (S : Sto) (H : Hp), Ext m0 H0 m H → Rel K m S H → ok S → J.stop vs.length H
def tI (K : PySem.W.Frag) (fi : IF) : TI := fun σ H R => ∃ m ρ S vs ok S', Rel K m S H ∧ RhoR K H m ρ σ ∧ fi ρ S = some (vs, ok, S') ∧ ∀ m' H' J, Ext m H m' H' → Rel K m' S' H' → ItA K J m' H' vs ok → R J H'
abbrev AI (X : Cx) (tg it : Expr) (fi : IF) : Prop := PI X tg it (tI X.K fi)
theorem pi_w {tg it : Expr} {w w' : TI} (h : PI X tg it w) (hi : ∀ σ H R, w' σ H R → w σ H R) : PI X tg it w' := ⟨fun pins s σ H R I hq => h.run pins s σ H R I (hi σ H R hq)⟩
theorem PI.or {tg it : Expr} {w w' : TI} (h : PI X tg it w) (h' : PI X tg it w') : PI X tg it (fun σ H R => w σ H R ∨ w' σ H R) := ⟨fun pins s σ H R I hq => hq.elim (h.run pins s σ H R I) (h'.run pins s σ H R I)⟩
open Classical in
noncomputable def forR (p : Pat) (g : SF) (ok : Sto → Prop) : List Val → SF
  | [] => fun ρ S => if ok S then .nx ρ S else .stuck
  | v :: vs => fun ρ S => if ok S then match p.bind v ρ with
    | none => .stuck
    | some ρ => match g ρ S with
      | .nx ρ S => forR p g ok vs ρ S
      | .ct ρ S => forR p g ok vs ρ S
      | .bk ρ S => .nx ρ S
      | .rt v S => .rt v S
      | .stuck => .stuck
    else .stuck
noncomputable def sFor (p : Pat) (fi : IF) (g : SF) : SF := fun ρ S => match fi ρ S with
  | some (vs, ok, S) => forR p g ok vs ρ S
  | none => .stuck
theorem asf {p : Pat} {tg it : Expr} {fi : IF} (hp : PassesOwn (model X.prog X.w) X.A X.env X.xe) (hc : X.calm = true) (hi : AI X tg it fi) (hg : PG X tg (tG X.K p)) (hb : ASs X sts g)
    (hs : ∀ x, foldedSetIterable it X.env x = pure x := by intro _; rfl) : AS X (.For tg it sts [] pos) (sFor p fi g) := ps_w (ps_for hp hc hi hg hb hs) fun D σ H h => by
  obtain ⟨m, ρ, S, R, r, q⟩ := h
  unfold sFor at q
  split at q
  · next vs ok S1 e1 =>
    refine ⟨m, ρ, S, vs, ok, S1, R, r, e1, fun m0 H0 J E0 R0 it0 => ?_⟩
    refine ⟨fun i k σ H => k + i = vs.length ∧ ∃ m ρ S, Ext m0 H0 m H ∧ Rel X.K m S H ∧ RhoR X.K H m ρ σ ∧ Post X.K m H D (forR p g ok (vs.drop i) ρ S), ⟨vs.length, by omega, m0, ρ, S1, .refl _ _, R0, r.kp (E0.kp R), q.ext E0⟩, ?_⟩
    rintro i k σ H ⟨hk, m, ρ, S, E, R, r, q⟩
    by_cases hlt : i < vs.length
    · rw [List.drop_eq_getElem_cons hlt] at q
      unfold forR at q
      split at q
      · next hok =>
        split at q
        · exact q.elim
        · next ρ1 e2 =>
          obtain ⟨go, yl⟩ := it0.step i m S H E R hok vs[i] (List.getElem?_eq_getElem hlt)
          refine .inr ⟨go, fun σ H => ∃ m ρ S, Ext m0 H0 m H ∧ Rel X.K m S H ∧ RhoR X.K H m ρ σ ∧ Post X.K m H D (forR p g ok (vs.drop (i + 1)) ρ S), fun σ' H' h => ⟨k - 1, by omega, by omega, h⟩, fun x H' hy => ?_⟩
          obtain ⟨R', E', rx⟩ := yl x H' hy
          refine ⟨m, S, ρ, _, ρ1, R', r.kp (E'.kp R), rx, e2, fun σ1 r1 _ => ⟨m, ρ1, S, R', r1, ?_⟩⟩
          have EE := E.trans E'
          split at q
          · next ρ2 S2 e3 =>
            rw [e3]
            exact fun m2 σ2 H2 E2 R2 r2 => ⟨m2, ρ2, S2, EE.trans E2, R2, r2, q.ext (E'.trans E2)⟩
          · next ρ2 S2 e3 =>
            rw [e3]
            exact fun m2 σ2 H2 E2 R2 r2 => ⟨m2, ρ2, S2, EE.trans E2, R2, r2, q.ext (E'.trans E2)⟩
          · next ρ2 S2 e3 =>
            rw [e3]
            exact fun m2 σ2 H2 E2 R2 r2 => q m2 σ2 H2 (E'.trans E2) R2 r2
          · next v2 S2 e3 =>
            rw [e3]
            exact fun m2 σ2 H2 E2 R2 r2 => q m2 σ2 H2 (E'.trans E2) R2 r2
          · exact q.elim
      · exact q.elim
    · have e : i = vs.length := by omega
      subst e
      rw [List.drop_length] at q
      unfold forR at q
      split at q
      · next hok => exact .inl ⟨it0.stop m S H E R hok, q m σ H (.refl _ _) R r⟩
      · exact q.elim
  · exact q.elim
def wipeR (ρ : Rho) : List Nat → Rho
  | [] => ρ
  | v :: vs => (wipeR ρ vs).set v none
theorem RhoR.wipe {H : Hp} {m : List Addr} {ρ : Rho} {σ : L2.St} (r : RhoR K H m ρ σ) : ∀ vs : List Nat, RhoR K H m (wipeR ρ vs) (L2.wipe σ vs)
  | [] => r
  | v :: vs => (r.wipe vs).unset v none
def bYes : BF := fun _ S => some (true, S)
theorem ats0 : PTs X [] (tFb X.K bYes) := ⟨fun pins s σ H Q I h => pts_nil.run pins s σ H Q I (by
  obtain ⟨m, ρ, S, v, S', R, r, e, q⟩ := h
  cases e
  exact q m H (.refl _ _) R)⟩
open Classical in
noncomputable def lcR (p : Pat) (t : BF) (f : EF) (ok : Sto → Prop) (ρ : Rho) : List Val → List Val → Sto → Option (List Val × Sto)
  | [], acc, S => if ok S then some (acc, S) else none
  | v :: vs, acc, S => if ok S then (p.bind v ρ).bind fun ρ1 => (t ρ1 S).bind fun b => if b.1 then (f ρ1 b.2).bind fun y => if acc.length < 1000000 then lcR p t f ok ρ vs (acc ++ [y.1]) y.2 else none else lcR p t f ok ρ vs acc b.2 else none
noncomputable def eLc (p : Pat) (fi : IF) (t : BF) (f : EF) (own : List Nat) : EF := fun ρ S => (fi ρ S).bind fun z => (lcR p t f z.2.1 (wipeR ρ own) z.1 [] z.2.2).bind fun y => some (.ref y.2.length, y.2 ++ [.lst y.1])
theorem eLc_ok {p : Pat} {fi : IF} {t : BF} {own : List Nat} (hp : ∀ i ∈ p.slots, i ∈ own) {σ : L2.St} {H : Hp} {Q : VK} (h : tF K (eLc p fi t f own) σ H Q) : tLc (tI K fi) (tG K p) (tFb K t) (tF K f) own σ H Q := by
  obtain ⟨m, ρ, S, v, S', R, r, e, q⟩ := h
  obtain ⟨⟨vs, ok, S1⟩, e1, e⟩ := Option.bind_eq_some_iff.mp e
  obtain ⟨⟨ys, S2⟩, e2, e⟩ := Option.bind_eq_some_iff.mp e
  cases e
  refine ⟨m, ρ, S, vs, ok, S1, R, r, e1, fun m0 H0 J E0 R0 it0 D hD => ?_⟩
  dsimp only at e2 q
  refine ⟨fun i k H => k + i = vs.length ∧ ∃ m S acc xs, Ext m0 H0 m H ∧ Rel K m S H ∧ D ∉ m ∧ H D = some (.lst xs) ∧ VRs K H m xs acc ∧ lcR p t f ok (wipeR ρ own) (vs.drop i) acc S = some (ys, S2), ?_, ?_⟩
  · obtain ⟨R1, E1⟩ := R0.tmp (o := .lst []) hD
    exact ⟨vs.length, by omega, m0, S1, [], [], E1, R1, R0.noNone hD, upd_same, .nil, e2⟩
  · rintro i k H ⟨hk, m, S, acc, xs, E, R, nD, hDx, rx, el⟩
    by_cases hlt : i < vs.length
    · rw [List.drop_eq_getElem_cons hlt] at el
      unfold lcR at el
      split at el
      · next hok =>
        obtain ⟨ρ1, b1, el⟩ := Option.bind_eq_some_iff.mp el
        obtain ⟨⟨bb, S3⟩, b2, el⟩ := Option.bind_eq_some_iff.mp el
        dsimp only at el
        obtain ⟨go, yl⟩ := it0.step i m S H E R hok vs[i] (List.getElem?_eq_getElem hlt)
        refine .inr ⟨go, fun H => ∃ m S acc xs, Ext m0 H0 m H ∧ Rel K m S H ∧ D ∉ m ∧ H D = some (.lst xs) ∧ VRs K H m xs acc ∧ lcR p t f ok (wipeR ρ own) (vs.drop (i + 1)) acc S = some (ys, S2), fun H' h => ⟨k - 1, by omega, by omega, h⟩, fun x H' hy => ?_⟩
        obtain ⟨R', E', rx'⟩ := yl x H' hy
        have rr : RhoR K H' m (wipeR ρ own) (L2.wipe σ own) := (r.wipe own).kp ((((E0.kp (by assumption)).trans (E.kp R0))).trans (E'.kp R))
        refine ⟨m, S, wipeR ρ own, vs[i], ρ1, R', rr, rx', b1, fun σ1 r1 w1 => ⟨?_, m, ρ1, S, bb, S3, R', r1, b2, fun m3 H3 E3 R3 => ?_⟩⟩
        · have := w1 own hp
          rw [this]
          have idem : ∀ (σ : L2.St) (vs ws : List Nat), (∀ i ∈ vs, i ∈ ws) → L2.wipe (L2.wipe σ vs) ws = L2.wipe σ ws := by
            intro σ vs ws
            induction vs with
            | nil => intro _; rfl
            | cons v vs ih =>
              intro h
              have e : L2.wipe σ (v :: vs) = (L2.wipe σ vs).set v none := rfl
              rw [e, wipe_set _ _ (h v (by simp)), ih fun i hi => h i (by simp [hi])]
          exact idem σ own own fun i hi => hi
        · have nD3 : D ∉ m3 := E3.no (E'.fr D _ hDx nD) nD
          have hD3 : H3 D = some (.lst xs) := E3.fr D _ (E'.fr D _ hDx nD) nD
          have k3 := (E'.kp R).trans (E3.kp R')
          cases bb with
          | true =>
            rw [if_pos rfl] at el
            refine iteT ?_
            obtain ⟨⟨y, S4⟩, b3, el⟩ := Option.bind_eq_some_iff.mp el
            dsimp only at el
            split at el
            · next hlen =>
              refine ⟨m3, ρ1, S3, y, S4, R3, r1.kp (E3.kp R'), b3, fun m4 u H4 E4 R4 r4 => ?_⟩
              have nD4 : D ∉ m4 := E4.no hD3 nD3
              have hD4 : H4 D = some (.lst xs) := E4.fr D _ hD3 nD3
              have rx4 := rx.kp (k3.trans (E4.kp R3))
              refine ⟨xs, hD4, by rw [rx.len]; exact Nat.lt_of_lt_of_le hlen (by decide), ?_⟩
              have kD : Kp m4 H4 m4 (upd H4 D (.lst (xs ++ [u]))) := .at_ fun u' e => by rw [hD4] at e; cases e; exact .inl ⟨_, rfl⟩
              have EE := ((E.trans E').trans E3).trans E4
              refine ⟨m4, S4, acc ++ [y], xs ++ [u], ⟨EE.pre, fun a o h n t => ?_, EE.nw'⟩, R4.off kD (fun a ha => upd_ne fun z => nD4 (z ▸ ha)) (fun P ps h => tbl_at hD4 (fun _ z => by cases z) h), nD4, upd_same, (rx4.kp kD).app (r4.kp kD).one, el⟩
              rw [upd_ne (ne_of_none h hD)]
              exact EE.fr' a o h n t
            · cases el
          | false =>
            rw [if_neg Bool.false_ne_true] at el
            refine iteF ?_
            exact ⟨m3, S3, acc, xs, (E.trans E').trans E3, R3, nD3, hD3, rx.kp k3, el⟩
      · cases el
    · have e : i = vs.length := by omega
      subst e
      rw [List.drop_length] at el
      unfold lcR at el
      split at el
      · next hok =>
        cases el
        refine .inl ⟨it0.stop m _ H E R hok, ?_⟩
        have E1 : Ext m0 H0 (m ++ [D]) H := by
          obtain ⟨r', hr'⟩ := E.pre
          refine ⟨⟨r' ++ [D], by rw [hr', List.append_assoc]⟩, E.fr', fun a o ha n ho => ?_⟩
          rcases List.mem_append.mp ha with z | z
          · exact E.nw' a o z n ho
          · simp only [List.mem_singleton] at z
            rw [z, hD] at ho
            cases ho
        have kk : Kp m H (m ++ [D]) H := .grow [D] (.refl _ _)
        have R1 : Rel K (m ++ [D]) (S2 ++ [.lst ys]) H := by
          refine ⟨by simp [R.len], ?_, fun n o' a h1 h2 => ?_, R.tb⟩
          · rw [List.nodup_append]
            refine ⟨R.nd, by simp, fun a ha b hb z => ?_⟩
            simp only [List.mem_singleton] at hb
            exact nD (hb ▸ z ▸ ha)
          · by_cases hn : n < S2.length
            · rw [List.getElem?_append_left hn] at h1
              rw [List.getElem?_append_left (by rw [R.len]; exact hn)] at h2
              exact (R.ob n o' a h1 h2).kp kk rfl
            · have e : n = S2.length := by
                have := (List.getElem?_eq_some_iff.mp h1).1
                simp only [List.length_append, List.length_singleton] at this
                omega
              subst e
              rw [List.getElem?_concat_length] at h1
              rw [← R.len, List.getElem?_concat_length] at h2
              cases h1
              cases h2
              exact ⟨xs, hDx, rx.kp kk⟩
        refine q (m ++ [D]) (.ref D) H (E0.trans E1) R1 (.ref ?_)
        rw [← R.len, List.getElem?_concat_length]
      · cases el
theorem alc {elt tg it : Expr} {ifs : List Expr} {scope : Scope} {own : List (Str × Nat)} {p : Pat} {fi : IF} {t : BF} (hc : X.calm = true) (hN : X.N.Nodup) (hi : AI X tg it fi) (ok : BlkOk X.N X.env.scope scope own) (hp : ∀ i ∈ p.slots, i ∈ own.map (·.2))
    (hg : ∀ (s : Shared) (H : Hp) (C : Addr) (cl : List (Str × Addr)) (fp : List Addr), PG (X.blk s H scope (compEnvC scope cl C X.env) fp) tg (tG X.K p)) (ht : ∀ (s : Shared) (H : Hp) (C : Addr) (cl : List (Str × Addr)) (fp : List Addr), PTs (X.blk s H scope (compEnvC scope cl C X.env) fp) ifs (tFb X.K t))
    (he : ∀ (s : Shared) (H : Hp) (C : Addr) (cl : List (Str × Addr)) (fp : List Addr), AE (X.blk s H scope (compEnvC scope cl C X.env) fp) elt f) (hs : ∀ x, foldedSetIterable it X.env x = pure x := by intro _; rfl) :
    AE X (.ListComp elt [⟨tg, it, ifs, 0⟩] scope pos) (eLc p fi t f (own.map (·.2))) := pe_w (pe_lc hc hN hi ok hg ht he hs) fun _ _ _ h => eLc_ok hp h

theorem aslc {i : Nat} {y : Str} {py spos : Pos} {elt tg it : Expr} {ifs : List Expr} {scope : Scope} {own : List (Str × Nat)} {p : Pat} {fi : IF} {t : BF} (hc : X.calm = true) (hN : X.N.Nodup) (hy : X.N[i]? = some y) (hyl : X.env.scope.names.lookup y = some .local)
    (hsw : swapsWith (.ListComp elt [⟨tg, it, ifs, 0⟩] scope pos) (some (.Name y py)) spos.line X.env = pure true) (hi : AI X tg it fi) (ok : BlkOk X.N X.env.scope scope own) (hp : ∀ i ∈ p.slots, i ∈ own.map (·.2))
    (hg : ∀ (s : Shared) (H : Hp) (C : Addr) (cl : List (Str × Addr)) (fp : List Addr), PG (X.blk s H scope (compEnvC scope cl C X.env) fp) tg (tG X.K p)) (ht : ∀ (s : Shared) (H : Hp) (C : Addr) (cl : List (Str × Addr)) (fp : List Addr), PTs (X.blk s H scope (compEnvC scope cl C X.env) fp) ifs (tFb X.K t))
    (he : ∀ (s : Shared) (H : Hp) (C : Addr) (cl : List (Str × Addr)) (fp : List Addr), AE (X.blk s H scope (compEnvC scope cl C X.env) fp) elt f) (hs : ∀ x, foldedSetIterable it X.env x = pure x := by intro _; rfl) :
    AS X (.Assign [.Name y py] (.ListComp elt [⟨tg, it, ifs, 0⟩] scope pos) spos) (sAsg (.nm i) (eLc p fi t f (own.map (·.2)))) := ps_w (ps_setLc (i := i) hc hN hy hyl hsw hi ok hg ht he hs) fun D σ H h => by
  obtain ⟨m, ρ, S, R, r, q⟩ := h
  unfold sAsg at q
  split at q
  · next v S1 e1 =>
    simp only [Pat.bind] at q
    exact eLc_ok hp ⟨m, ρ, S, v, S1, R, r, e1, fun m1 u H1 E1 R1 r1 => q m1 _ H1 E1 R1 ((r.kp (E1.kp R)).set r1 i)⟩
  · exact q.elim
end
def runF (n : Nat) (g : SF) : FA := fun vs S => match g (vs.map some ++ List.replicate (n - vs.length) none) S with
  | .rt v S => some (v, S)
  | .nx _ S => some (.non, S)
  | _ => none
end AL
namespace AL
open PySem PySem.Spec PyProof.Rows L2 G
variable [TT]
theorem rho_start {K : PySem.W.Frag} {H : Hp} {m : List Addr} (N : List Str) {us : List V} {vs : List Val} (r : VRs K H m us vs) : RhoR K H m (vs.map some ++ List.replicate (N.length - vs.length) none) (L2.start N us) := by
  have l := r.len
  refine ⟨by simp [L2.start, l], fun i v h => ?_⟩
  by_cases hi : i < vs.length
  · rw [List.getElem?_append_left (by simpa using hi), List.getElem?_map] at h
    obtain ⟨w, h1, h2⟩ := Option.map_eq_some_iff.mp h
    cases h2
    obtain ⟨u, h3, h4⟩ := r.get h1
    refine ⟨u, ?_, h4⟩
    unfold L2.start
    rw [List.getElem?_append_left (by simpa [l] using hi), List.getElem?_map, h3]
    rfl
  · rw [List.getElem?_append_right (by simpa using Nat.le_of_not_lt hi), List.getElem?_replicate] at h
    split at h <;> cases h

theorem fn_a {P : Program} {w : World} {K : PySem.W.Frag} {mg : Str → Option Value} {base : Heap} {x qual : Str} {st : Stmt} {f : Addr} {fd : FuncData} {N ps : List Str} {k : Nat} {g : SF}
    (F : Fun K x qual st f fd) (S : FnScope N ps (defScope st)) (hb : Binds K fd ps []) (hm : mg x = some (.ref f))
    (body : ∀ (cdv : Value) (A : Around) (outer : List Env) (s : Shared) (H : Hp) (E : XK), A.guards = some [] →
      Room k (A.deeper (envOfC qual (defScope st) s.heap.objs.size f cdv)) → ASs (cxOf CX0 P w K mg base N qual (defScope st) f cdv A outer s H E).nox (defBody st) g) {n : Nat} (hn : N.length = n := by rfl) :
    Def P w K mg base (k + 1) x ps (runF n g) := by
  subst hn
  refine ⟨f, fd, fn_g F S (fun vs H Q E h => h.1) (fun cdv A outer s H us Q E hg hr h => ⟨_, body cdv A outer s H E hg hr, ?_⟩), hb, hm, F.kp⟩
  obtain ⟨hl, m, S0, vs, v, S', R, r, e, q⟩ := h
  refine ⟨m, _, S0, R, rho_start N r, ?_⟩
  unfold runF at e
  split at e
  · next v' S1 e1 =>
    cases e
    rw [e1]
    exact q
  · next v' S1 e1 =>
    cases e
    rw [e1]
    exact fun m' σ' H' E' R' r' => q m' .non H' E' R' .non
  · cases e
section
variable {X : Cx} {K : PySem.W.Frag}
def gI (g : Int → Int → Val) : Val → Val → Sto → Option (Val × Sto) := fun x y S => match x, y with
  | .int a, .int b => some (g a b, S)
  | _, _ => none
theorem oI {gv : Int → Int → V} {g : Int → Int → Val} (h : ∀ H m a b, VR K H m (gv a b) (g a b)) : OpA K (rI0 gv) (gI g) := by
  intro m S H x y v S' u w Q R ru rw_ e q
  cases x <;> cases y <;> simp only [gI] at e <;> try cases e
  cases ru
  cases rw_
  exact ⟨_, _, rfl, rfl, q m _ H (.refl _ _) R (h H m _ _)⟩
open Classical in
noncomputable def gIc (C : Int → Int → Prop) (g : Int → Int → Val) : Val → Val → Sto → Option (Val × Sto) := fun x y S => match x, y with
  | .int a, .int b => if C a b then some (g a b, S) else none
  | _, _ => none
theorem oIc {C : Int → Int → Prop} {gv : Int → Int → V} {g : Int → Int → Val} (h : ∀ H m a b, VR K H m (gv a b) (g a b)) : OpA K (rI C gv) (gIc C g) := by
  intro m S H x y v S' u w Q R ru rw_ e q
  cases x <;> cases y <;> simp only [gIc] at e <;> try cases e
  cases ru
  cases rw_
  split at e
  · next hc =>
    cases e
    exact ⟨_, _, rfl, rfl, hc, q m _ H (.refl _ _) R (h H m _ _)⟩
  · cases e
abbrev gSub := gI fun a b => .int (a - b)
noncomputable abbrev gMul := gIc CMulW fun a b => .int (a * b)
noncomputable abbrev gDiv := gIc CDivW fun a b => .int (a / b)
noncomputable abbrev gMod := gIc (fun _ b => b ≠ 0) fun a b => .int (a.fmod b)
noncomputable abbrev gPow := gIc CPow fun a b => .int (a ^ b.toNat)
abbrev gLt := gI fun a b => .bl (decide (a < b))
abbrev gLe := gI fun a b => .bl (decide (a ≤ b))
abbrev gGt := gI fun a b => .bl (decide (b < a))
abbrev gGe := gI fun a b => .bl (decide (b ≤ a))
theorem oMul : OpA K (rI CMulW fun i j => .int (i * j)) gMul := oIc fun _ _ _ _ => .int _
theorem oDiv : OpA K (rI CDivW fun i j => .int (i / j)) gDiv := oIc fun _ _ _ _ => .int _
theorem oMod : OpA K (rI (fun _ j => j ≠ 0) fun i j => .int (i.fmod j)) gMod := oIc fun _ _ _ _ => .int _
theorem oPow : OpA K (rI CPow fun i j => .int (i ^ j.toNat)) gPow := oIc fun _ _ _ _ => .int _
theorem oLt : OpA K (rI0 fun i j => .bl (decide (i < j))) gLt := oI fun _ _ _ _ => .bl _
theorem oLe : OpA K (rI0 fun i j => .bl (decide (i ≤ j))) gLe := oI fun _ _ _ _ => .bl _
theorem oGt : OpA K (rI0 fun i j => .bl (decide (j < i))) gGt := oI fun _ _ _ _ => .bl _
theorem oGe : OpA K (rI0 fun i j => .bl (decide (j ≤ i))) gGe := oI fun _ _ _ _ => .bl _
def gNeg : Val → Sto → Option (Val × Sto) := fun x S => match x with
  | .int a => some (.int (-a), S)
  | _ => none
theorem oNeg : UnA K (rU fun i => .int (-i)) gNeg := by
  intro m S H x v S' u Q R ru e q
  cases x <;> simp only [gNeg] at e <;> try cases e
  cases ru
  exact ⟨_, rfl, q m _ H (.refl _ _) R (.int _)⟩
def gAdd : Val → Val → Sto → Option (Val × Sto) := fun x y S => match x, y with
  | .int a, .int b => some (.int (a + b), S)
  | .str a, .str b => if a.length + b.length ≤ sizeLine then some (.str (a ++ b), S) else none
  | .tup (a :: as), .tup b => if as.length + 1 + b.length ≤ sizeLine then some (.tup (a :: as ++ b), S) else none
  | .ref i, .ref j => match S[i]?, S[j]? with
    | some (.lst a), some (.lst b) => if a.length + b.length ≤ sizeLine then some (.ref S.length, S ++ [.lst (a ++ b)]) else none
    | _, _ => none
  | _, _ => none
def rAddA (K : PySem.W.Frag) : R2 := fun x y H Q => (rI0 (fun i j => .int (i + j))) x y H Q ∨ ((∃ i j, x = .str i ∧ y = .str j ∧ i.length + j.length ≤ sizeLine ∧ Q (.str (i ++ j)) H) ∨ (rCatT K x y H Q ∨ rCat x y H Q))
theorem op_addA : OpR X (binaryOp .Add) (rAddA X.K) := op_add.or (op_add_str.or (op_catT.or op_cat))
theorem oAdd : OpA K (rAddA K) gAdd := by
  intro m S H x y v S' u w Q R ru rw_ e q
  unfold gAdd at e
  split at e
  · cases e
    cases ru
    cases rw_
    exact .inl ⟨_, _, rfl, rfl, q m _ H (.refl _ _) R (.int _)⟩
  · split at e
    · next h =>
      cases e
      cases ru
      cases rw_
      exact .inr (.inl ⟨_, _, rfl, rfl, h, q m _ H (.refl _ _) R (.str _)⟩)
    · cases e
  · next a as b =>
    split at e
    · next h =>
      cases e
      cases ru with
      | tup ha ra =>
        rename_i ad xs
        cases rw_ with
        | tup hb rb =>
          rename_i bd ys
          have l1 := ra.len
          have l2 := rb.len
          rw [List.length_cons] at l1
          refine .inr (.inr (.inl ⟨ad, bd, xs, ys, rfl, rfl, ha.sq, hb.sq, ?_, by omega, fun z => ?_, fun z p hp => ?_⟩))
          · intro z
            rw [z] at l1
            simp at l1
          · subst z
            have : b = [] := by
              cases b with
              | nil => rfl
              | cons _ _ => simp at l2
            subst this
            rw [List.append_nil] at q
            exact q m _ H (.refl _ _) R (.tup ha ra)
          · obtain ⟨R2, E2⟩ := R.tmp (o := .tup (xs ++ ys)) hp
            exact q m _ _ E2 R2 (.tup (.inl upd_same) ((ra.app rb).kp (E2.kp R)))
    · cases e
  · next i j =>
    split at e
    · next a b ea eb =>
      split at e
      · next h =>
        cases e
        cases ru with
        | ref ha =>
          cases rw_ with
          | ref hb =>
            obtain ⟨xs, hx, rx⟩ := R.ob _ _ _ ea ha
            obtain ⟨ys, hy, ry⟩ := R.ob _ _ _ eb hb
            refine .inr (.inr (.inr ⟨_, _, xs, ys, rfl, rfl, hx, hy, by rw [rx.len, ry.len]; exact h, fun p hp => ?_⟩))
            have k1 : Kp m H (m ++ [p]) (upd H p (.lst (xs ++ ys))) := .grow [p] (.new hp)
            obtain ⟨R2, E2⟩ := R.alloc (o := .lst (xs ++ ys)) (b := .lst (a ++ b)) hp ⟨_, upd_same, (rx.app ry).kp k1⟩
            refine q _ _ _ E2 R2 (.ref ?_)
            rw [← R.len, List.getElem?_concat_length]
      · cases e
    · cases e
  · cases e
theorem newList {m : List Addr} {S : Sto} {H : Hp} {xs : List V} {vs : List Val} (R : Rel K m S H) (r : VRs K H m xs vs) {Q : VK} (q : ∀ m' z H', Ext m H m' H' → Rel K m' (S ++ [.lst vs]) H' → VR K H' m' z (.ref S.length) → Q z H') : ∀ p, H p = none → Q (.ref p) (upd H p (.lst xs)) := fun p hp => by
  have k1 : Kp m H (m ++ [p]) (upd H p (.lst xs)) := .grow [p] (.new hp)
  obtain ⟨R2, E2⟩ := R.alloc (o := .lst xs) (b := .lst vs) hp ⟨_, upd_same, r.kp k1⟩
  refine q _ _ _ E2 R2 (.ref ?_)
  rw [← R.len, List.getElem?_concat_length]
theorem newTup {m : List Addr} {S : Sto} {H : Hp} {xs : List V} {vs : List Val} (R : Rel K m S H) (r : VRs K H m xs vs) {Q : VK} (q : ∀ m' z H', Ext m H m' H' → Rel K m' S H' → VR K H' m' z (.tup vs) → Q z H') : ∀ p, H p = none → Q (.ref p) (upd H p (.tup xs)) := fun p hp => by
  obtain ⟨R2, E2⟩ := R.tmp (o := .tup xs) hp
  exact q m _ _ E2 R2 (.tup (.inl upd_same) (r.kp (E2.kp R)))
theorem VRs.atI {H : Hp} {m : List Addr} {us : List V} {vs : List Val} (r : VRs K H m us vs) {i : Int} {v : Val} (h : L2.atI vs i = some v) : ∃ u, L2.atI us i = some u ∧ VR K H m u v := by
  unfold L2.atI at h ⊢
  rw [r.len]
  cases e : ixN vs.length i with
  | none => rw [e] at h; cases h
  | some j =>
    rw [e] at h
    exact r.get h
def gIx : Val → Val → Sto → Option (Val × Sto) := fun x y S => match x, y with
  | .tup vs, .int i => (atI vs i).map fun v => (v, S)
  | .ref n, .int i => match S[n]? with
    | some (.lst vs) => (atI vs i).map fun v => (v, S)
    | _ => none
  | .str z, .int i => if z.length ≤ sizeLine then (atI z.cps.toList i).map fun c => (.str ⟨#[c]⟩, S) else none
  | _, _ => none
theorem oIx : OpA K (rIx K) gIx := by
  intro m S H x y v S' u w Q R ru rw_ e q
  unfold gIx at e
  split at e
  · obtain ⟨v', e1, e2⟩ := Option.map_eq_some_iff.mp e
    cases e2
    cases rw_
    cases ru with
    | tup ha ra =>
      obtain ⟨z, h1, h2⟩ := ra.atI e1
      exact .inr (.inl ⟨_, _, _, z, rfl, rfl, ha.sq, h1, q m z H (.refl _ _) R h2⟩)
  · split at e
    · next vs en =>
      obtain ⟨v', e1, e2⟩ := Option.map_eq_some_iff.mp e
      cases e2
      cases rw_
      cases ru with
      | ref ha =>
        obtain ⟨xs, hx, rx⟩ := R.ob _ _ _ en ha
        obtain ⟨z, h1, h2⟩ := rx.atI e1
        exact .inl ⟨_, _, _, z, rfl, rfl, SqL.of hx, h1, q m z H (.refl _ _) R h2⟩
    · cases e
  · split at e
    · next hl =>
      obtain ⟨v', e1, e2⟩ := Option.map_eq_some_iff.mp e
      cases e2
      cases rw_
      cases ru
      exact .inr (.inr ⟨_, _, _, rfl, rfl, hl, e1, q m _ H (.refl _ _) R (.str _)⟩)
    · cases e
  · cases e
def cutL {α : Type} (xs : List α) (lo hi : Option Int) : List α := (xs.drop (HT.sIx xs.length 0 lo)).take (HT.sIx xs.length xs.length hi - HT.sIx xs.length 0 lo)
theorem VRs.cut {H : Hp} {m : List Addr} {us : List V} {vs : List Val} (r : VRs K H m us vs) (lo hi : Option Int) : VRs K H m (cutV us lo hi) (cutL vs lo hi) := by
  unfold cutV cutL
  rw [r.len]
  exact (r.drop _).take _
open Classical in
noncomputable def gSl : Val → Option Int → Option Int → Sto → Option (Val × Sto) := fun x lo hi S => match x with
  | .tup vs => if ¬ (HT.sIx vs.length 0 lo = 0 ∧ HT.sIx vs.length vs.length hi = vs.length) then some (.tup (cutL vs lo hi), S) else none
  | .ref n => match S[n]? with
    | some (.lst vs) => some (.ref S.length, S ++ [.lst (cutL vs lo hi)])
    | _ => none
  | .scr ns => some (.ref S.length, S ++ [.lst (cutL (ns.map Val.int) lo hi)])
  | _ => none
theorem vrs_ints {H : Hp} {m : List Addr} : ∀ ns : List Int, VRs K H m (ns.map V.int) (ns.map Val.int)
  | [] => .nil
  | n :: ns => .cons (.int n) (vrs_ints ns)
theorem vrs_strs {H : Hp} {m : List Addr} : ∀ ns : List Str, VRs K H m (ns.map V.str) (ns.map Val.str)
  | [] => .nil
  | n :: ns => .cons (.str n) (vrs_strs ns)
def rSlA (K : PySem.W.Frag) : V → Option Int → Option Int → Hp → VK → Prop := fun x lo hi H Q => rSlT K x lo hi H Q ∨ rSlL K x lo hi H Q
theorem sl_A : SlR X (rSlA X.K) := sl_tup.or sl_list
theorem oSl : SlA K (rSlA K) gSl := by
  intro m S H x lo hi v S' u Q R ru e q
  unfold gSl at e
  split at e
  · split at e
    · next hn =>
      cases e
      cases ru with
      | tup ha ra =>
        refine .inl ⟨_, _, rfl, ha.sq, by rw [ra.len]; exact hn, newTup R (ra.cut lo hi) q⟩
    · cases e
  · split at e
    · next vs en =>
      cases e
      cases ru with
      | ref ha =>
        obtain ⟨xs, hx, rx⟩ := R.ob _ _ _ en ha
        exact .inr ⟨_, _, rfl, SqL.of hx, newList R (rx.cut lo hi) q⟩
    · cases e
  · cases e
    cases ru with
    | scr ha => exact .inr ⟨_, _, rfl, ha.sq, newList R ((vrs_ints _).cut lo hi) q⟩
  · cases e
def gLen : List Val → Sto → Option (Val × Sto) := fun xs S => match xs with
  | [.tup vs] => some (.int vs.length, S)
  | [.ref n] => match S[n]? with
    | some (.lst vs) => some (.int vs.length, S)
    | some (.dic kvs) => some (.int kvs.length, S)
    | _ => none
  | [.str z] => if z.length ≤ sizeLine then some (.int z.length, S) else none
  | _ => none
def rLenA (K : PySem.W.Frag) : List V → Hp → VK → Prop := fun xs H Q => (∃ p ys, xs = [.ref p] ∧ (SqL K H p ys ∨ SqT K H p ys) ∧ Q (.int ys.length) H) ∨ ((∃ z, xs = [.str z] ∧ z.length ≤ sizeLine ∧ Q (.int z.length) H) ∨ (∃ d kvs, xs = [.ref d] ∧ H d = some (.dK kvs) ∧ Q (.int (kvs.length : Nat)) H))
theorem VRs.one_of {H : Hp} {m : List Addr} {us : List V} {v : Val} (r : VRs K H m us [v]) : ∃ u, us = [u] ∧ VR K H m u v := by
  cases r with
  | cons a b =>
    cases b
    exact ⟨_, rfl, a⟩
theorem cLen : CaA K (rLenA K) gLen := by
  intro m S H xs v S' us Q R ru e q
  unfold gLen at e
  split at e
  · cases e
    obtain ⟨u, rfl, r1⟩ := ru.one_of
    cases r1 with
    | tup ha ra => exact .inl ⟨_, _, rfl, .inr ha.sq, by rw [ra.len]; exact q m _ H (.refl _ _) R (.int _)⟩
  · split at e
    · next vs en =>
      cases e
      obtain ⟨u, rfl, r1⟩ := ru.one_of
      cases r1 with
      | ref ha =>
        obtain ⟨xs, hx, rx⟩ := R.ob _ _ _ en ha
        exact .inl ⟨_, _, rfl, .inl (SqL.of hx), by rw [rx.len]; exact q m _ H (.refl _ _) R (.int _)⟩
    · next kvs en =>
      cases e
      obtain ⟨u, rfl, r1⟩ := ru.one_of
      cases r1 with
      | ref ha =>
        obtain ⟨xs, hx, he, rx⟩ := R.ob _ _ _ en ha
        have l : xs.length = kvs.length := by simpa using congrArg List.length he
        exact .inr (.inr ⟨_, _, rfl, hx, by rw [l]; exact q m _ H (.refl _ _) R (.int _)⟩)
    · cases e
  · split at e
    · next hl =>
      cases e
      obtain ⟨u, rfl, r1⟩ := ru.one_of
      cases r1
      exact .inr (.inl ⟨_, rfl, hl, q m _ H (.refl _ _) R (.int _)⟩)
    · cases e
  · cases e
theorem call_lenA : CallR X (.builtin "len") (rLenA X.K) := CallR.or call_len_seq (CallR.or call_len_str call_lenD)
def gAbs : List Val → Sto → Option (Val × Sto) := fun xs S => match xs with
  | [.int i] => some (.int (if i < 0 then -i else i), S)
  | _ => none
def gTuple : List Val → Sto → Option (Val × Sto) := fun xs S => match xs with
  | [.tup vs] => some (.tup vs, S)
  | [.ref n] => match S[n]? with
    | some (.lst vs) => some (.tup vs, S)
    | _ => none
  | _ => none
theorem cTuple : CaA K (fun xs H Q => ∃ p ys, xs = [.ref p] ∧ ((SqL K H p ys ∧ ∀ l, H l = none → Q (.ref l) (upd H l (.tup ys))) ∨ (SqT K H p ys ∧ Q (.ref p) H))) gTuple := by
  intro m S H xs v S' us Q R ru e q
  unfold gTuple at e
  split at e
  · cases e
    obtain ⟨u, rfl, r1⟩ := ru.one_of
    cases r1 with
    | tup ha ra => exact ⟨_, _, rfl, .inr ⟨ha.sq, q m _ H (.refl _ _) R (.tup ha ra)⟩⟩
  · split at e
    · next vs en =>
      cases e
      obtain ⟨u, rfl, r1⟩ := ru.one_of
      cases r1 with
      | ref ha =>
        obtain ⟨xs, hx, rx⟩ := R.ob _ _ _ en ha
        exact ⟨_, _, rfl, .inl ⟨SqL.of hx, newTup R rx q⟩⟩
    · cases e
  · cases e
def gList : List Val → Sto → Option (Val × Sto) := fun xs S => match xs with
  | [.tup vs] => some (.ref S.length, S ++ [.lst vs])
  | [.ref n] => match S[n]? with
    | some (.lst vs) => some (.ref S.length, S ++ [.lst vs])
    | _ => none
  | _ => none
theorem cList : CaA K (fun xs H Q => ∃ p ys, xs = [.ref p] ∧ (SqL K H p ys ∨ SqT K H p ys) ∧ ∀ l, H l = none → Q (.ref l) (upd H l (.lst ys))) gList := by
  intro m S H xs v S' us Q R ru e q
  unfold gList at e
  split at e
  · cases e
    obtain ⟨u, rfl, r1⟩ := ru.one_of
    cases r1 with
    | tup ha ra => exact ⟨_, _, rfl, .inr ha.sq, newList R ra q⟩
  · split at e
    · next vs en =>
      cases e
      obtain ⟨u, rfl, r1⟩ := ru.one_of
      cases r1 with
      | ref ha =>
        obtain ⟨xs, hx, rx⟩ := R.ob _ _ _ en ha
        exact ⟨_, _, rfl, .inl (SqL.of hx), newList R rx q⟩
    · cases e
  · cases e
def isL : Val → Sto → Bool := fun v S => match v with
  | .ref n => match S[n]? with
    | some (.lst _) => true
    | _ => false
  | _ => false
theorem tyL : TyA K "list" isL := by
  intro m S H u v R r h
  unfold isL at h
  split at h
  · split at h
    · next n _ vs en =>
      cases r with
      | ref ha =>
        obtain ⟨xs, hx, rx⟩ := R.ob _ _ _ en ha
        exact .inl ⟨rfl, xs, SqL.of hx⟩
    · cases h
  · cases h
def gApp : Val → List Val → Sto → Option (Val × Sto) := fun x xs S => match x, xs with
  | .ref n, [v] => match S[n]? with
    | some (.lst vs) => if vs.length < sizeLine then some (.non, S.set n (.lst (vs ++ [v]))) else none
    | _ => none
  | _, _ => none
theorem mApp : MtA K rAppend gApp := by
  intro m S H x xs v S' u us Q R ru rus e q
  unfold gApp at e
  split at e
  · split at e
    · next n v0 _ vs en =>
      split at e
      · next hl =>
        cases e
        cases ru with
        | ref ha =>
          obtain ⟨y, rfl, r1⟩ := rus.one_of
          obtain ⟨xs, hx, rx⟩ := R.ob _ _ _ en ha
          refine ⟨_, xs, y, rfl, rfl, hx, by rw [rx.len]; exact hl, ?_⟩
          have hm := List.mem_of_getElem? ha
          have k : Kp m H m (upd H _ (.lst (xs ++ [y]))) := R.kput hm
          obtain ⟨R2, E2⟩ := R.put (o := .lst (xs ++ [y])) (b := .lst (vs ++ [v0])) ha ⟨_, upd_same, (rx.kp k).app (r1.kp k).one⟩
          exact q m _ _ E2 R2 .non
      · cases e
    · cases e
  · cases e
def gPop : Val → List Val → Sto → Option (Val × Sto) := fun x xs S => match x, xs with
  | .ref n, [.int i] => match S[n]? with
    | some (.lst vs) => if -(2 ^ 63) ≤ i ∧ i < 2 ^ 63 then match seqIndex? i vs.length with
      | some k => match vs[k]? with
        | some y => some (y, S.set n (.lst (vs.eraseIdx k)))
        | none => none
      | none => none
      else none
    | _ => none
  | _, _ => none
theorem VRs.erase {H : Hp} {m : List Addr} : ∀ {us : List V} {vs : List Val} (n : Nat), VRs K H m us vs → VRs K H m (us.eraseIdx n) (vs.eraseIdx n)
  | _, _, _, .nil => .nil
  | _, _, 0, .cons a q => q
  | _, _, n + 1, .cons a q => .cons a (q.erase n)
theorem mPop : MtA K rPopAt gPop := by
  intro m S H x xs v S' u us Q R ru rus e q
  unfold gPop at e
  split at e
  · split at e
    · next n i _ vs en =>
      split at e
      · next hb =>
        split at e
        · next k ek =>
          split at e
          · next y ey =>
            cases e
            cases ru with
            | ref ha =>
              obtain ⟨z, rfl, r1⟩ := rus.one_of
              cases r1
              obtain ⟨xs, hx, rx⟩ := R.ob _ _ _ en ha
              obtain ⟨w, hw, rw_⟩ := rx.get ey
              refine ⟨_, xs, i, k, w, rfl, rfl, hx, hb.1, hb.2, by rw [rx.len]; exact ek, hw, ?_⟩
              have hm := List.mem_of_getElem? ha
              have kk : Kp m H m (upd H _ (.lst (xs.eraseIdx k))) := R.kput hm
              obtain ⟨R2, E2⟩ := R.put (o := .lst (xs.eraseIdx k)) (b := .lst (vs.eraseIdx k)) ha ⟨_, upd_same, (rx.kp kk).erase k⟩
              exact q m _ _ E2 R2 (rw_.kp kk)
          · cases e
        · cases e
      · cases e
    · cases e
  · cases e
def gSet : Val → Val → Val → Sto → Option Sto := fun o i v S => match o, i with
  | .ref n, .int k => match S[n]? with
    | some (.lst vs) => match ixN vs.length k with
      | some j => some (S.set n (.lst (vs.set j v)))
      | none => none
    | _ => none
  | _, _ => none
theorem stL : SetA K rSetL gSet := by
  intro m S H o i v S' uo ui u Q R ro ri rv e q
  unfold gSet at e
  split at e
  · split at e
    · next n k _ vs en =>
      split at e
      · next j ej =>
        cases e
        cases ri
        cases ro with
        | ref ha =>
          obtain ⟨xs, hx, rx⟩ := R.ob _ _ _ en ha
          have hm := List.mem_of_getElem? ha
          have kk : Kp m H m (upd H _ (.lst (xs.set j u))) := R.kput hm
          obtain ⟨R2, E2⟩ := R.put (o := .lst (xs.set j u)) (b := .lst (vs.set j v)) ha ⟨_, upd_same, (rx.kp kk).set (rv.kp kk) j⟩
          exact ⟨_, xs, k, j, rfl, rfl, hx, by rw [rx.len]; exact ej, q _ E2 R2⟩
      · cases e
    · cases e
  · cases e
def isNon : Val → Bool
  | .non => true
  | _ => false
def gIs : Val → Val → Sto → Option (Val × Sto) := fun x y S => match y with
  | .non => some (.bl (isNon x), S)
  | _ => none
def gIsN : Val → Val → Sto → Option (Val × Sto) := fun x y S => match y with
  | .non => some (.bl (!isNon x), S)
  | _ => none
theorem VR.isNon {H : Hp} {m : List Addr} {u : V} {v : Val} (r : VR K H m u v) : decide (u = .non) = AL.isNon v := by
  cases r <;> rfl
theorem oIs : OpA K (fun x y H Q => y = .non ∧ Q (.bl (decide (x = .non))) H) gIs := by
  intro m S H x y v S' u w Q R ru rw_ e q
  cases y <;> simp only [gIs] at e <;> try cases e
  cases rw_
  exact ⟨rfl, by rw [ru.isNon]; exact q m _ H (.refl _ _) R (.bl _)⟩
theorem oIsN : OpA K (fun x y H Q => y = .non ∧ Q (.bl (!decide (x = .non))) H) gIsN := by
  intro m S H x y v S' u w Q R ru rw_ e q
  cases y <;> simp only [gIsN] at e <;> try cases e
  cases rw_
  exact ⟨rfl, by rw [ru.isNon]; exact q m _ H (.refl _ _) R (.bl _)⟩
end
end AL
namespace Th
open PySem PySem.Spec PyProof.Rows L2 G
def But (f : Addr) (H H' : Hp) : Prop := ∀ b o, b ≠ f → H b = some o → H' b = some o
theorem But.trans {f : Addr} {H H' H2 : Hp} (a : But f H H') (b : But f H' H2) : But f H H2 := fun x o n e => b x o n (a x o n e)
theorem But.of {f : Addr} {H H' : Hp} (a : Same H H') : But f H H' := fun x o _ e => a x o e
mutual
inductive Tr (f : Addr) (H : Hp) : V → PyData → Prop
  | non : Tr f H .non .none
  | bl (b : Bool) : Tr f H (.bl b) (.bool b)
  | int (i : Int) : Tr f H (.int i) (.int i)
  | str (x : Str) : Tr f H (.str x) (.str x)
  | lst {a : Addr} {xs : List V} {ds : List PyData} : a ≠ f → H a = some (.lst xs) → TrAll f H xs ds → Tr f H (.ref a) (.list ds)
  | tup {a : Addr} {xs : List V} {ds : List PyData} : a ≠ f → H a = some (.tup xs) → TrAll f H xs ds → Tr f H (.ref a) (.tuple ds)
inductive TrAll (f : Addr) (H : Hp) : List V → List PyData → Prop
  | nil : TrAll f H [] []
  | cons {v : V} {vs : List V} {d : PyData} {ds : List PyData} : Tr f H v d → TrAll f H vs ds → TrAll f H (v :: vs) (d :: ds)
end
section
variable {f : Addr} {H H' : Hp}
mutual
theorem Tr.keep (k : But f H H') : ∀ (d : PyData) (v : V), Tr f H v d → Tr f H' v d
  | .none, _, h => by cases h; exact .non
  | .bool b, _, h => by cases h; exact .bl _
  | .int i, _, h => by cases h; exact .int _
  | .str x, _, h => by cases h; exact .str _
  | .list ds, _, h => by
    cases h with
    | lst n e r => exact .lst n (k _ _ n e) (TrAll.keep k ds _ r)
  | .tuple ds, _, h => by
    cases h with
    | tup n e r => exact .tup n (k _ _ n e) (TrAll.keep k ds _ r)
  | .dict _, _, h => by cases h
theorem TrAll.keep (k : But f H H') : ∀ (ds : List PyData) (vs : List V), TrAll f H vs ds → TrAll f H' vs ds
  | [], _, h => by cases h; exact .nil
  | d :: ds, _, h => by
    cases h with
    | cons a r => exact .cons (Tr.keep k d _ a) (TrAll.keep k ds _ r)
end
theorem Tr.k {v : V} {d : PyData} (h : Tr f H v d) (k : But f H H') : Tr f H' v d := Tr.keep k d v h
theorem TrAll.k {vs : List V} {ds : List PyData} (h : TrAll f H vs ds) (k : But f H H') : TrAll f H' vs ds := TrAll.keep k ds vs h
mutual
theorem Tr.dpA (K : PySem.W.Frag) : ∀ (d : PyData) (v : V), Tr f H v d → Dp K H v d
  | .none, _, h => by cases h; exact .non
  | .bool b, _, h => by cases h; exact .bl _
  | .int i, _, h => by cases h; exact .int _
  | .str x, _, h => by cases h; exact .str _
  | .list ds, _, h => by
    cases h with
    | lst n e r => exact .lst (SqL.of e) (TrAll.dpA K ds _ r)
  | .tuple ds, _, h => by
    cases h with
    | tup n e r => exact .tup (SqT.of e) (TrAll.dpA K ds _ r)
  | .dict _, _, h => by cases h
theorem TrAll.dpA (K : PySem.W.Frag) : ∀ (ds : List PyData) (vs : List V), TrAll f H vs ds → DpAll K H vs ds
  | [], _, h => by cases h; exact .nil
  | d :: ds, _, h => by
    cases h with
    | cons a r => exact .cons (Tr.dpA K d _ a) (TrAll.dpA K ds _ r)
end
theorem Tr.dp {K : PySem.W.Frag} {v : V} {d : PyData} (h : Tr f H v d) : Dp K H v d := Tr.dpA K d v h
theorem TrAll.dp {K : PySem.W.Frag} {vs : List V} {ds : List PyData} (h : TrAll f H vs ds) : DpAll K H vs ds := TrAll.dpA K ds vs h
theorem TrAll.len : ∀ {vs : List V} {ds : List PyData}, TrAll f H vs ds → vs.length = ds.length
  | _, _, .nil => rfl
  | _, _, .cons _ r => by rw [List.length_cons, List.length_cons, r.len]
theorem TrAll.app : ∀ {vs us : List V} {ds es : List PyData}, TrAll f H vs ds → TrAll f H us es → TrAll f H (vs ++ us) (ds ++ es)
  | _, _, _, _, .nil, r => r
  | _, _, _, _, .cons a q, r => .cons a (q.app r)
theorem TrAll.get : ∀ {vs : List V} {ds : List PyData} {i : Nat} {v : V}, TrAll f H vs ds → vs[i]? = some v → ∃ d, ds[i]? = some d ∧ Tr f H v d
  | _, _, _, _, .nil, e => by simp at e
  | _, _, 0, _, .cons a q, e => by
    cases e
    exact ⟨_, rfl, a⟩
  | _, _, i + 1, _, .cons a q, e => q.get (i := i) e
theorem TrAll.take : ∀ {vs : List V} {ds : List PyData} (n : Nat), TrAll f H vs ds → TrAll f H (vs.take n) (ds.take n)
  | _, _, 0, _ => .nil
  | _, _, _ + 1, .nil => .nil
  | _, _, n + 1, .cons a r => .cons a (TrAll.take n r)
theorem TrAll.set : ∀ {vs : List V} {ds : List PyData} {v : V} {d : PyData} (n : Nat), TrAll f H vs ds → Tr f H v d → TrAll f H (vs.set n v) (ds.set n d)
  | _, _, _, _, _, .nil, _ => .nil
  | _, _, _, _, 0, .cons _ r, h => .cons h r
  | _, _, _, _, n + 1, .cons a r, h => .cons a (TrAll.set n r h)
theorem Tr.one {v : V} {d : PyData} (h : Tr f H v d) : TrAll f H [v] [d] := .cons h .nil

def ty : PyData → String
  | .none => "NoneType"
  | .bool _ => "bool"
  | .int _ => "int"
  | .str _ => "str"
  | .list _ => "list"
  | .tuple _ => "tuple"
  | .dict _ => "dict"
end
mutual
def okD : PyData → Bool
  | .none => true
  | .bool _ => true
  | .int i => decide (i.natAbs < 2 ^ 900)
  | .str x => PyData.strOk x
  | .list xs => okAll xs
  | .tuple xs => okAll xs
  | .dict _ => false
def okAll : List PyData → Bool
  | [] => true
  | x :: xs => okD x && okAll xs
end
theorem okAll_iff : ∀ {ds : List PyData}, okAll ds = true ↔ ∀ d ∈ ds, okD d = true
  | [] => by simp [okAll]
  | d :: ds => by
    rw [show okAll (d :: ds) = (okD d && okAll ds) from rfl, Bool.and_eq_true, okAll_iff, List.forall_mem_cons]
mutual
theorem ok_show : ∀ d : PyData, okD d = true → d.showable = true ∧ d.hasDict = false ∧ d.canLay0 = true ∧ d.leavesShort 320 = true
  | .none, _ => ⟨rfl, rfl, rfl, rfl⟩
  | .bool _, _ => ⟨rfl, rfl, rfl, rfl⟩
  | .int i, h => by
    have h : i.natAbs < 2 ^ 900 := of_decide_eq_true h
    have l : i.natAbs.log2 < 900 := PySem.Flt.log2_lt_of (by decide) h
    refine ⟨decide_eq_true (by omega), rfl, rfl, ?_⟩
    have t := int_text_length_le10 (a := i) (k := 300) (by decide) (Nat.lt_trans h (by decide))
    show decide ((PyData.shown (.int i)).length ≤ 320) = true
    have e : (PyData.shown (.int i)).length = (toString i).length := by
      show (Str.ofString (toString i)).length = _
      exact PySem.ofString_length _
    rw [e]
    exact decide_eq_true (by omega)
  | .str x, h => by
    refine ⟨rfl, rfl, h, ?_⟩
    show (x.cps.toList.all fun c => decide (c < 16 ^ 8)) = true
    have h2 : x.cps.all (· < 0x110000) = true := h
    rw [List.all_eq_true]
    intro c hc
    have h3 := (Array.all_eq_true_iff_forall_mem.mp h2) c (by simpa using hc)
    have h4 : c < 0x110000 := of_decide_eq_true h3
    exact decide_eq_true (by omega)
  | .list xs, h => ok_showAll xs h
  | .tuple xs, h => ok_showAll xs h
  | .dict _, h => by cases (h : false = true)
theorem ok_showAll : ∀ ds : List PyData, okAll ds = true → PyData.showableAll ds = true ∧ PyData.hasDictAll ds = false ∧ PyData.canLayAll0 ds = true ∧ PyData.leavesShortAll 320 ds = true
  | [], _ => ⟨rfl, rfl, rfl, rfl⟩
  | d :: ds, h => by
    have h : (okD d && okAll ds) = true := h
    rw [Bool.and_eq_true] at h
    obtain ⟨a1, a2, a3, a4⟩ := ok_show d h.1
    obtain ⟨b1, b2, b3, b4⟩ := ok_showAll ds h.2
    refine ⟨?_, ?_, ?_, ?_⟩
    · show (PyData.showable d && PyData.showableAll ds) = true
      rw [a1, b1]; rfl
    · show (PyData.hasDict d || PyData.hasDictAll ds) = false
      rw [a2, b2]; rfl
    · show (PyData.canLay0 d && PyData.canLayAll0 ds) = true
      rw [a3, b3]; rfl
    · show (PyData.leavesShort 320 d && PyData.leavesShortAll 320 ds) = true
      rw [a4, b4]; rfl
end

structure Fine (w n : Nat) (d : PyData) : Prop where
  ok : okD d = true
  wt : d.weight ≤ w
  dp : d.depth ≤ n
theorem Fine.mono {w n w' n' : Nat} {d : PyData} (h : Fine w n d) (h1 : w ≤ w') (h2 : n ≤ n') : Fine w' n' d := ⟨h.ok, Nat.le_trans h.wt h1, Nat.le_trans h.dp h2⟩
theorem Fine.shown {w n : Nat} {d : PyData} (h : Fine w n d) (hw : w ≤ 40000) : d.shown.length ≤ sizeLine := by
  have z := PyData.shown_le 320 (by decide) d (ok_show d h.ok).2.2.2
  have e : sizeLine = 16777216 := rfl
  have := h.wt
  omega
theorem Fine.shaped {w n : Nat} {d : PyData} (h : Fine w n d) (hn : n ≤ 64) : SeqAt.shaped d = true := by
  show (d.canLay0 && decide (d.depth ≤ 64)) = true
  rw [Bool.and_eq_true]
  exact ⟨(ok_show d h.ok).2.2.1, decide_eq_true (Nat.le_trans h.dp hn)⟩
end Th
namespace ET
open PySem PySem.Spec PyProof.Rows L2
abbrev itO (l : Addr) : Obj := { cls := .type "tuple_iterator", data := .fields #[.ref l, .int 0 0] }
abbrev enO (it : Addr) : Obj := { cls := .type "enumerate", data := .fields #[.none, .bool false, .ref it, rawInt 0, .none, .none] }
theorem new_enumT (l : Addr) (items : Array Value) :
    Meets (Builtin.«enumerate.__new__» ⟨[.type "enumerate", .ref l], []⟩) (fun _ R s => s.heap.IsTuple l items ∧
      R (.ok (.ret (.ref (s.heap.push (itO l)).objs.size))) { s with heap := (s.heap.push (itO l)).push (enO s.heap.objs.size) }) :=
  .of_wp fun prog w A R s h => by
    obtain ⟨hp, g, d, tk, os⟩ := s
    obtain ⟨hT, h⟩ := h
    have hsub := sub_enumerate
    obtain ⟨o, hl, hc, n, hd⟩ := id hT
    wp_walk using wpAny_loadPart' hl
    refine wpAny_stack_any fun st => wpAny_pure ?_
    split
    · rename_i c _ _ _ _ _
      cases (c == Value.type "enumerate") <;> (wp_walk using wpAny_loadPart' hl, wpAny_pyIter_tuple hT; exact ⟨_, rfl, h⟩)
    · wp_walk using wpAny_loadPart' hl, wpAny_pyIter_tuple hT
      exact ⟨_, rfl, h⟩
section
variable {prog : Program} {w : World} {A : Around} {E : Value → Shared → Prop} {s : Shared}
theorem call_enumT {l : Addr} {items : Array Value} {Q : Value → Shared → Prop} (hT : s.heap.IsTuple l items)
    (h : ∀ h', IsEnum h' (s.heap.objs.size + 1) s.heap.objs.size 0 .none → h'.IsTupleIter s.heap.objs.size l 0 →
      (∀ b o, s.heap.get? b = some o → h'.get? b = some o) → Q (.ref (s.heap.objs.size + 1)) { s with heap := h' }) :
    wpAny (model prog w) A (call (.type "enumerate") [.ref l]) Q E s := by
  refine callType_new F.called_enumerate (by decide) (F.typeCall_enumerate_1 _) (F.newCall_enumerate_1 _) (fun obj => F.args_object_init_2 obj _) F.entry_enumerate_new (new_enumT l items) ⟨hT, ?_⟩
  have z : (s.heap.push (itO l)).objs.size = s.heap.objs.size + 1 := Heap.size_push ..
  have at1 : ((s.heap.push (itO l)).push (enO s.heap.objs.size)).get? (s.heap.objs.size + 1) = some (enO s.heap.objs.size) := by
    rw [← z]
    exact Heap.get?_push_size _ rfl
  show _ ∧ _
  rw [z]
  exact ⟨⟨_, at1, rfl⟩, h _ at1 ⟨_, Heap.get?_push_of_some _ (Heap.get?_push_size _ rfl), rfl, rfl⟩ fun b o x => Heap.get?_push_of_some _ (Heap.get?_push_of_some _ x)⟩
end

def IteT (K : PySem.W.Frag) (a : Addr) : It where
  go := fun i H => ∃ (xs : List V) (x : V), SqT K H a xs ∧ xs[i]? = some x
  yld := fun i H v H' => ∃ T x, v = .ref T ∧ H T = none ∧ H' = upd H T (.tup [.int (i : Nat), x]) ∧ ∀ xs, SqT K H a xs → xs[i]? = some x
  stop := fun i H => ∃ xs : List V, SqT K H a xs ∧ xs.length = i
theorem turn_enumT {P : Program} {w : World} {K : PySem.W.Frag} {elts : List Expr} {kk : Nat} {tpos : Pos} (a e it : Addr) :
    Turn P w K (.Tuple elts kk tpos) (IteT K a) [e, it] e (fun i h => (∃ old, IsEnum h e it ((i : Nat) : Int) old) ∧ h.IsTupleIter it a i ∧ e ≠ it ∧ a ≠ it ∧ a ≠ e) where
  mem := by simp
  obj := by
    rintro i h ⟨⟨old, he⟩, ⟨o, ho, hc, hd⟩, _⟩ b hb
    simp only [List.mem_cons, List.not_mem_nil, or_false] at hb
    rcases hb with rfl | rfl
    · exact ⟨_, he, fun v q => nomatch q⟩
    · exact ⟨o, ho, fun v q => by rw [hd] at q; cases q⟩
  keep := by
    rintro i h h' ⟨⟨old, he⟩, hi, hne⟩ k
    exact ⟨⟨old, k e (by simp) _ he⟩, hi.at fun o q => k it (by simp) o q, hne⟩
  item := by
    intro X hP hw hK hc i pins s σ H E I hf st hg
    subst hP hw hK
    obtain ⟨⟨old, he⟩, hit, hne, n1, n2⟩ := st
    obtain ⟨xs, x, hq, hx⟩ := hg
    obtain ⟨its, rv, p, hz⟩ := I.tuple hq
    obtain ⟨u, hu, ru⟩ := rv.get hx
    have le : e < s.heap.objs.size := Heap.lt_size he
    have li : it < s.heap.objs.size := by
      obtain ⟨_, q, _⟩ := hit
      exact Heap.lt_size q
    have hlen : i < its.toArray.size := by
      have := (List.getElem?_eq_some_iff.mp hu).1
      simpa using this
    refine wpAny_pyNext_enum_itemD (Draws.tuple (A := X.A.in1) (I.ok.hd hc) it a n1 its.toArray) he ⟨hit, p⟩ hlen hne (by simp; exact ⟨hne, n2.symm⟩) fun y h' tk hy ho hst hT hsz hk => ?_
    have ey : y = u := by
      have hy' : its.toArray[i]? = some y := hy
      have hu' : its.toArray[i]? = some u := by simpa using hu
      rw [hu'] at hy'
      exact (Option.some.inj hy').symm
    subst ey
    refine ⟨_, rfl, wpAny_letOwnedTupleGo_enum (s := { s with heap := h', toks := tk + 1 }) ho fun h'' he' sb => ?_⟩
    have nw : h''.get? s.heap.objs.size = some { cls := .type "tuple", data := .seq #[.int i tk, y] } := (sb.2 _ (Nat.ne_of_gt le)).trans hT
    have I1 : Inv X pins σ (upd H s.heap.objs.size (.tup [.int (i : Nat), x])) { s with heap := h'', toks := tk + 1 } := by
      refine I.turnedNew (ch := [e, it]) (fun b ob hb q => ?_) hf (Nat.le_refl _) ⟨by show 2 ≤ sizeLine; decide, [.int i tk, y], .cons ⟨_, rfl⟩ (.cons ru .nil), ⟨_, nw, rfl, _, rfl⟩⟩
      have b1 : b ≠ e := fun z => hb (by simp [z])
      have b2 : b ≠ it := fun z => hb (by simp [z])
      exact (sb.2 b b1).trans (hk b ob b1 b2 q)
    refine ⟨.ref s.heap.objs.size, _, I1, rfl, ⟨_, x, rfl, I.hok.fresh (Nat.le_refl _), rfl, fun ys hy => by rw [I.tuple_inj hy hq]; exact hx⟩, ⟨⟨y, ?_⟩, hst.1.at fun o q => (sb.2 it hne.symm).trans q, hne, n1, n2⟩, fun b hb => ?_⟩
    · have e1 : ((i + 1 : Nat) : Int) = (i : Int) + 1 := by omega
      rw [e1]
      exact he'
    · have lb : b < s.heap.objs.size := by
        simp only [List.mem_cons, List.not_mem_nil, or_false] at hb
        rcases hb with rfl | rfl
        · exact le
        · exact li
      rw [upd_ne (Nat.ne_of_lt lb)]
      exact (hf b hb).1
  done := by
    intro X hP hw hK hc i pins s σ H E I hf st hg
    subst hP hw hK
    obtain ⟨⟨old, he⟩, hit, hne, n1, n2⟩ := st
    obtain ⟨xs, hq, hx⟩ := hg
    obtain ⟨its, rv, p, hz⟩ := I.tuple hq
    obtain ⟨f0, f1, f2, f3, f4, f5⟩ := hf it (by simp)
    have e : i = its.toArray.size := by
      rw [← hx, rv.length]
      simp
    refine wpAny_pyNext_enum_endD (Draws.tuple (A := X.A.in1) (I.ok.hd hc) it a n1 its.toArray) he ⟨by rw [← e]; exact hit, p⟩ fun h' eb => ⟨rfl, ?_⟩
    exact I.turned (t' := s.toks) (fun b o hb q => eb b o hb q) f0 f1 f3 f4 f5
  self := by
    rintro A i s Q E ⟨⟨_, he⟩, _⟩ h
    exact wpAny_pyIter_enum he h

def iEnumT (K : PySem.W.Frag) (ta : TA) : TI := fun σ H R => ta σ H fun vs H1 => ∃ a xs, vs = [.ref a] ∧ SqT K H1 a xs ∧ R (IteT K a) H1
theorem pi_enumT {X : Cx} {e : Expr} {ta : TA} {p pos tpos : Pos} {elts : List Expr} {kk : Nat} (hg : Gl X "enumerate") (hm : X.mg "enumerate" = none) (ha : PA X [e] ta)
    (hs : starEach [e] X.env = [(false, eval e X.env)] := by rfl) : PI X (.Tuple elts kk tpos) (.Call (.Name "enumerate" p) [e] [] pos) (iEnumT X.K ta) := by
  constructor
  intro pins s σ H R I h
  refine Call_ (ld_blt I hg hm boot_enumerate (PyProof.Rows.callWith_type1 (thn (ha.run pos pins s σ H _ I h) ?_) hs rfl))
  rintro us s1 ⟨vs, H1, I1, r1, a, xs, rfl, hq, q⟩
  obtain ⟨u, rfl, ru⟩ := vals1 r1
  cases ru
  obtain ⟨its, rv, pt, hz⟩ := I1.tuple hq
  have la : a < s1.heap.objs.size := by
    obtain ⟨o, ho, _⟩ := pt
    exact Heap.lt_size ho
  refine call_enumT pt fun h' he hit hk => wpAny_pyIter_enum he ?_
  refine ⟨s1.heap.objs.size + 1, [s1.heap.objs.size + 1, s1.heap.objs.size], _, _, H1, rfl, I1.kept (t' := s1.toks) hk, turn_enumT a (s1.heap.objs.size + 1) s1.heap.objs.size, ⟨⟨.none, he⟩, hit, Nat.succ_ne_self _, Nat.ne_of_lt la, Nat.ne_of_lt (Nat.lt_succ_of_lt la)⟩, fun b hb => ?_, q⟩
  have le : s1.heap.objs.size ≤ b := by
    simp only [List.mem_cons, List.not_mem_nil, or_false] at hb
    rcases hb with rfl | rfl
    · exact Nat.le_succ _
    · exact Nat.le_refl _
  exact I1.fpOk le (I1.hok.fresh le)
end ET
namespace AL
open PySem PySem.Spec PyProof.Rows L2 G Th
variable [TT]
def mapO {α β : Type} (f : α → Option β) : List α → Option (List β)
  | [] => some []
  | a :: as => (f a).bind fun b => (mapO f as).bind fun bs => some (b :: bs)
def toD (S : Sto) : Nat → Val → Option PyData
  | 0, _ => none
  | n + 1, v => match v with
    | .non => some .none
    | .bl b => some (.bool b)
    | .int i => some (.int i)
    | .str x => some (.str x)
    | .tup vs => (mapO (toD S n) vs).map .tuple
    | .ref k => match S[k]? with
      | some (.lst vs) => (mapO (toD S n) vs).map .list
      | _ => none
    | .scr _ => none
    | .lam _ _ _ _ _ => none
    | .exc _ _ _ _ => none
    | .ptu _ => none
section
variable {X : Cx} {K : PySem.W.Frag}
theorem toD_dp {m : List Addr} {S : Sto} {H : Hp} (R : Rel K m S H) : ∀ (n : Nat) (v : Val) (u : V) (d : PyData), VR K H m u v → toD S n v = some d → Dp K H u d
  | 0, _, _, _, _, h => by cases h
  | n + 1, v, u, d, r, h => by
    have go : ∀ (vs : List Val) (us : List V) (ds : List PyData), VRs K H m us vs → mapO (toD S n) vs = some ds → DpAll K H us ds := by
      intro vs
      induction vs with
      | nil =>
        intro us ds r h
        cases r
        cases h
        exact .nil
      | cons v vs ih =>
        intro us ds r h
        cases r with
        | cons a b =>
          obtain ⟨d1, h1, h⟩ := Option.bind_eq_some_iff.mp h
          obtain ⟨ds1, h2, h⟩ := Option.bind_eq_some_iff.mp h
          cases h
          exact .cons (toD_dp R n v _ d1 a h1) (ih _ _ b h2)
    unfold toD at h
    split at h
    · cases h; cases r; exact .non
    · cases h; cases r; exact .bl _
    · cases h; cases r; exact .int _
    · cases h; cases r; exact .str _
    · obtain ⟨ds, h1, h2⟩ := Option.map_eq_some_iff.mp h
      cases h2
      cases r with
      | tup ha ra => exact .tup ha.sq (go _ _ _ ra h1)
    · split at h
      · next k _ vs en =>
        obtain ⟨ds, h1, h2⟩ := Option.map_eq_some_iff.mp h
        cases h2
        cases r with
        | ref ha =>
          obtain ⟨xs, hx, rx⟩ := R.ob _ _ _ en ha
          exact .lst (SqL.of hx) (go _ _ _ rx h1)
      · cases h
    · cases h
    · cases h
    · cases h
    · cases h
open Classical in
noncomputable def gRepr : List Val → Sto → Option (Val × Sto) := fun xs S => match xs with
  | [v] => match toD S 40 v with
    | some d => if okD d = true ∧ d.weight ≤ 40000 ∧ d.depth ≤ 40 then some (.str d.shown, S) else none
    | none => none
  | _ => none
def rReprA (K : PySem.W.Frag) : List V → Hp → VK → Prop := fun xs H Q => ∃ (v : V) (d : PyData) (w n : Nat), xs = [v] ∧ Dp K H v d ∧ Fine w n d ∧ w ≤ 40000 ∧ n ≤ 40 ∧ Q (.str d.shown) H
theorem call_reprA (hg : X.A.guards = some []) (hu : X.A.units + 64 < cLine) : CallR X (.builtin "repr") (rReprA X.K) := by
  intro pins s σ H xs us Q I r h
  obtain ⟨v, d, w, n, rfl, hT, hF, hw, hn, q⟩ := h
  obtain ⟨u, rfl, ru⟩ := r.one
  obtain ⟨o1, o2, o3, o4⟩ := ok_show d hF.ok
  have sz := hF.shown hw
  obtain ⟨as, rd⟩ := Dp.reads I d _ _ hT ru
  have e1 : ∀ a, u = .ref a → wpAny (model X.prog X.w) X.A (call (.builtin "repr") [u]) (EP X pins σ Q) X.xe s := by
    rintro a rfl
    refine repr_of_reads' rd o1 (fun z => ?_) hg (by have := hF.dp; omega) (fun b o e => e) (fun h' t tk hk => ?_) sz
    · rw [o2] at z
      cases z
    · exact ⟨.str d.shown, H, I.kept hk, ⟨t, rfl⟩, q⟩
  cases hT with
  | non => cases ru; exact PySem.P.repr_of_none ⟨.str _, H, I.tok _, ⟨_, rfl⟩, q⟩
  | bl b => cases ru; exact PySem.P.repr_of_bool ⟨.str _, H, I.tok _, ⟨_, rfl⟩, q⟩
  | int i =>
    obtain ⟨t, rfl⟩ := ru
    exact PySem.P.repr_of_int (of_decide_eq_true o1) ⟨.str _, H, I.tok _, ⟨_, rfl⟩, q⟩
  | str x =>
    obtain ⟨t, rfl⟩ := ru
    exact PySem.P.repr_of_str ⟨.str _, H, I.tok _, ⟨_, rfl⟩, q⟩ sz
  | lst _ _ => cases ru; exact e1 _ rfl
  | tup _ _ => cases ru; exact e1 _ rfl
theorem cRepr : CaA K (rReprA K) gRepr := by
  intro m S H xs v S' us Q R ru e q
  unfold gRepr at e
  split at e
  · split at e
    · next v0 d ed =>
      split at e
      · next hok =>
        cases e
        obtain ⟨u, rfl, r1⟩ := ru.one_of
        exact ⟨u, d, d.weight, d.depth, rfl, toD_dp R 40 _ u d r1 ed, ⟨hok.1, Nat.le_refl _, Nat.le_refl _⟩, hok.2.1, hok.2.2, q m _ H (.refl _ _) R (.str _)⟩
      · cases e
    · cases e
  · cases e
def eqS : Val → Val → Option Bool
  | .int a, .int b => some (decide (a = b))
  | .str a, .str b => some (decide (a = b))
  | .bl a, .bl b => some (decide (a = b))
  | .non, .non => some true
  | .non, .int _ => some false
  | .int _, .non => some false
  | .non, .str _ => some false
  | .str _, .non => some false
  | .non, .bl _ => some false
  | .bl _, .non => some false
  | .int _, .str _ => some false
  | .str _, .int _ => some false
  | .str _, .bl _ => some false
  | .bl _, .str _ => some false
  | _, _ => none
def eqA (S : Sto) (x y : Val) : Option Bool := match eqS x y with
  | some b => some b
  | none => match toD S 40 x, toD S 40 y with
    | some d, some e => if SeqAt.shaped d = true ∧ SeqAt.shaped e = true then some (PyData.eqv d e) else none
    | _, _ => none
def gEq : Val → Val → Sto → Option (Val × Sto) := fun x y S => (eqA S x y).map fun b => (.bl b, S)
def gNe : Val → Val → Sto → Option (Val × Sto) := fun x y S => (eqA S x y).map fun b => (.bl (!b), S)
theorem eqS_ok {H : Hp} {m : List Addr} {x y : Val} {u w : V} {b : Bool} (ru : VR K H m u x) (rw_ : VR K H m w y) (h : eqS x y = some b) : scal u w = true ∧ decide (u = w) = b := by
  unfold eqS at h
  split at h <;> first | cases h | skip
  all_goals first
    | (cases ru; cases rw_; refine ⟨rfl, ?_⟩; simp)
    | skip
def rEqA (K : PySem.W.Frag) : R2 := fun x y H Q => rEq x y H Q ∨ rEqD K x y H Q
def rNeA (K : PySem.W.Frag) : R2 := fun x y H Q => rNe x y H Q ∨ rNeD K x y H Q
theorem op_eqA (hu : X.A.units + 64 < cLine) : OpR X (compareOp .Eq) (rEqA X.K) := op_eq.or (op_eqD hu)
theorem op_neA (hu : X.A.units + 64 < cLine) : OpR X (compareOp .NotEq) (rNeA X.K) := op_ne.or (op_neD hu)
theorem oEq : OpA K (rEqA K) gEq := by
  intro m S H x y v S' u w Q R ru rw_ e q
  obtain ⟨b, e1, e2⟩ := Option.map_eq_some_iff.mp e
  cases e2
  unfold eqA at e1
  split at e1
  · next b' es =>
    cases e1
    obtain ⟨h1, h2⟩ := eqS_ok ru rw_ es
    exact .inl ⟨h1, by rw [h2]; exact q m _ H (.refl _ _) R (.bl _)⟩
  · split at e1
    · next d1 d2 g1 g2 =>
      split at e1
      · next hs =>
        cases e1
        exact .inr ⟨d1, d2, toD_dp R 40 _ _ _ ru g1, toD_dp R 40 _ _ _ rw_ g2, hs.1, hs.2, q m _ H (.refl _ _) R (.bl _)⟩
      · cases e1
    · cases e1
theorem oNe : OpA K (rNeA K) gNe := by
  intro m S H x y v S' u w Q R ru rw_ e q
  obtain ⟨b, e1, e2⟩ := Option.map_eq_some_iff.mp e
  cases e2
  unfold eqA at e1
  split at e1
  · next b' es =>
    cases e1
    obtain ⟨h1, h2⟩ := eqS_ok ru rw_ es
    exact .inl ⟨h1, by rw [h2]; exact q m _ H (.refl _ _) R (.bl _)⟩
  · split at e1
    · next d1 d2 g1 g2 =>
      split at e1
      · next hs =>
        cases e1
        exact .inr ⟨d1, d2, toD_dp R 40 _ _ _ ru g1, toD_dp R 40 _ _ _ rw_ g2, hs.1, hs.2, q m _ H (.refl _ _) R (.bl _)⟩
      · cases e1
    · cases e1
def iSeq (f : EF) : IF := fun ρ S => (f ρ S).bind fun p => match p.1 with
  | .tup vs => some (vs, fun _ => True, p.2)
  | .ref n => match p.2[n]? with
    | some (.lst vs) => some (vs, fun S => S[n]? = some (.lst vs), p.2)
    | _ => none
  | _ => none
theorem it_tup {a : Addr} {m0 : List Addr} {H0 : Hp} {xs : List V} {vs : List Val} {S0 : Sto} (R0 : Rel K m0 S0 H0) (ha : TupAt K H0 a xs) (r : VRs K H0 m0 xs vs) : ItA K (Itt K a) m0 H0 vs (fun _ => True) := by
  refine ⟨fun i m S H E R _ v hv => ?_, fun m S H E R _ => ?_⟩
  · have k := E.kp R0
    obtain ⟨u, hu, ru⟩ := (r.kp k).get hv
    refine ⟨⟨xs, u, (ha.kp k).sq, hu⟩, fun x H' hy => ?_⟩
    obtain ⟨rfl, hx⟩ := hy
    have e := hx xs (ha.kp k).sq
    rw [hu] at e
    cases e
    exact ⟨R, .refl _ _, ru⟩
  · exact ⟨xs, (ha.kp (E.kp R0)).sq, by rw [r.len]; exact Nat.le_refl _⟩
theorem it_lst {n : Nat} {a : Addr} {m0 : List Addr} {H0 : Hp} {vs : List Val} (hn : m0[n]? = some a) : ItA K (Itl K a) m0 H0 vs (fun S => S[n]? = some (.lst vs)) := by
  have get : ∀ {m : List Addr} {S : Sto} {H : Hp}, Ext m0 H0 m H → Rel K m S H → S[n]? = some (.lst vs) → ∃ xs, H a = some (.lst xs) ∧ VRs K H m xs vs := fun {m S H} E R h => by
    have hm : m[n]? = some a := by
      obtain ⟨r, rfl⟩ := E.pre
      rw [List.getElem?_append_left (List.getElem?_eq_some_iff.mp hn).1]
      exact hn
    exact R.ob _ _ _ h hm
  refine ⟨fun i m S H E R ok v hv => ?_, fun m S H E R ok => ?_⟩
  · obtain ⟨xs, hx, rx⟩ := get E R ok
    obtain ⟨u, hu, ru⟩ := rx.get hv
    refine ⟨⟨xs, u, SqL.of hx, hu⟩, fun x H' hy => ?_⟩
    obtain ⟨rfl, hq⟩ := hy
    have e := hq xs (SqL.of hx)
    rw [hu] at e
    cases e
    exact ⟨R, .refl _ _, ru⟩
  · obtain ⟨xs, hx, rx⟩ := get E R ok
    exact ⟨xs, SqL.of hx, by rw [rx.len]; exact Nat.le_refl _⟩
theorem ais {tg e : Expr} {f : EF} (he : AE X e f) : AI X tg e (iSeq f) := pi_w (PI.or (pi_tup he) (pi_list he)) fun σ H W h => by
  obtain ⟨m, ρ, S, vs, ok, S', R, r, e, q⟩ := h
  obtain ⟨⟨x, S1⟩, e1, e⟩ := Option.bind_eq_some_iff.mp e
  dsimp only at e
  split at e
  · cases e
    refine .inl ⟨m, ρ, S, _, _, R, r, e1, fun m1 u H1 E1 R1 r1 => ?_⟩
    cases r1 with
    | tup ha ra => exact ⟨_, rfl, ⟨_, ha.sq⟩, q m1 H1 _ E1 R1 (it_tup R1 ha ra)⟩
  · split at e
    · next n _ vs' en =>
      cases e
      refine .inr ⟨m, ρ, S, _, _, R, r, e1, fun m1 u H1 E1 R1 r1 => ?_⟩
      cases r1 with
      | ref ha =>
        obtain ⟨xs, hx, rx⟩ := R1.ob _ _ _ en ha
        exact ⟨_, rfl, ⟨_, SqL.of hx⟩, q m1 H1 _ E1 R1 (it_lst ha)⟩
    · cases e
  · cases e

def rangeV (lo : Int) (n : Nat) : List Val := (List.range n).map fun (k : Nat) => .int (lo + (k : Int))
def iRg1 (ga : AF) : IF := fun ρ S => (ga ρ S).bind fun p => match p.1 with
  | [.int j] => if -(2 ^ 62) ≤ j ∧ j < 2 ^ 62 then some (rangeV 0 j.toNat, fun _ => True, p.2) else none
  | _ => none
def iRg2 (ga : AF) : IF := fun ρ S => (ga ρ S).bind fun p => match p.1 with
  | [.int i, .int j] => if -(2 ^ 62) ≤ i ∧ i < 2 ^ 62 ∧ -(2 ^ 62) ≤ j ∧ j < 2 ^ 62 then some (rangeV i (j - i).toNat, fun _ => True, p.2) else none
  | _ => none
theorem it_rg {lo : Int} {n : Nat} {m0 : List Addr} {H0 : Hp} : ItA K (Itr lo n) m0 H0 (rangeV lo n) (fun _ => True) := by
  refine ⟨fun i m S H E R _ v hv => ?_, fun m S H E R _ => ?_⟩
  · unfold rangeV at hv
    rw [List.getElem?_map] at hv
    obtain ⟨k, hk, rfl⟩ := Option.map_eq_some_iff.mp hv
    obtain ⟨l, rfl⟩ := List.getElem?_eq_some_iff.mp hk
    rw [List.length_range] at l
    refine ⟨l, fun x H' hy => ?_⟩
    obtain ⟨rfl, rfl⟩ := hy
    rw [List.getElem_range]
    exact ⟨R, .refl _ _, .int _⟩
  · show n ≤ (rangeV lo n).length
    simp [rangeV]
theorem air1 {tg a : Expr} {ga : AF} {p pos : Pos} (hg : Gl X "range") (hm : X.mg "range" = none) (ha : AA X [a] ga) (hs : starEach [a] X.env = [(false, eval a X.env)] := by rfl) : AI X tg (.Call (.Name "range" p) [a] [] pos) (iRg1 ga) := pi_w (pi_range1 hg hm ha hs) fun σ H W h => by
  obtain ⟨m, ρ, S, vs, ok, S', R, r, e, q⟩ := h
  obtain ⟨⟨x, S1⟩, e1, e⟩ := Option.bind_eq_some_iff.mp e
  dsimp only at e
  split at e
  · split at e
    · next hb =>
      cases e
      refine ⟨m, ρ, S, _, _, R, r, e1, fun m1 us H1 E1 R1 r1 => ?_⟩
      obtain ⟨u, rfl, r2⟩ := r1.one_of
      cases r2
      exact ⟨_, rfl, hb.1, hb.2, q m1 H1 _ E1 R1 it_rg⟩
    · cases e
  · cases e

def enumV (vs : List Val) : List Val := vs.zipIdx.map fun p => .tup [.int (p.2 : Nat), p.1]
def iEn (ga : AF) : IF := fun ρ S => (ga ρ S).bind fun p => match p.1 with
  | [.tup vs] => some (enumV vs, fun _ => True, p.2)
  | [.ref n] => match p.2[n]? with
    | some (.lst vs) => some (enumV vs, fun S => S[n]? = some (.lst vs), p.2)
    | _ => none
  | _ => none
theorem enumV_get {vs : List Val} {i : Nat} {v : Val} (h : (enumV vs)[i]? = some v) : ∃ x, vs[i]? = some x ∧ v = .tup [.int (i : Nat), x] := by
  unfold enumV at h
  rw [List.getElem?_map] at h
  obtain ⟨p, hp, rfl⟩ := Option.map_eq_some_iff.mp h
  rw [List.getElem?_zipIdx] at hp
  obtain ⟨x, hx, rfl⟩ := Option.map_eq_some_iff.mp hp
  exact ⟨x, hx, by simp⟩
theorem yl_new {m : List Addr} {S : Sto} {H : Hp} (R : Rel K m S H) {T : Addr} {xs : List V} {vs : List Val} (h : H T = none) (r : VRs K H m xs vs) : Rel K m S (upd H T (.tup xs)) ∧ Ext m H m (upd H T (.tup xs)) ∧ VR K (upd H T (.tup xs)) m (.ref T) (.tup vs) := by
  obtain ⟨R2, E2⟩ := R.tmp (o := .tup xs) h
  exact ⟨R2, E2, .tup (.inl upd_same) (r.kp (E2.kp R))⟩
theorem aie {e : Expr} {ga : AF} {p pos tpos : Pos} {elts : List Expr} {kk : Nat} (hg : Gl X "enumerate") (hm : X.mg "enumerate" = none) (ha : AA X [e] ga) (hs : starEach [e] X.env = [(false, eval e X.env)] := by rfl) : AI X (.Tuple elts kk tpos) (.Call (.Name "enumerate" p) [e] [] pos) (iEn ga) := pi_w (PI.or (ET.pi_enumT hg hm ha hs) (pi_enum hg hm ha hs)) fun σ H W h => by
  obtain ⟨m, ρ, S, vs, ok, S', R, r, e, q⟩ := h
  obtain ⟨⟨x, S1⟩, e1, e⟩ := Option.bind_eq_some_iff.mp e
  dsimp only at e
  split at e
  · next vs0 =>
    cases e
    refine .inl ⟨m, ρ, S, _, _, R, r, e1, fun m1 us H1 E1 R1 r1 => ?_⟩
    obtain ⟨u, rfl, r2⟩ := r1.one_of
    cases r2 with
    | tup ha ra =>
      rename_i ad xs
      refine ⟨_, _, rfl, ha.sq, q m1 H1 _ E1 R1 ⟨fun i m S H E R _ v hv => ?_, fun m S H E R _ => ?_⟩⟩
      · obtain ⟨y, hy, rfl⟩ := enumV_get hv
        have k := E.kp R1
        obtain ⟨u, hu, ru⟩ := (ra.kp k).get hy
        refine ⟨⟨xs, u, (ha.kp k).sq, hu⟩, fun x H' hyl => ?_⟩
        obtain ⟨T, z, rfl, hT, rfl, hz⟩ := hyl
        have e := hz xs (ha.kp k).sq
        rw [hu] at e
        cases e
        exact yl_new R hT (.cons (.int _) (.cons ru .nil))
      · refine ⟨xs, (ha.kp (E.kp R1)).sq, ?_⟩
        simp [enumV, ra.len]
  · split at e
    · next n _ vs0 en =>
      cases e
      refine .inr ⟨m, ρ, S, _, _, R, r, e1, fun m1 us H1 E1 R1 r1 => ?_⟩
      obtain ⟨u, rfl, r2⟩ := r1.one_of
      cases r2 with
      | ref ha =>
        rename_i ad
        obtain ⟨xs, hx, rx⟩ := R1.ob _ _ _ en ha
        have get : ∀ {m : List Addr} {S : Sto} {H : Hp}, Ext m1 H1 m H → Rel X.K m S H → S[n]? = some (.lst vs0) → ∃ xs, H ad = some (.lst xs) ∧ VRs X.K H m xs vs0 := fun {m S H} E R h => by
          have hm : m[n]? = some ad := by
            obtain ⟨r, rfl⟩ := E.pre
            rw [List.getElem?_append_left (List.getElem?_eq_some_iff.mp ha).1]
            exact ha
          exact R.ob _ _ _ h hm
        refine ⟨_, _, rfl, SqL.of hx, q m1 H1 _ E1 R1 ⟨fun i m S H E R ok v hv => ?_, fun m S H E R ok => ?_⟩⟩
        · obtain ⟨y, hy, rfl⟩ := enumV_get hv
          obtain ⟨xs, hx, rx⟩ := get E R ok
          obtain ⟨u, hu, ru⟩ := rx.get hy
          refine ⟨⟨xs, u, SqL.of hx, hu⟩, fun x H' hyl => ?_⟩
          obtain ⟨T, z, rfl, hT, rfl, hz⟩ := hyl
          have e := hz xs (SqL.of hx)
          rw [hu] at e
          cases e
          exact yl_new R hT (.cons (.int _) (.cons ru .nil))
        · obtain ⟨xs, hx, rx⟩ := get E R ok
          refine ⟨xs, SqL.of hx, ?_⟩
          simp [enumV, rx.len]
    · cases e
  · cases e

def zipV (vs ws : List Val) : List Val := (vs.zip ws).map fun p => .tup [p.1, p.2]
theorem zipV_get {vs ws : List Val} {i : Nat} {v : Val} (h : (zipV vs ws)[i]? = some v) : ∃ x y, vs[i]? = some x ∧ ws[i]? = some y ∧ v = .tup [x, y] := by
  unfold zipV at h
  rw [List.getElem?_map] at h
  obtain ⟨p, hp, rfl⟩ := Option.map_eq_some_iff.mp h
  obtain ⟨h1, h2⟩ := List.getElem?_zip_eq_some.mp hp
  exact ⟨_, _, h1, h2, rfl⟩
def iZp (ga : AF) : IF := fun ρ S => (ga ρ S).bind fun p => match p.1 with
  | [.tup vs, .tup ws] => some (zipV vs ws, fun _ => True, p.2)
  | [.tup vs, .ref n] => match p.2[n]? with
    | some (.lst ws) => if vs.length = ws.length then some (zipV vs ws, fun S => S[n]? = some (.lst ws), p.2) else none
    | _ => none
  | [.ref k, .ref n] => match p.2[k]?, p.2[n]? with
    | some (.lst vs), some (.lst ws) => some (zipV vs ws, fun S => S[k]? = some (.lst vs) ∧ S[n]? = some (.lst ws), p.2)
    | _, _ => none
  | _ => none
end
end AL
namespace AL
open PySem PySem.Spec PyProof.Rows L2 G Th
variable [TT]
def keyOf : Val → Option Key
  | .int i => some (.inl i)
  | .str x => some (.inr x)
  | _ => none
def valA (kvs : List (Key × Val)) (k : Key) : Option Val := (kvs.find? fun kv => decide (kv.1 = k)).map (·.2)
def putA (kvs : List (Key × Val)) (k : Key) (v : Val) : List (Key × Val) := if (kvs.any fun kv => decide (kv.1 = k)) = true then kvs.map (fun kv => if kv.1 = k then (kv.1, v) else kv) else kvs ++ [(k, v)]
section
variable {X : Cx} {K : PySem.W.Frag} {e a b o i : Expr} {pos : Pos} {fa fb fo fi f : EF}
theorem pe_or2 {t t' : TE} (h : PE X e t) (h' : PE X e t') : PE X e (fun σ H Q => t σ H Q ∨ t' σ H Q) := ⟨fun pins s σ H Q I hq => hq.elim (h.run pins s σ H Q I) (h'.run pins s σ H Q I)⟩
theorem pt_or2 {t t' : L2.TT} (h : PT X e t) (h' : PT X e t') : PT X e (fun σ H Q => t σ H Q ∨ t' σ H Q) := ⟨fun pins s σ H Q I hq => hq.elim (h.run pins s σ H Q I) (h'.run pins s σ H Q I)⟩
theorem ps_or2 {st : Stmt} {t t' : TS} (h : PS X st t) (h' : PS X st t') : PS X st (fun D σ H => t D σ H ∨ t' D σ H) := ⟨fun pins s σ H D I hq => hq.elim (h.run pins s σ H D I) (h'.run pins s σ H D I)⟩
theorem VR.key {H : Hp} {m : List Addr} {u : V} {v : Val} {k : Key} (r : VR K H m u v) (h : AL.keyOf v = some k) : u = kV k := by
  cases r <;> cases h <;> rfl

def KR (K : PySem.W.Frag) (H : Hp) (m : List Addr) (xs : List (Key × V)) (kvs : List (Key × Val)) : Prop := xs.map (·.1) = kvs.map (·.1) ∧ VRs K H m (xs.map (·.2)) (kvs.map (·.2))
theorem KR.nil {H : Hp} {m : List Addr} : KR K H m [] [] := ⟨rfl, .nil⟩
theorem KR.cons {H : Hp} {m : List Addr} {x : Key × V} {y : Key × Val} {xs : List (Key × V)} {kvs : List (Key × Val)} (h1 : x.1 = y.1) (h2 : VR K H m x.2 y.2) (r : KR K H m xs kvs) : KR K H m (x :: xs) (y :: kvs) := ⟨by simp [h1, r.1], .cons h2 r.2⟩
theorem KR.uncons {H : Hp} {m : List Addr} {y : Key × Val} {xs : List (Key × V)} {kvs : List (Key × Val)} (r : KR K H m xs (y :: kvs)) : ∃ x xs', xs = x :: xs' ∧ x.1 = y.1 ∧ VR K H m x.2 y.2 ∧ KR K H m xs' kvs := by
  obtain ⟨h1, h2⟩ := r
  cases xs with
  | nil => simp at h1
  | cons x xs =>
    simp only [List.map_cons, List.cons.injEq] at h1
    cases h2 with
    | cons a b => exact ⟨x, xs, rfl, h1.1, a, h1.2, b⟩
theorem KR.nil_of {H : Hp} {m : List Addr} {xs : List (Key × V)} (r : KR K H m xs []) : xs = [] := by
  have := r.1
  simpa using this
theorem KR.len {H : Hp} {m : List Addr} {xs : List (Key × V)} {kvs : List (Key × Val)} (r : KR K H m xs kvs) : xs.length = kvs.length := by simpa using congrArg List.length r.1
theorem KR.any {H : Hp} {m : List Addr} {xs : List (Key × V)} {kvs : List (Key × Val)} (r : KR K H m xs kvs) (k : Key) : (xs.any fun kv => decide (kv.1 = k)) = (kvs.any fun kv => decide (kv.1 = k)) := by
  induction kvs generalizing xs with
  | nil => rw [r.nil_of]; rfl
  | cons y kvs ih =>
    obtain ⟨x, xs', rfl, e, _, r'⟩ := r.uncons
    rw [List.any_cons, List.any_cons, ih r', e]
theorem KR.val {H : Hp} {m : List Addr} {xs : List (Key × V)} {kvs : List (Key × Val)} (r : KR K H m xs kvs) (k : Key) : (valV xs k = none ∧ valA kvs k = none) ∨ ∃ u v, valV xs k = some u ∧ valA kvs k = some v ∧ VR K H m u v := by
  induction kvs generalizing xs with
  | nil => rw [r.nil_of]; exact .inl ⟨rfl, rfl⟩
  | cons y kvs ih =>
    obtain ⟨x, xs', rfl, e, rv, r'⟩ := r.uncons
    by_cases h : y.1 = k
    · refine .inr ⟨x.2, y.2, ?_, ?_, rv⟩
      · simp [valV, List.find?_cons, e, h]
      · simp [valA, List.find?_cons, h]
    · have := ih r'
      simp only [valV, valA, List.find?_cons, e, h, decide_false] at this ⊢
      exact this
theorem KR.put {H : Hp} {m : List Addr} {xs : List (Key × V)} {kvs : List (Key × Val)} (r : KR K H m xs kvs) (k : Key) {u : V} {v : Val} (rv : VR K H m u v) : KR K H m (putK xs k u) (putA kvs k v) := by
  unfold putK putA
  rw [r.any k]
  split
  · rename_i hany
    clear hany
    induction kvs generalizing xs with
    | nil => rw [r.nil_of]; exact .nil
    | cons y kvs ih =>
      obtain ⟨x, xs', rfl, e, rv', r'⟩ := r.uncons
      rw [List.map_cons, List.map_cons]
      refine .cons ?_ ?_ (ih r')
      · rw [e]
        split <;> simp [e]
      · rw [e]
        split
        · exact rv
        · exact rv'
  · refine ⟨by simp [r.1], ?_⟩
    simp only [List.map_append, List.map_cons, List.map_nil]
    exact r.2.app rv.one
theorem KR.kp {H H' : Hp} {m m' : List Addr} {xs : List (Key × V)} {kvs : List (Key × Val)} (r : KR K H m xs kvs) (k : Kp m H m' H') : KR K H' m' xs kvs := ⟨r.1, r.2.kp k⟩
def gIxA : Val → Val → Sto → Option (Val × Sto) := fun x y S => match x with
  | .ref n => match S[n]? with
    | some (.dic kvs) => match AL.keyOf y with
      | some k => (valA kvs k).map fun v => (v, S)
      | none => none
    | _ => gIx x y S
  | _ => gIx x y S
theorem aixA (hu : X.A.units + 1 < cLine) (ha : AE X a fa) (hb : AE X b fb) (hs : PlainIx b) (hn : NoSl b) : AE X (.Subscript a b pos) (eB gIxA fa fb) := by
  refine pe_w (pe_or2 (pe_ix ix_seq ha hb hs) (pe_dget hu ha hb hn)) fun σ H Q h => ?_
  obtain ⟨m, ρ, S, v, S', R, r, e, q⟩ := h
  obtain ⟨⟨x, S1⟩, e1, e⟩ := Option.bind_eq_some_iff.mp e
  obtain ⟨⟨y, S2⟩, e2, e⟩ := Option.bind_eq_some_iff.mp e
  dsimp only at e e2
  have plain : gIx x y S2 = some (v, S') → tOp (rIx X.K) (tF X.K fa) (tF X.K fb) σ H Q := fun e => eB_ok oIx ⟨m, ρ, S, v, S', R, r, by simp only [eB, e1, e2, Option.bind_some, e], q⟩
  cases x with
  | ref n =>
    simp only [gIxA] at e
    split at e
    · next kvs en =>
      split at e
      · next k ek =>
        obtain ⟨v', ev, e3⟩ := Option.map_eq_some_iff.mp e
        cases e3
        refine .inr ⟨m, ρ, S, .ref n, S1, R, r, e1, fun m1 u H1 E1 R1 r1 => ⟨m1, ρ, S1, y, _, R1, r.kp (E1.kp R), e2, fun m2 w H2 E2 R2 r2 => ?_⟩⟩
        cases r1.kp (E2.kp R1) with
        | ref hm =>
          obtain ⟨xs, hx, hk⟩ := R2.ob _ _ _ en hm
          rcases KR.val hk k with ⟨_, z⟩ | ⟨u', v2, h1, h2, h3⟩
          · rw [ev] at z; cases z
          · rw [ev] at h2
            cases h2
            refine ⟨_, u', rfl, ?_, q m2 u' H2 (E1.trans E2) R2 h3⟩
            rw [r2.key ek, ← h1]
            exact DGet.k hx
      · cases e
    · exact .inl (plain e)
  | _ => exact .inl (plain e)

def eDic : EF := fun _ S => some (.ref S.length, S ++ [.dic []])
theorem newDic {m : List Addr} {S : Sto} {H : Hp} {xs : List (Key × V)} {kvs : List (Key × Val)} (R : Rel K m S H) (r : KR K H m xs kvs) {Q : VK} (q : ∀ m' z H', Ext m H m' H' → Rel K m' (S ++ [.dic kvs]) H' → VR K H' m' z (.ref S.length) → Q z H') : ∀ p, H p = none → Q (.ref p) (upd H p (.dK xs)) := fun p hp => by
  have k1 : Kp m H (m ++ [p]) (upd H p (.dK xs)) := .grow [p] (.new hp)
  obtain ⟨R2, E2⟩ := R.alloc (o := .dK xs) (b := .dic kvs) hp ⟨_, upd_same, r.kp k1⟩
  refine q _ _ _ E2 R2 (.ref ?_)
  rw [← R.len, List.getElem?_concat_length]

def gSetA : Val → Val → Val → Sto → Option Sto := fun o i v S => match o with
  | .ref n => match S[n]? with
    | some (.dic kvs) => match AL.keyOf i with
      | some k => if kvs.length < sizeLine then some (S.set n (.dic (putA kvs k v))) else none
      | none => none
    | _ => gSet o i v S
  | _ => none
theorem asuA {p2 : Pos} (hu : X.A.units + 1 < cLine) (he : AE X e f) (ho : AE X o fo) (hi : AE X i fi)
    (ha : ∀ v, assign (.Subscript o i pos) X.env v = (do
      let ov ← holding [v] (eval o X.env)
      let iv ← holding [v, ov] (eval i X.env)
      standAt pos
      holding [v, ov, iv] (setItem ov iv v)
      release [v, ov, iv] []) := by intro _; rfl)
    (hsw : swapsWithSole [.Subscript o i pos] e p2.line X.env = pure false := by rfl) (hw : swappedStores [.Subscript o i pos] e X.env = pure none := by rfl)
    (h1 : (assignEach [.Subscript o i pos] X.env).map (·.2) = [assign (.Subscript o i pos) X.env] := by rfl) (hs : swapsWith e (some (.Subscript o i pos)) p2.line X.env = pure false := by rfl) : AS X (.Assign [.Subscript o i pos] e p2) (sSub gSetA fo fi f) := by
  refine ps_w (ps_or2 (ps_asg he (pg_sub ho hi set_list ha) hsw hw h1) (ps_dput hu ho hi he hs)) fun D σ H h => ?_
  obtain ⟨m, ρ, S, R, r, q⟩ := h
  unfold sSub at q
  split at q
  · next v S1 e1 =>
    split at q
    · next ov S2 e2 =>
      split at q
      · next iv S3 e3 =>
        split at q
        · next S4 e4 =>
          unfold gSetA at e4
          split at e4
          · next n =>
            split at e4
            · next kvs en =>
              split at e4
              · next k ek =>
                split at e4
                · next hl =>
                  cases e4
                  refine .inr ⟨m, ρ, S, v, S1, R, r, e1, fun m1 u H1 E1 R1 r1 => ⟨m1, ρ, S1, _, S2, R1, r.kp (E1.kp R), e2, fun m2 uo H2 E2 R2 r2 => ⟨m2, ρ, S2, iv, S3, R2, r.kp ((E1.trans E2).kp R), e3, fun m3 ui H3 E3 R3 r3 => ?_⟩⟩⟩
                  have rv := r1.kp ((E2.trans E3).kp R1)
                  cases r2.kp (E3.kp R2) with
                  | ref hm =>
                    rename_i ad
                    obtain ⟨xs, hx, hk⟩ := R3.ob _ _ _ en hm
                    have hk : KR X.K H3 m3 xs kvs := hk
                    have hmm := List.mem_of_getElem? hm
                    have kk : Kp m3 H3 m3 (upd H3 ad (.dK (putK xs k u))) := R3.kput hmm
                    obtain ⟨R4, E4⟩ := R3.put (o := .dK (putK xs k u)) (b := .dic (putA kvs k v)) hm ⟨_, upd_same, (hk.put k rv).kp kk⟩
                    refine ⟨_, _, rfl, ?_, q m3 σ _ (((E1.trans E2).trans E3).trans E4) R4 (r.kp ((((E1.trans E2).trans E3).trans E4).kp R))⟩
                    rw [r3.key ek]
                    exact DPut.k hx (by rw [hk.len]; exact hl)
                · cases e4
              · cases e4
            · refine .inl ⟨m, ρ, S, v, S1, R, r, e1, fun m1 u H1 E1 R1 r1 => ⟨m1, ρ, S1, _, S2, R1, r.kp (E1.kp R), e2, fun m2 uo H2 E2 R2 r2 => ⟨m2, ρ, S2, iv, S3, R2, r.kp ((E1.trans E2).kp R), e3, fun m3 ui H3 E3 R3 r3 => ?_⟩⟩⟩
              refine stL m3 S3 H3 _ iv v S4 uo ui u _ R3 (r2.kp (E3.kp R2)) r3 (r1.kp ((E2.trans E3).kp R1)) e4 fun H4 E4 R4 => ?_
              exact q m3 σ H4 (((E1.trans E2).trans E3).trans E4) R4 (r.kp ((((E1.trans E2).trans E3).trans E4).kp R))
          · cases e4
        · exact q.elim
      · exact q.elim
    · exact q.elim
  · exact q.elim

def eGet1 (fo fi : EF) : EF := fun ρ S => (fo ρ S).bind fun p => match p.1 with
  | .ref n => match p.2[n]? with
    | some (.dic _) => (fi ρ p.2).bind fun q => match q.2[n]?, AL.keyOf q.1 with
      | some (.dic kvs), some k => some ((valA kvs k).getD .non, q.2)
      | _, _ => none
    | _ => none
  | _ => none
theorem aget1 {apos cpos : Pos} (hu : X.A.units + 1 < cLine) (ho : AE X o fo) (he : AE X e fi) (hm : M1 X o "get" apos e cpos) : AE X (.Call (.Attribute o "get" apos) [e] [] cpos) (eGet1 fo fi) := pe_w (pe_dget1 hu ho he hm) fun σ H Q h => by
  obtain ⟨m, ρ, S, v, S', R, r, e, q⟩ := h
  obtain ⟨⟨x, S1⟩, e1, e⟩ := Option.bind_eq_some_iff.mp e
  dsimp only at e
  split at e
  · next n =>
    split at e
    · next kvs0 en0 =>
      obtain ⟨⟨y, S2⟩, e2, e⟩ := Option.bind_eq_some_iff.mp e
      dsimp only at e
      split at e
      · next kvs k en ek =>
        cases e
        refine ⟨m, ρ, S, _, S1, R, r, e1, fun m1 u H1 E1 R1 r1 => ?_⟩
        cases r1 with
        | ref hm =>
          rename_i ad
          obtain ⟨xs0, hx0, _⟩ := R1.ob _ _ _ en0 hm
          refine ⟨ad, rfl, .inl ⟨xs0, .inl hx0⟩, m1, ρ, S1, y, _, R1, r.kp (E1.kp R), e2, fun m2 w H2 E2 R2 r2 => ?_⟩
          obtain ⟨xs, hx, hk⟩ := R2.ob _ _ _ en ((E2.kp R1).get hm)
          refine ⟨valV xs k, by rw [r2.key ek]; exact DGet.k hx, ?_⟩
          rcases KR.val hk k with ⟨z1, z2⟩ | ⟨u', v2, h1, h2, h3⟩
          · rw [z2] at q
            rw [z1]
            exact q m2 _ H2 (E1.trans E2) R2 .non
          · rw [h2] at q
            rw [h1]
            exact q m2 _ H2 (E1.trans E2) R2 h3
      · cases e
    · cases e
  · cases e
def eGet2 (fo fi fx : EF) : EF := fun ρ S => (fo ρ S).bind fun p => match p.1 with
  | .ref n => match p.2[n]? with
    | some (.dic _) => (fi ρ p.2).bind fun q => (fx ρ q.2).bind fun z => match z.2[n]?, AL.keyOf q.1 with
      | some (.dic kvs), some k => some ((valA kvs k).getD z.1, z.2)
      | _, _ => none
    | _ => none
  | _ => none
theorem aget2 {apos cpos : Pos} {x : Expr} {fx : EF} (hu : X.A.units + 1 < cLine) (ho : AE X o fo) (he : AE X e fi) (hx : AE X x fx) (hm : M2 X o "get" apos e x cpos) : AE X (.Call (.Attribute o "get" apos) [e, x] [] cpos) (eGet2 fo fi fx) := pe_w (pe_dget2 hu ho he hx hm) fun σ H Q h => by
  obtain ⟨m, ρ, S, v, S', R, r, e, q⟩ := h
  obtain ⟨⟨x, S1⟩, e1, e⟩ := Option.bind_eq_some_iff.mp e
  dsimp only at e
  split at e
  · next n =>
    split at e
    · next kvs0 en0 =>
      obtain ⟨⟨y, S2⟩, e2, e⟩ := Option.bind_eq_some_iff.mp e
      obtain ⟨⟨z, S3⟩, e3, e⟩ := Option.bind_eq_some_iff.mp e
      dsimp only at e
      split at e
      · next kvs k en ek =>
        cases e
        refine ⟨m, ρ, S, _, S1, R, r, e1, fun m1 u H1 E1 R1 r1 => ?_⟩
        cases r1 with
        | ref hm =>
          rename_i ad
          obtain ⟨xs0, hx0, _⟩ := R1.ob _ _ _ en0 hm
          refine ⟨ad, rfl, .inl ⟨xs0, .inl hx0⟩, m1, ρ, S1, y, _, R1, r.kp (E1.kp R), e2, fun m2 w H2 E2 R2 r2 => ⟨m2, ρ, S2, z, _, R2, r.kp ((E1.trans E2).kp R), e3, fun m3 w3 H3 E3 R3 r3 => ?_⟩⟩
          obtain ⟨xs, hx, hk⟩ := R3.ob _ _ _ en (((E2.trans E3).kp R1).get hm)
          refine ⟨valV xs k, by rw [r2.key ek]; exact DGet.k hx, ?_⟩
          rcases KR.val hk k with ⟨z1, z2⟩ | ⟨u', v2, h1, h2, h3⟩
          · rw [z2] at q
            rw [z1]
            exact q m3 _ H3 ((E1.trans E2).trans E3) R3 r3
          · rw [h2] at q
            rw [h1]
            exact q m3 _ H3 ((E1.trans E2).trans E3) R3 h3
      · cases e
    · cases e
  · cases e
def flatA : Val → Bool
  | .non => true
  | .bl _ => true
  | .int _ => true
  | .str _ => true
  | _ => false
def eqF : Val → Val → Bool
  | .non, .non => true
  | .bl a, .bl b => a == b
  | .bl a, .int b => (if a then 1 else 0) == b
  | .int a, .bl b => a == (if b then 1 else 0)
  | .int a, .int b => a == b
  | .str a, .str b => a == b
  | _, _ => false
def inA (x : Val) (vs : List Val) : Bool := vs.any fun y => eqF y x
theorem VR.flat {H : Hp} {m : List Addr} {u : V} {v : Val} (r : VR K H m u v) (h : flatA v = true) : flatV u = true := by
  cases r <;> first | rfl | cases h
theorem VR.eqF {H : Hp} {m : List Addr} {u w : V} {v x : Val} (r : VR K H m u v) (r2 : VR K H m w x) (h : flatA v = true) (h2 : flatA x = true) : eqV u w = AL.eqF v x := by
  cases r <;> cases r2 <;> first | rfl | cases h | cases h2
theorem VRs.flat {H : Hp} {m : List Addr} : ∀ {us : List V} {vs : List Val}, VRs K H m us vs → vs.all flatA = true → us.all flatV = true
  | _, _, .nil, _ => rfl
  | _, _, .cons a r, h => by
    rw [List.all_cons, Bool.and_eq_true] at h
    rw [List.all_cons, a.flat h.1, r.flat h.2]
    rfl
theorem VRs.inA {H : Hp} {m : List Addr} {u : V} {x : Val} (ru : VR K H m u x) (hx : flatA x = true) : ∀ {us : List V} {vs : List Val}, VRs K H m us vs → vs.all flatA = true → inV u us = AL.inA x vs
  | _, _, .nil, _ => rfl
  | _, _, .cons a r, h => by
    rw [List.all_cons, Bool.and_eq_true] at h
    have := VRs.inA ru hx r h.2
    unfold inV AL.inA at this ⊢
    rw [List.any_cons, List.any_cons, this, a.eqF ru h.1 hx]
def gInS (neg : Bool) : Val → Val → Sto → Option (Val × Sto) := fun x y S => match y with
  | .tup vs => if flatA x && vs.all flatA then some (.bl (if neg then !inA x vs else inA x vs), S) else none
  | .ref n => match S[n]? with
    | some (.lst vs) => if flatA x && vs.all flatA then some (.bl (if neg then !inA x vs else inA x vs), S) else none
    | _ => none
  | _ => none
theorem oInS {neg : Bool} : OpA K (rIn K neg) (gInS neg) := by
  intro m S H x y v S' u w Q R ru rw_ e q
  unfold gInS at e
  split at e
  · next vs =>
    split at e
    · next h =>
      rw [Bool.and_eq_true] at h
      cases e
      cases rw_ with
      | tup ha ra =>
        refine ⟨_, _, rfl, .inr ha.sq, ru.flat h.1, ra.flat h.2, ?_⟩
        rw [VRs.inA ru h.1 ra h.2]
        exact q m _ H (.refl _ _) R (.bl _)
    · cases e
  · split at e
    · next n _ vs en =>
      split at e
      · next h =>
        rw [Bool.and_eq_true] at h
        cases e
        cases rw_ with
        | ref hm =>
          obtain ⟨xs, hx, rx⟩ := R.ob _ _ _ en hm
          refine ⟨_, _, rfl, .inl (SqL.of hx), ru.flat h.1, rx.flat h.2, ?_⟩
          rw [VRs.inA ru h.1 rx h.2]
          exact q m _ H (.refl _ _) R (.bl _)
      · cases e
    · cases e
  · cases e
def gIn (neg : Bool) : Val → Val → Sto → Option (Val × Sto) := fun x y S => match y with
  | .ref n => match S[n]? with
    | some (.dic kvs) => match AL.keyOf x with
      | some k => some (.bl (if neg then !(valA kvs k).isSome else (valA kvs k).isSome), S)
      | none => none
    | _ => gInS neg x y S
  | _ => gInS neg x y S
theorem gIn_ok {neg : Bool} {σ : L2.St} {H : Hp} {Q : VK} (h : tF K (eB (gIn neg) fa fb) σ H Q) :
    tOp (rIn K neg) (tF K fa) (tF K fb) σ H Q ∨ (tF K fa σ H fun y H1 => tF K fb σ H1 fun x H2 => ∃ a o, x = .ref a ∧ DGet H2 a y o ∧ Q (.bl (if neg then !o.isSome else o.isSome)) H2) := by
  obtain ⟨m, ρ, S, v, S', R, r, e, q⟩ := h
  obtain ⟨⟨x, S1⟩, e1, e⟩ := Option.bind_eq_some_iff.mp e
  obtain ⟨⟨y, S2⟩, e2, e⟩ := Option.bind_eq_some_iff.mp e
  dsimp only at e e2
  have plain : gInS neg x y S2 = some (v, S') → tOp (rIn K neg) (tF K fa) (tF K fb) σ H Q := fun e => eB_ok oInS ⟨m, ρ, S, v, S', R, r, by simp only [eB, e1, e2, Option.bind_some, e], q⟩
  unfold gIn at e
  split at e
  · next n =>
    split at e
    · next kvs en =>
      split at e
      · next k ek =>
        cases e
        refine .inr ⟨m, ρ, S, x, S1, R, r, e1, fun m1 u H1 E1 R1 r1 => ⟨m1, ρ, S1, _, _, R1, r.kp (E1.kp R), e2, fun m2 w H2 E2 R2 r2 => ?_⟩⟩
        cases r2 with
        | ref hm =>
          obtain ⟨xs, hx, hk⟩ := R2.ob _ _ _ en hm
          refine ⟨_, valV xs k, rfl, by rw [(r1.kp (E2.kp R1)).key ek]; exact DGet.k hx, ?_⟩
          have eq : (valV xs k).isSome = (valA kvs k).isSome := by
            rcases KR.val hk k with ⟨z1, z2⟩ | ⟨u', v2, h1, h2, h3⟩
            · rw [z1, z2]; rfl
            · rw [h1, h2]; rfl
          rw [eq]
          exact q m2 _ H2 (E1.trans E2) R2 (.bl _)
      · cases e
    · exact .inl (plain e)
  · exact .inl (plain e)
theorem atin (hu : X.A.units + 1 < cLine) (ha : AE X a fa) (hb : AE X b fb) (hm : behindInMarks .In b = false := by rfl) : AT X (.Compare a [.In] [b] pos) (eT (eB (gIn false) fa fb)) :=
  pt_w (pt_or2 (pt_cmpR op_in_seq ha hb hm) (pt_cmp (pc_din hu ha hb) hm)) fun σ H Q h => gIn_ok (eT_ok h)
theorem atnin (hu : X.A.units + 1 < cLine) (ha : AE X a fa) (hb : AE X b fb) (hm : behindInMarks .NotIn b = false := by rfl) : AT X (.Compare a [.NotIn] [b] pos) (eT (eB (gIn true) fa fb)) :=
  pt_w (pt_or2 (pt_cmpR op_notIn_seq ha hb hm) (pt_cmp (pc_dnotin hu ha hb) hm)) fun σ H Q h => gIn_ok (eT_ok h)
def strsOf : List Val → Option (List Str)
  | [] => some []
  | .str x :: r => (strsOf r).map (x :: ·)
  | _ => none
theorem strs_eq : ∀ {vs : List Val} {ss : List Str}, strsOf vs = some ss → vs = ss.map Val.str
  | [], ss, h => by cases h; rfl
  | .str x :: r, ss, h => by
    obtain ⟨t, h1, h2⟩ := Option.map_eq_some_iff.mp h
    cases h2
    rw [strs_eq h1]
    rfl
  | .non :: r, _, h => by cases h
  | .bl _ :: r, _, h => by cases h
  | .int _ :: r, _, h => by cases h
  | .tup _ :: r, _, h => by cases h
  | .ref _ :: r, _, h => by cases h
  | .scr _ :: r, _, h => by cases h
  | .lam _ _ _ _ _ :: r, _, h => by cases h
  | .exc _ _ _ _ :: r, _, h => by cases h
  | .ptu _ :: r, _, h => by cases h
theorem vrs_strs_inv {H : Hp} {m : List Addr} : ∀ {ss : List Str} {us : List V}, VRs K H m us (ss.map Val.str) → us = ss.map V.str
  | [], _, h => by cases h; rfl
  | s :: ss, _, h => by
    cases h with
    | cons a r =>
      cases a
      rw [vrs_strs_inv r]
      rfl
def leS (a b : Str) : Bool := !ltCps b.cps.toList a.cps.toList
def sortS (l : List Str) : List Str := l.mergeSort leS
theorem ltCps_iff : ∀ (a b : List Nat), ltCps a b = true ↔ a < b := by
  intro a b
  rw [PyProof.Rows.ltCps_eq, decide_eq_true_iff]
theorem leS_iff {a b : Str} : leS a b = true ↔ ¬ b.cps.toList < a.cps.toList := by
  unfold leS
  rw [Bool.not_eq_true', ← Bool.not_eq_true, ltCps_iff]
theorem leS_trans (a b c : Str) (h1 : leS a b = true) (h2 : leS b c = true) : leS a c = true := by
  rw [leS_iff] at *
  rw [List.not_lt] at *
  exact List.le_trans h1 h2
theorem leS_total (a b : Str) : (leS a b || leS b a) = true := by
  rw [Bool.or_eq_true, leS_iff, leS_iff, List.not_lt, List.not_lt]
  exact List.le_total _ _
theorem leS_anti {a b : Str} (h1 : leS a b = true) (h2 : leS b a = true) : a = b := by
  rw [leS_iff, List.not_lt] at *
  have := List.le_antisymm h1 h2
  cases a
  cases b
  simp only [Str.mk.injEq]
  simpa using this
theorem rising_pw : ∀ (p : Str) (l : List Str), risingS p l = true → (p :: l).Pairwise (fun a b => leS a b = true)
  | p, [], _ => by simp
  | p, x :: r, h => by
    have h : (!ltCps x.cps.toList p.cps.toList && risingS x r) = true := h
    rw [Bool.and_eq_true] at h
    have ih := rising_pw x r h.2
    rw [List.pairwise_cons]
    refine ⟨fun b hb => ?_, ih⟩
    rcases List.mem_cons.mp hb with rfl | hb
    · exact h.1
    · exact leS_trans p x b h.1 ((List.pairwise_cons.mp ih).1 b hb)
theorem sortS_uniq {xs ys : List Str} (hp : ys.Perm xs) (hs : sortedS ys = true) : ys = sortS xs := by
  have p1 : ys.Pairwise (fun a b => leS a b = true) := by
    cases ys with
    | nil => exact .nil
    | cons y ys => exact rising_pw y ys hs
  have p2 : (sortS xs).Pairwise (fun a b => leS a b = true) := List.pairwise_mergeSort leS_trans leS_total xs
  exact List.Perm.eq_of_pairwise (fun a b _ _ h1 h2 => leS_anti h1 h2) p1 p2 (hp.trans (List.mergeSort_perm xs leS).symm)
def keysS : List (Key × Val) → Option (List Str)
  | [] => some []
  | (.inr x, _) :: r => (keysS r).map (x :: ·)
  | _ => none
theorem keysS_eq : ∀ {kvs : List (Key × Val)} {ss : List Str}, keysS kvs = some ss → kvs.map (·.1) = ss.map Sum.inr
  | [], ss, h => by cases h; rfl
  | (.inr x, _) :: r, ss, h => by
    obtain ⟨t, h1, h2⟩ := Option.map_eq_some_iff.mp h
    cases h2
    rw [List.map_cons, keysS_eq h1]
    rfl
  | (.inl x, _) :: r, _, h => by cases h
def gSorted : List Val → Sto → Option (Val × Sto) := fun xs S => match xs with
  | [.ref n] => match S[n]? with
    | some (.lst vs) => match strsOf vs with
      | some ss => if ss.length < 64 then some (.ref S.length, S ++ [.lst ((sortS ss).map Val.str)]) else none
      | none => none
    | some (.dic kvs) => match keysS kvs with
      | some ss => if ss.length < 64 then some (.ref S.length, S ++ [.lst ((sortS ss).map Val.str)]) else none
      | none => none
    | _ => none
  | _ => none
def rSortedA (K : PySem.W.Frag) : List V → Hp → VK → Prop := fun xs H Q => rSortedS K xs H Q ∨ (∃ (a : Addr) (kvs : List (Key × V)) (ks : List Str), xs = [.ref a] ∧ Rd H a (.dK kvs) ∧ kvs.map (·.1) = ks.map Sum.inr ∧ ks.length < 64 ∧
    ∀ ys p, ys.Perm ks → sortedS ys = true → H p = none → Q (.ref p) (upd H p (.lst (ys.map V.str))))
theorem call_sortedA (hc : X.calm = true) : CallR X (.builtin "sorted") (rSortedA X.K) := CallR.or cr_sortedS (call_sortedD hc)
theorem cSorted : CaA K (rSortedA K) gSorted := by
  intro m S H xs v S' us Q R ru e q
  unfold gSorted at e
  split at e
  · next n =>
    obtain ⟨u, rfl, r1⟩ := ru.one_of
    cases r1 with
    | ref hm =>
      split at e
      · next vs en =>
        split at e
        · next ss es =>
          split at e
          · next hl =>
            cases e
            obtain ⟨xs, hx, rx⟩ := R.ob _ _ _ en hm
            rw [strs_eq es] at rx
            rw [vrs_strs_inv rx] at hx
            refine .inl ⟨_, ss, rfl, SqL.of hx, hl, fun ys p h1 h2 hp => ?_⟩
            rw [sortS_uniq h1 h2]
            exact newList R (vrs_strs _) q p hp
          · cases e
        · cases e
      · next kvs en =>
        split at e
        · next ss es =>
          split at e
          · next hl =>
            cases e
            obtain ⟨xs, hx, hk, _⟩ := R.ob _ _ _ en hm
            refine .inr ⟨_, xs, ss, rfl, .inl hx, hk.trans (keysS_eq es), hl, fun ys p h1 h2 hp => ?_⟩
            rw [sortS_uniq h1 h2]
            exact newList R (vrs_strs _) q p hp
          · cases e
        · cases e
      · cases e
  · cases e
def pairK : Val → Option (Key × Val)
  | .tup [k, v] => (AL.keyOf k).map fun k => (k, v)
  | _ => none
def pairsK (vs : List Val) : Option (List (Key × Val)) := mapO pairK vs
theorem pairK_some {v : Val} {p : Key × Val} (h : pairK v = some p) : ∃ k, v = .tup [k, p.2] ∧ AL.keyOf k = some p.1 := by
  unfold pairK at h
  split at h
  · next k w =>
    obtain ⟨k', h1, h2⟩ := Option.map_eq_some_iff.mp h
    cases h2
    exact ⟨k, rfl, h1⟩
  · cases h
def mergeA (kvs more : List (Key × Val)) : List (Key × Val) := more.foldl (fun acc kv => putA acc kv.1 kv.2) kvs
theorem KR.merge {H : Hp} {m : List Addr} : ∀ {ms : List (Key × V)} {ns : List (Key × Val)} {xs : List (Key × V)} {kvs : List (Key × Val)}, KR K H m ms ns → KR K H m xs kvs → KR K H m (mergeK xs ms) (mergeA kvs ns) := by
  intro ms ns
  induction ns generalizing ms with
  | nil => intro xs kvs r q; rw [r.nil_of]; exact q
  | cons y ns ih =>
    intro xs kvs r q
    obtain ⟨x, ms', rfl, e, rv, r'⟩ := r.uncons
    have h := q.put y.1 rv
    rw [← e] at h
    have g := ih r' h
    unfold mergeK mergeA at g ⊢
    rw [List.foldl_cons, List.foldl_cons, ← e]
    exact g
theorem VRs.two_of {H : Hp} {m : List Addr} {us : List V} {v w : Val} (r : VRs K H m us [v, w]) : ∃ u z, us = [u, z] ∧ VR K H m u v ∧ VR K H m z w := by
  cases r with
  | cons a b =>
    obtain ⟨z, rfl, c⟩ := b.one_of
    exact ⟨_, z, rfl, a, c⟩
theorem pairsK_ok {H : Hp} {m : List Addr} : ∀ (vs : List Val) (us : List V) (kvs : List (Key × Val)), VRs K H m us vs → mapO pairK vs = some kvs → ∃ (ps : List Addr) (xs : List (Key × V)), us = ps.map V.ref ∧ Paired (fun p kv => SqT K H p [kV kv.1, kv.2]) ps xs ∧ KR K H m xs kvs := by
  intro vs
  induction vs with
  | nil =>
    intro us kvs r h
    cases r
    cases h
    exact ⟨[], [], rfl, .nil, .nil⟩
  | cons v vs ih =>
    intro us kvs r h
    cases r with
    | cons a r =>
      obtain ⟨p, h1, h⟩ := Option.bind_eq_some_iff.mp h
      obtain ⟨kv, h2, h⟩ := Option.bind_eq_some_iff.mp h
      cases h
      obtain ⟨k, rfl, ek⟩ := pairK_some h1
      obtain ⟨ps, xs, rfl, hp, hk⟩ := ih _ _ r h2
      cases a with
      | tup ha ra =>
        rename_i ad ws
        obtain ⟨u1, u2, rfl, r1, r2⟩ := ra.two_of
        refine ⟨ad :: ps, (p.1, u2) :: xs, rfl, .cons ?_ hp, .cons rfl r2 hk⟩
        have e := r1.key ek
        rw [← e]
        exact ha.sq
theorem asp2' {i j : Nat} {st : Stmt} {ga : AF} (hst : PS X st (tPar i j (tFa X.K ga))) : AS X st (sPar [i, j] ga) := ps_w hst fun D σ H h => by
  obtain ⟨m, ρ, S, R, r, q⟩ := h
  unfold sPar at q
  split at q
  · next vs S1 e1 =>
    split at q
    · next ρ1 e2 =>
      refine ⟨m, ρ, S, vs, S1, R, r, e1, fun m1 us H1 E1 R1 r1 => ?_⟩
      match vs, e2, r1 with
      | [v, w], e2, .cons rv (.cons rw_ .nil) =>
        simp only [List.map_cons, List.map_nil, Pat.binds, Pat.bind, Option.bind_some] at e2
        cases e2
        exact ⟨_, _, rfl, q m1 _ H1 E1 R1 (((r.kp (E1.kp R)).set rv i).set rw_ j)⟩
      | [], e2, _ => simp [Pat.binds] at e2
      | [_], e2, _ => simp [Pat.binds, Pat.bind] at e2
      | _ :: _ :: _ :: _, e2, _ => simp [Pat.binds, Pat.bind] at e2
    · exact q.elim
  · exact q.elim
end
end AL
namespace AL
open PySem PySem.Spec PyProof.Rows L2 G Th
variable [TT]
theorem fn_aG {P : Program} {w : World} {K : PySem.W.Frag} {mg : Str → Option Value} {base : Heap} {x qual : Str} {st : Stmt} {f : Addr} {fd : FuncData} {N ps : List Str} {k : Nat} {g : SF}
    (F : Fun K x qual st f fd) (S : FnScope N ps (defScope st))
    (body : ∀ (cdv : Value) (A : Around) (outer : List Env) (s : Shared) (H : Hp) (E : XK), A.guards = some [] →
      Room k (A.deeper (envOfC qual (defScope st) s.heap.objs.size f cdv)) → ASs (cxOf CX0 P w K mg base N qual (defScope st) f cdv A outer s H E).nox (defBody st) g) {n q : Nat} (hn : N.length = n := by rfl) (hq : ps.length = q := by rfl) :
    FnG P w K mg base (k + 1) f fd ps (spA K q (runF n g)) := by
  subst hn hq
  refine fn_g F S (fun vs H Q E h => h.1) (fun cdv A outer s H us Q E hg hr h => ⟨_, body cdv A outer s H E hg hr, ?_⟩)
  obtain ⟨hl, m, S0, vs, v, S', R, r, e, q⟩ := h
  refine ⟨m, _, S0, R, rho_start N r, ?_⟩
  unfold runF at e
  split at e
  · next v' S1 e1 =>
    cases e
    rw [e1]
    exact q
  · next v' S1 e1 =>
    cases e
    rw [e1]
    exact fun m' σ' H' E' R' r' => q m' .non H' E' R' .non
  · cases e
theorem sqF_of {K : PySem.W.Frag} {H : Hp} {a : Addr} {ns : List Int} (hO : Only H) (h : SqL K H a (ns.map V.int)) : SqF K H a ns := by
  rcases h with (h | ⟨o, h⟩) | h
  · rcases hO a with z | ⟨ob, xs, z⟩ <;> (rw [h] at z; cases z)
  · exact .inl ⟨o, h⟩
  · exact .inr h
theorem rel_nil {K : PySem.W.Frag} {H : Hp} (hT : LamT.Tabs TT.T H) : Rel K [] [] H := ⟨rfl, .nil, fun n o a h => by simp at h, hT⟩
theorem hsp_t {K : PySem.W.Frag} {F : FA} (hF : ∀ ns : List Int, ns.length ≤ 63 → ∃ S', F [.scr ns] [] = some (.bl true, S')) {H : Hp} {a : Addr} {ns : List Int} {E : XK} (hl : ns.length ≤ 63) (hT : LamT.Tabs TT.T H) (hS : SqF K H a ns) : spA K 1 F [.ref a] H (fun v _ => v = .bl true) E := by
  obtain ⟨S', e⟩ := hF ns hl
  refine ⟨rfl, [], [], [.scr ns], .bl true, S', rel_nil hT, .cons (.scr hS) .nil, e, fun m' z H' _ _ r => ?_⟩
  cases r
  rfl
omit [TT] in
theorem hsp_a {K : PySem.W.Frag} {F : FA} (hF : ∀ ns : List Int, ns.length ≤ 63 → ∃ S', F [.scr ns] [] = some (.bl true, S')) {H : Hp} {a : Addr} {ns : List Int} {E : XK} (hl : ns.length ≤ 63) (hO : Only H) (hS : SqL K H a (ns.map V.int)) : @spA noTT K 1 F [.ref a] H (fun v _ => v = .bl true) E :=
  @hsp_t noTT K F hF H a ns E hl (fun p hp => by cases hp) (sqF_of hO hS)
end AL
namespace AL
open PySem PySem.Spec PyProof.Rows L2 G Th
variable [TT]

def Kx (x : Nat) (S S' : Sto) : Prop := ∀ (k : Nat) (o : Ob), k ≠ x → S[k]? = some o → S'[k]? = some o
def Kn (S S' : Sto) : Prop := ∀ (k : Nat) (o : Ob), S[k]? = some o → S'[k]? = some o
theorem Kn.refl (S : Sto) : Kn S S := fun _ _ h => h
theorem Kn.trans {S S1 S2 : Sto} (a : Kn S S1) (b : Kn S1 S2) : Kn S S2 := fun k o h => b k o (a k o h)
theorem Kn.app (S T : Sto) : Kn S (S ++ T) := fun k o h => by
  rw [List.getElem?_append_left (List.getElem?_eq_some_iff.mp h).1]
  exact h
theorem Kn.kx {S S' : Sto} (a : Kn S S') (x : Nat) : Kx x S S' := fun k o _ h => a k o h
theorem Kx.trans {x : Nat} {S S1 S2 : Sto} (a : Kx x S S1) (b : Kx x S1 S2) : Kx x S S2 := fun k o n h => b k o n (a k o n h)
theorem Kx.refl (x : Nat) (S : Sto) : Kx x S S := fun _ _ _ h => h
theorem Kx.put {x : Nat} {S : Sto} {o : Ob} : Kx x S (S.set x o) := fun k o' n h => by
  rw [List.getElem?_set_ne (Ne.symm n)]
  exact h
theorem Kn.len {S S' : Sto} (a : Kn S S') : S.length ≤ S'.length := by
  by_cases h : S.length = 0
  · omega
  · have l : S.length - 1 < S.length := by omega
    have := a (S.length - 1) _ (List.getElem?_eq_getElem l)
    have := (List.getElem?_eq_some_iff.mp this).1
    omega
theorem Kx.len {x : Nat} {S S' : Sto} (a : Kx x S S') (h : x + 1 < S.length) : S.length ≤ S'.length := by
  have l : S.length - 1 < S.length := by omega
  have := a (S.length - 1) _ (by omega) (List.getElem?_eq_getElem l)
  have := (List.getElem?_eq_some_iff.mp this).1
  omega

theorem lcR_pure {p : Pat} {t : BF} {f : EF} {ok : Sto → Prop} {ρ : Rho} {S : Sto} (hok : ok S) (b : Val → Bool) (g : Val → Val) : ∀ (vs acc : List Val), acc.length + vs.length < 1000000 →
    (∀ v ∈ vs, ∃ ρ1, p.bind v ρ = some ρ1 ∧ t ρ1 S = some (b v, S) ∧ (b v = true → f ρ1 S = some (g v, S))) → lcR p t f ok ρ vs acc S = some (acc ++ (vs.filter b).map g, S)
  | [], acc, _, _ => by
    unfold lcR
    rw [if_pos hok]
    simp
  | v :: vs, acc, hl, h => by
    obtain ⟨ρ1, h1, h2, h3⟩ := h v (by simp)
    unfold lcR
    rw [if_pos hok, h1, Option.bind_some, h2, Option.bind_some]
    simp only [List.length_cons] at hl
    cases hb : b v with
    | true =>
      rw [h3 hb]
      simp only [if_true, Option.bind_some, show acc.length < 1000000 by omega, if_true]
      rw [lcR_pure hok b g vs (acc ++ [g v]) (by simp; omega) fun w hw => h w (by simp [hw])]
      simp [List.filter_cons, hb]
    | false =>
      simp only [Bool.false_eq_true, if_false]
      rw [lcR_pure hok b g vs acc (by omega) fun w hw => h w (by simp [hw])]
      simp [List.filter_cons, hb]
theorem forR_nil {p : Pat} {g : SF} {ok : Sto → Prop} {ρ : Rho} {S : Sto} (h : ok S) : forR p g ok [] ρ S = .nx ρ S := by
  unfold forR
  rw [if_pos h]
theorem forR_cons {p : Pat} {g : SF} {ok : Sto → Prop} {v : Val} {vs : List Val} {ρ ρ1 : Rho} {S : Sto} (h : ok S) (hb : p.bind v ρ = some ρ1) : forR p g ok (v :: vs) ρ S = (match g ρ1 S with
      | .nx ρ S => forR p g ok vs ρ S
      | .ct ρ S => forR p g ok vs ρ S
      | .bk ρ S => .nx ρ S
      | .rt v S => .rt v S
      | .stuck => .stuck) := by
  rw [forR]
  dsimp only
  rw [if_pos h, hb]
  all_goals rfl

theorem forR_inv {p : Pat} {g : SF} {ok : Sto → Prop} (I : Nat → Rho → Sto → Prop) (vs : List Val) (hok : ∀ i ρ S, I i ρ S → ok S)
    (step : ∀ i v ρ S, vs[i]? = some v → I i ρ S → ∃ ρ1 ρ2 S2, p.bind v ρ = some ρ1 ∧ g ρ1 S = .nx ρ2 S2 ∧ I (i + 1) ρ2 S2) :
    ∀ (k : Nat) (ρ : Rho) (S : Sto), k ≤ vs.length → I k ρ S → ∃ ρ' S', forR p g ok (vs.drop k) ρ S = .nx ρ' S' ∧ I vs.length ρ' S' := by
  intro k
  induction hn : vs.length - k generalizing k with
  | zero =>
    intro ρ S hk h
    have e : k = vs.length := by omega
    subst e
    rw [List.drop_length]
    exact ⟨ρ, S, forR_nil (hok _ _ _ h), h⟩
  | succ n ih =>
    intro ρ S hk h
    have l : k < vs.length := by omega
    rw [List.drop_eq_getElem_cons l]
    obtain ⟨ρ1, ρ2, S2, h1, h2, h3⟩ := step k vs[k] ρ S (List.getElem?_eq_getElem l) h
    rw [forR_cons (hok _ _ _ h) h1, h2]
    exact ih (k + 1) (by omega) ρ2 S2 (by omega) h3
theorem forR_run {p : Pat} {g : SF} {ok : Sto → Prop} (I : Nat → Rho → Sto → Prop) {vs : List Val} {ρ : Rho} {S : Sto} (hok : ∀ i ρ S, I i ρ S → ok S) (h0 : I 0 ρ S)
    (step : ∀ i v ρ S, vs[i]? = some v → I i ρ S → ∃ ρ1 ρ2 S2, p.bind v ρ = some ρ1 ∧ g ρ1 S = .nx ρ2 S2 ∧ I (i + 1) ρ2 S2) : ∃ ρ' S', forR p g ok vs ρ S = .nx ρ' S' ∧ I vs.length ρ' S' := by
  have := forR_inv I vs hok step 0 ρ S (Nat.zero_le _) h0
  rwa [List.drop_zero] at this

theorem lcR_inv {p : Pat} {t : BF} {f : EF} {ok : Sto → Prop} {ρ : Rho} (I : Nat → List Val → Sto → Prop) (vs : List Val) (hl : vs.length < 900000) (hok : ∀ i a S, I i a S → ok S) (hlen : ∀ i a S, I i a S → a.length ≤ i)
    (step : ∀ i v a S, vs[i]? = some v → I i a S → ∃ ρ1, p.bind v ρ = some ρ1 ∧ ((∃ S1 y S2, t ρ1 S = some (true, S1) ∧ f ρ1 S1 = some (y, S2) ∧ I (i + 1) (a ++ [y]) S2) ∨ (∃ S1, t ρ1 S = some (false, S1) ∧ I (i + 1) a S1))) :
    ∀ (k : Nat) (a : List Val) (S : Sto), k ≤ vs.length → I k a S → ∃ a' S', lcR p t f ok ρ (vs.drop k) a S = some (a', S') ∧ I vs.length a' S' := by
  intro k
  induction hn : vs.length - k generalizing k with
  | zero =>
    intro a S hk h
    have e : k = vs.length := by omega
    subst e
    rw [List.drop_length]
    refine ⟨a, S, ?_, h⟩
    unfold lcR
    rw [if_pos (hok _ _ _ h)]
  | succ n ih =>
    intro a S hk h
    have l : k < vs.length := by omega
    rw [List.drop_eq_getElem_cons l]
    obtain ⟨ρ1, h1, h2⟩ := step k vs[k] a S (List.getElem?_eq_getElem l) h
    have la := hlen _ _ _ h
    rcases h2 with ⟨S1, y, S2, h2, h3, h4⟩ | ⟨S1, h2, h4⟩
    · obtain ⟨a', S', e, h5⟩ := ih (k + 1) (by omega) (a ++ [y]) S2 (by omega) h4
      refine ⟨a', S', ?_, h5⟩
      unfold lcR
      rw [if_pos (hok _ _ _ h), h1, Option.bind_some, h2, Option.bind_some]
      simp only [if_true, h3, Option.bind_some, show a.length < 1000000 by omega, if_true]
      exact e
    · obtain ⟨a', S', e, h5⟩ := ih (k + 1) (by omega) a S1 (by omega) h4
      refine ⟨a', S', ?_, h5⟩
      unfold lcR
      rw [if_pos (hok _ _ _ h), h1, Option.bind_some, h2, Option.bind_some]
      simp only [Bool.false_eq_true, if_false]
      exact e
theorem lcR_run {p : Pat} {t : BF} {f : EF} {ok : Sto → Prop} {ρ : Rho} {S : Sto} (I : Nat → List Val → Sto → Prop) {vs : List Val} (hl : vs.length < 900000) (hok : ∀ i a S, I i a S → ok S) (hlen : ∀ i a S, I i a S → a.length ≤ i) (h0 : I 0 [] S)
    (step : ∀ i v a S, vs[i]? = some v → I i a S → ∃ ρ1, p.bind v ρ = some ρ1 ∧ ((∃ S1 y S2, t ρ1 S = some (true, S1) ∧ f ρ1 S1 = some (y, S2) ∧ I (i + 1) (a ++ [y]) S2) ∨ (∃ S1, t ρ1 S = some (false, S1) ∧ I (i + 1) a S1))) :
    ∃ a' S', lcR p t f ok ρ vs [] S = some (a', S') ∧ I vs.length a' S' := by
  have := lcR_inv I vs hl hok hlen step 0 [] S (Nat.zero_le _) h0
  rwa [List.drop_zero] at this
end AL
namespace K37
open PySem PySem.Spec PyProof.Rows L2 G Th AL
noncomputable def common_divisor_B : SF := (sSeq (sWhile (eT (eB gNe (eV 1) (eC (.int 0)))) (sPar [0, 1] (aCons (eV 1) (aCons (eB gMod (eV 0) (eV 1)) aNil))))
    (sRet (eCall gAbs (aCons (eV 0) aNil))))
noncomputable def common_divisor_ : FA := runF 2 common_divisor_B
noncomputable def ratio_B : SF := (sSeq (sIf (eT (eB gLt (eV 1) (eC (.int 0)))) (sPar [0, 1] (aCons (eU gNeg (eV 0)) (aCons (eU gNeg (eV 1)) aNil))) sNil)
    (sSeq (sAsg (.nm 2) (eDef common_divisor_ 2 (aCons (eV 0) (aCons (eV 1) aNil))))
    (sRet (eTup (aCons (eB gDiv (eV 0) (eV 2)) (aCons (eB gDiv (eV 1) (eV 2)) aNil))))))
noncomputable def ratio_ : FA := runF 3 ratio_B
noncomputable def added_B : SF := (sRet (eDef ratio_ 2 (aCons (eB gAdd (eB gMul (eB gIxA (eV 0) (eC (.int 0))) (eB gIxA (eV 1) (eC (.int 1)))) (eB gMul (eB gIxA (eV 1) (eC (.int 0))) (eB gIxA (eV 0) (eC (.int 1))))) (aCons (eB gMul (eB gIxA (eV 0) (eC (.int 1))) (eB gIxA (eV 1) (eC (.int 1)))) aNil))))
noncomputable def added_ : FA := runF 2 added_B
noncomputable def added_told_B : SF := (sRet (eIf (bOr (eT (eB gIs (eV 0) (eC .non))) (eT (eB gIs (eV 1) (eC .non)))) (eC .non) (eDef added_ 2 (aCons (eV 0) (aCons (eV 1) aNil)))))
noncomputable def added_told_ : FA := runF 2 added_told_B
noncomputable def less_B : SF := (sRet (eDef ratio_ 2 (aCons (eB gSub (eB gMul (eB gIxA (eV 0) (eC (.int 0))) (eB gIxA (eV 1) (eC (.int 1)))) (eB gMul (eB gIxA (eV 1) (eC (.int 0))) (eB gIxA (eV 0) (eC (.int 1))))) (aCons (eB gMul (eB gIxA (eV 0) (eC (.int 1))) (eB gIxA (eV 1) (eC (.int 1)))) aNil))))
noncomputable def less_ : FA := runF 2 less_B
noncomputable def parted_B : SF := (sRet (eDef ratio_ 2 (aCons (eB gMul (eB gIxA (eV 0) (eC (.int 0))) (eB gIxA (eV 1) (eC (.int 1)))) (aCons (eB gMul (eB gIxA (eV 0) (eC (.int 1))) (eB gIxA (eV 1) (eC (.int 0)))) aNil))))
noncomputable def parted_ : FA := runF 2 parted_B
noncomputable def is_below_B : SF := (sRet (eB gLt (eB gMul (eB gIxA (eV 0) (eC (.int 0))) (eB gIxA (eV 1) (eC (.int 1)))) (eB gMul (eB gIxA (eV 1) (eC (.int 0))) (eB gIxA (eV 0) (eC (.int 1))))))
noncomputable def is_below_ : FA := runF 2 is_below_B
noncomputable def least_of_B : SF := (sSeq (sAsg (.nm 1) (eC .non))
    (sSeq (sFor (.nm 2) (iSeq (eV 0)) (sIf (bOr (eT (eB gIs (eV 1) (eC .non))) (eT (eDef is_below_ 2 (aCons (eV 2) (aCons (eV 1) aNil))))) (sAsg (.nm 1) (eV 2)) sNil))
    (sRet (eV 1))))
noncomputable def least_of_ : FA := runF 3 least_of_B
noncomputable def greatest_of_B : SF := (sSeq (sAsg (.nm 1) (eC .non))
    (sSeq (sFor (.nm 2) (iSeq (eV 0)) (sIf (bOr (eT (eB gIs (eV 1) (eC .non))) (eT (eDef is_below_ 2 (aCons (eV 1) (aCons (eV 2) aNil))))) (sAsg (.nm 1) (eV 2)) sNil))
    (sRet (eV 1))))
noncomputable def greatest_of_ : FA := runF 3 greatest_of_B
noncomputable def drift_of_B : SF := (sSeq (sFor (.tp [(.nm 2), (.nm 3), (.nm 4)]) (iSeq (eB gIxA (eV 0) (eC (.int 0)))) (sIf (eT (eB gEq (eV 2) (eV 1))) (sRet (eTup (aCons (eV 3) (aCons (eV 4) aNil)))) sNil))
    (sRet (eC .non)))
noncomputable def drift_of_ : FA := runF 5 drift_of_B
noncomputable def moves_into_B : SF := (sSeq (sAsg (.tp [(.nm 5), (.nm 6), (.nm 7)]) (eV 3))
    (sSeq (sAsg (.nm 4) (eLst aNil))
    (sSeq (sIf (eT (eB gIsN (eV 2) (eC .non))) (sSeq (sAsg (.tp [(.nm 10), (.nm 11)]) (eDef drift_of_ 2 (aCons (eV 0) (aCons (eV 5) aNil))))
    (sSeq (sAsg (.nm 8) (eDef less_ 2 (aCons (eV 6) (aCons (eB gIxA (eB gIxA (eV 1) (eV 2)) (eC (.int 1))) aNil))))
    (sExpr (eMt isL gApp (eV 4) (aCons (eTup (aCons (eV 2) (aCons (eTup (aCons (eDef parted_ 2 (aCons (eV 8) (aCons (eV 11) aNil))) (aCons (eDef parted_ 2 (aCons (eV 8) (aCons (eV 10) aNil))) aNil))) aNil))) aNil))))) sNil)
    (sSeq (sIf (eT (eB gEq (eB gIxA (eV 7) (eC (.int 0))) (eC (.str "hear")))) (sSeq (sAsg (.nm 9) (eB gIxA (eB gIxA (eV 1) (eB gIxA (eV 7) (eC (.int 1)))) (eC (.int 2))))
    (sExpr (eMt isL gApp (eV 4) (aCons (eTup (aCons (eB gIxA (eV 7) (eC (.int 1))) (aCons (eSl gSl (eB gIxA (eB gIxA (eV 0) (eC (.int 1))) (eB gIxA (eV 9) (eC (.int 1)))) (oS (eC (.int 2))) oN) aNil))) aNil)))) sNil)
    (sRet (eV 4))))))
noncomputable def moves_into_ : FA := runF 12 moves_into_B
noncomputable def history_moves_B : SF := (sSeq (sAsg (.tp [(.nm 3), (.nm 4)]) (eV 0))
    (sSeq (sAsg (.nm 1) eDic)
    (sSeq (sAsg (.nm 2) (eLst aNil))
    (sSeq (sFor (.tp [(.nm 5), (.nm 6)]) (iEn (aCons (eV 4) aNil)) (sSeq (sExpr (eMt isL gApp (eV 2) (aCons (eDef moves_into_ 4 (aCons (eV 3) (aCons (eV 4) (aCons (eGet1 (eV 1) (eB gIxA (eV 6) (eC (.int 0)))) (aCons (eV 6) aNil))))) aNil)))
    (sSub gSetA (eV 1) (eB gIxA (eV 6) (eC (.int 0))) (eV 5))))
    (sRet (eV 2))))))
noncomputable def history_moves_ : FA := runF 7 history_moves_B
noncomputable def moved_end_B : SF := (sSeq (sAsg (.tp [(.nm 3), (.nm 4)]) (eV 0))
    (sRet (eDef added_told_ 2 (aCons (eB gIxA (eB gIxA (eV 1) (eV 3)) (eV 2)) (aCons (eB gIxA (eV 4) (eV 2)) aNil)))))
noncomputable def moved_end_ : FA := runF 5 moved_end_B
noncomputable def ends_told_B : SF := (sSeq (sAsg (.nm 3) (eLc (.nm 4) (iSeq (eV 0)) bYes (eDef moved_end_ 3 (aCons (eV 4) (aCons (eV 1) (aCons (eV 2) aNil)))) [4]))
    (sRet (eLc (.nm 5) (iSeq (eV 3)) (eT (eB gIsN (eV 5) (eC .non))) (eV 5) [5])))
noncomputable def ends_told_ : FA := runF 6 ends_told_B
noncomputable def kept_pair_B : SF := (sSeq (sAsg (.tp [(.nm 4), (.nm 5), (.nm 6)]) (eV 1))
    (sSeq (sIf (eT (eB gEq (eV 4) (eB gIxA (eV 0) (eC (.int 2))))) (sRet (eTup (aCons (eV 5) (aCons (eV 5) aNil)))) sNil)
    (sRet (eTup (aCons (eDef greatest_of_ 1 (aCons (eDef ends_told_ 3 (aCons (eV 2) (aCons (eV 3) (aCons (eC (.int 0)) aNil)))) aNil)) (aCons (eDef least_of_ 1 (aCons (eDef ends_told_ 3 (aCons (eV 2) (aCons (eV 3) (aCons (eC (.int 1)) aNil)))) aNil)) aNil))))))
noncomputable def kept_pair_ : FA := runF 7 kept_pair_B
noncomputable def kept_pairs_B : SF := (sSeq (sAsg (.tp [(.nm 2), (.nm 3)]) (eV 0))
    (sSeq (sAsg (.nm 1) (eLst aNil))
    (sSeq (sFor (.tp [(.nm 4), (.nm 5)]) (iZp (aCons (eV 3) (aCons (eDef history_moves_ 1 (aCons (eV 0) aNil)) aNil))) (sExpr (eMt isL gApp (eV 1) (aCons (eDef kept_pair_ 4 (aCons (eV 2) (aCons (eV 4) (aCons (eV 5) (aCons (eV 1) aNil))))) aNil))))
    (sRet (eCall gTuple (aCons (eV 1) aNil))))))
noncomputable def kept_pairs_ : FA := runF 6 kept_pairs_B
end K37
namespace AL
open PySem PySem.Spec PyProof.Rows L2 G Th
variable [TT]

section
variable {X : Cx} {e : Expr} {es : List Expr} {kws : List Keyword} {pos p : Pos} {f : EF} {ga gk : AF} {nm : Option Str} {kpos : Pos} {st : Stmt}

def sStuck : SF := fun _ _ => .stuck
end
def eDefK (F : FA) (n m : Nat) (gA : List Val → List Val → List Val) (ga gk : AF) : EF := fun ρ S => (ga ρ S).bind fun p => (gk ρ p.2).bind fun q => if p.1.length = n ∧ q.1.length = m then F (gA p.1 q.1) q.2 else none
end AL
namespace AL
open PySem PySem.Spec PyProof.Rows L2 G Th
variable [TT]
def tyN : Val → Sto → Option String := fun v S => match v with
  | .non => some "NoneType"
  | .bl _ => some "bool"
  | .int _ => some "int"
  | .str _ => some "str"
  | .tup _ => some "tuple"
  | .scr _ => some "list"
  | .ref n => match S[n]? with
    | some (.lst _) => some "list"
    | some (.dic _) => some "dict"
    | _ => none
  | .lam _ _ _ _ _ => none
  | .exc _ _ _ _ => none
  | .ptu _ => none
def gIsi (T : String) : Val → Sto → Option (Val × Sto) := fun v S => (tyN v S).bind fun a => (L2.kitB a T).map fun b => (.bl b, S)
theorem kit_int_int : L2.kitB "int" "int" = some true := by decide +kernel
theorem kit_bool_int : L2.kitB "bool" "int" = some true := by decide +kernel
theorem kit_str_int : L2.kitB "str" "int" = some false := by decide +kernel
theorem kit_tuple_int : L2.kitB "tuple" "int" = some false := by decide +kernel
theorem kit_list_int : L2.kitB "list" "int" = some false := by decide +kernel
theorem kit_NoneType_int : L2.kitB "NoneType" "int" = some false := by decide +kernel
theorem kit_int_bool : L2.kitB "int" "bool" = some false := by decide +kernel
theorem kit_bool_bool : L2.kitB "bool" "bool" = some true := by decide +kernel
theorem kit_int_str : L2.kitB "int" "str" = some false := by decide +kernel
theorem kit_bool_str : L2.kitB "bool" "str" = some false := by decide +kernel
theorem kit_str_str : L2.kitB "str" "str" = some true := by decide +kernel
theorem kit_tuple_str : L2.kitB "tuple" "str" = some false := by decide +kernel
theorem kit_list_str : L2.kitB "list" "str" = some false := by decide +kernel
theorem kit_NoneType_str : L2.kitB "NoneType" "str" = some false := by decide +kernel
theorem kit_int_tuple : L2.kitB "int" "tuple" = some false := by decide +kernel
theorem kit_bool_tuple : L2.kitB "bool" "tuple" = some false := by decide +kernel
theorem kit_str_tuple : L2.kitB "str" "tuple" = some false := by decide +kernel
theorem kit_tuple_tuple : L2.kitB "tuple" "tuple" = some true := by decide +kernel
theorem kit_list_tuple : L2.kitB "list" "tuple" = some false := by decide +kernel
theorem kit_NoneType_tuple : L2.kitB "NoneType" "tuple" = some false := by decide +kernel
section
variable {X : Cx} {e : Expr} {f : EF} {p p2 pos : Pos} {K : PySem.W.Frag}
theorem tyN_ok {m : List Addr} {S : Sto} {H : Hp} {u : V} {v : Val} {a : String} (R : Rel K m S H) (r : VR K H m u v) (h : tyN v S = some a) : TyX K H u (.type a) := by
  cases v with
  | non => cases h; cases r; exact .base .non
  | bl b => cases h; cases r; exact .base (.bl _)
  | int b => cases h; cases r; exact .base (.int _)
  | str b => cases h; cases r; exact .base (.str _)
  | tup vs =>
    cases h
    cases r with
    | tup ha ra =>
      rcases ha with ha | ⟨o, its, n, hl, hc, _⟩ | ⟨o, ha⟩
      · exact .base (.tup ha)
      · exact .kTuple hl hc
      · exact .fTuple ha
  | scr ns =>
    cases h
    cases r with
    | scr hs =>
      rcases hs with ⟨o, hs⟩ | ⟨o, its, n, hl, hc, _⟩
      · exact .base (.frz hs)
      · exact .kList hl hc
  | ref n =>
    cases r with
    | ref ha =>
      simp only [tyN] at h
      split at h
      · next vs en =>
        cases h
        obtain ⟨xs, hx, _⟩ := R.ob _ _ _ en ha
        exact .base (.lst hx)
      · next kvs en =>
        cases h
        obtain ⟨xs, hx, _⟩ := R.ob _ _ _ en ha
        exact .base (.dK hx)
      · cases h
  | lam _ _ _ _ _ => cases h
  | exc _ _ _ _ => cases h
  | ptu _ => cases h
theorem aisi {T : String} {x : Str} (hg : Gl X "isinstance") (hm : X.mg "isinstance" = none) (hgT : Gl X x) (hmT : X.mg x = none) (hv : bootBuiltins x = some (.type T)) (he : AE X e f) (hn : x ≠ "__name__" := by decide) (hd : (x == ("__debug__" : Str)) = false := by decide)
    (hs : starEach [e, .Name x p2] X.env = (false, eval e X.env) :: starEach [.Name x p2] X.env := by rfl) (hpl : (backTo pos (starEach [.Name x p2] X.env)).any (·.1) = false := by rfl) : AE X (.Call (.Name "isinstance" p) [e, .Name x p2] [] pos) (eU (gIsi T) f) := by
  refine pe_w (pe_callB call_isi hg hm (by decide +kernel) (pa_cons he (pa_cons (pe_bltn (v := .ty T) hgT hmT hv rfl hn hd) pa_nil) hs) (by decide) (by decide) hs hpl) fun σ H Q h => ?_
  obtain ⟨m, ρ, S, v, S', R, r, e, q⟩ := h
  obtain ⟨⟨x1, S1⟩, e1, e⟩ := Option.bind_eq_some_iff.mp e
  unfold gIsi at e
  obtain ⟨a, ea, e⟩ := Option.bind_eq_some_iff.mp e
  obtain ⟨b, eb, e⟩ := Option.map_eq_some_iff.mp e
  cases e
  refine ⟨m, ρ, S, x1, S1, R, r, e1, fun m1 u H1 E1 R1 r1 => ?_⟩
  exact ⟨u, .ty T, .type a, .type T, b, rfl, .ty T, tyN_ok R1 r1 ea, kit_ty eb, q m1 _ H1 E1 R1 (.bl b)⟩

def blsOf : List Val → Option (List Bool)
  | [] => some []
  | .bl b :: vs => (blsOf vs).map fun bs => b :: bs
  | _ :: _ => none
theorem bls_eq : ∀ {vs : List Val} {bs : List Bool}, blsOf vs = some bs → vs = bs.map Val.bl
  | [], bs, h => by cases h; rfl
  | .bl b :: vs, bs, h => by
    simp only [blsOf] at h
    obtain ⟨cs, h1, rfl⟩ := Option.map_eq_some_iff.mp h
    rw [bls_eq h1]
    rfl
  | .non :: _, _, h => by cases h
  | .int _ :: _, _, h => by cases h
  | .str _ :: _, _, h => by cases h
  | .tup _ :: _, _, h => by cases h
  | .ref _ :: _, _, h => by cases h
  | .scr _ :: _, _, h => by cases h
  | .lam _ _ _ _ _ :: _, _, h => by cases h
  | .exc _ _ _ _ :: _, _, h => by cases h
  | .ptu _ :: _, _, h => by cases h
theorem bls_map (bs : List Bool) : blsOf (bs.map Val.bl) = some bs := by
  induction bs with
  | nil => rfl
  | cons b bs ih => simp only [List.map_cons, blsOf, ih, Option.map_some]
theorem vrs_bls {H : Hp} {m : List Addr} : ∀ {bs : List Bool} {us : List V}, VRs K H m us (bs.map Val.bl) → us = bs.map V.bl
  | [], us, h => by cases h; rfl
  | b :: bs, us, h => by
    cases h with
    | cons a r =>
      cases a
      rw [vrs_bls r]
      rfl
def gAll : List Val → Sto → Option (Val × Sto) := fun xs S => match xs with
  | [.ref n] => match S[n]? with
    | some (.lst vs) => (blsOf vs).map fun bs => (.bl (bs.all id), S)
    | _ => none
  | _ => none
theorem cAll : CaA K (rAll K) gAll := by
  intro m S H xs v S' us Q R r e q
  unfold gAll at e
  split at e
  · next n =>
    split at e
    · next vs en =>
      obtain ⟨bs, hb, e⟩ := Option.map_eq_some_iff.mp e
      cases e
      obtain ⟨u, rfl, ru⟩ := r.one_of
      cases ru with
      | ref ha =>
        obtain ⟨ys, hy, ry⟩ := R.ob _ _ _ en ha
        rw [bls_eq hb] at ry
        have := vrs_bls ry
        subst this
        exact ⟨_, bs, rfl, SqL.of hy, q m _ H (.refl _ _) R (.bl _)⟩
    · cases e
  · cases e

theorem VRs.rev {H : Hp} {m : List Addr} : ∀ {us : List V} {vs : List Val}, VRs K H m us vs → VRs K H m us.reverse vs.reverse
  | _, _, .nil => .nil
  | _, _, .cons a r => by
    rw [List.reverse_cons, List.reverse_cons]
    exact (VRs.rev r).app a.one

def gIsT : Val → Val → Sto → Option (Val × Sto) := fun x y S => match x, y with
  | .bl a, .bl b => some (.bl (decide (a = b)), S)
  | _, _ => none
def gIsNT : Val → Val → Sto → Option (Val × Sto) := fun x y S => match x, y with
  | .bl a, .bl b => some (.bl (!decide (a = b)), S)
  | _, _ => none
end
end AL
namespace AL
open PySem PySem.Spec PyProof.Rows L2 G Th
variable [TT]
def pairUp : List Val → Option (List (Key × Val))
  | [] => some []
  | k :: v :: r => match AL.keyOf k, pairUp r with
    | some k, some r => some ((k, v) :: r)
    | _, _ => none
  | _ => none
def flat (ps : List (V × V)) : List V := ps.flatMap fun p => [p.1, p.2]
section
variable {X : Cx} {pos : Pos} {K : PySem.W.Frag} {ga : AF}
theorem pairUp_ok {H : Hp} {m : List Addr} : ∀ (ps : List (V × V)) (vs : List Val) (kvs : List (Key × Val)), VRs K H m (flat ps) vs → pairUp vs = some kvs → ∃ xs : List (Key × V), ps = xs.map (fun kv => (kV kv.1, kv.2)) ∧ KR K H m xs kvs ∧ xs.length = kvs.length
  | [], vs, kvs, r, h => by
    cases r
    cases h
    exact ⟨[], rfl, .nil, rfl⟩
  | (x, y) :: ps, vs, kvs, r, h => by
    cases r with
    | cons r1 r =>
      cases r with
      | cons r2 r =>
        unfold pairUp at h
        split at h
        · next k rest hk hr =>
          cases h
          obtain ⟨xs, e, kr, l⟩ := pairUp_ok ps _ _ r hr
          exact ⟨(k, y) :: xs, by have z := r1.key hk; dsimp only at z; rw [List.map_cons, ← e, z], .cons rfl r2 kr, by simp [l]⟩
        · cases h
def ADp (X : Cx) (pos : Pos) (keys : List (Option Expr)) (values : List Expr) (ga : AF) : Prop := ∃ trs, PPs X pos keys values trs ∧ ∀ (σ : L2.St) (H : Hp) (Q : List (V × V) → Hp → Prop), (∃ m ρ S vs S', Rel X.K m S H ∧ RhoR X.K H m ρ σ ∧ ga ρ S = some (vs, S') ∧ ∀ m' ps H', Ext m H m' H' → Rel X.K m' S' H' → VRs X.K H' m' (flat ps) vs → Q ps H') → tPairs trs σ H Q
theorem adp0 : ADp X pos [] [] aNil := ⟨[], pps_nil, fun σ H Q ⟨m, ρ, S, vs, S', R, r, e, q⟩ => by
  cases e
  exact q m [] H (.refl _ _) R .nil⟩
theorem adp1 {k v : Expr} {ks : List (Option Expr)} {vs : List Expr} {fk fv : EF} (hk : AE X k fk) (hv : AE X v fv) (hr : ADp X pos ks vs ga) : ADp X pos (some k :: ks) (v :: vs) (aCons fk (aCons fv ga)) := by
  obtain ⟨trs, hp, h⟩ := hr
  refine ⟨_, pps_cons hk hv hp, fun σ H Q ⟨m, ρ, S, ws, S', R, r, e, q⟩ => ?_⟩
  obtain ⟨⟨x, S1⟩, e1, e⟩ := Option.bind_eq_some_iff.mp e
  obtain ⟨⟨y', S3⟩, e', e⟩ := Option.bind_eq_some_iff.mp e
  cases e
  obtain ⟨⟨y, S2⟩, e2, e'⟩ := Option.bind_eq_some_iff.mp e'
  obtain ⟨⟨zs, S4⟩, e3, e'⟩ := Option.bind_eq_some_iff.mp e'
  cases e'
  exact ⟨m, ρ, S, x, S1, R, r, e1, fun m1 u H1 E1 R1 r1 => ⟨m1, ρ, S1, y, S2, R1, r.kp (E1.kp R), e2, fun m2 w H2 E2 R2 r2 => h σ H2 _ ⟨m2, ρ, S2, zs, _, R2, r.kp ((E1.trans E2).kp R), e3, fun m3 ps H3 E3 R3 r3 =>
    q m3 ((u, w) :: ps) H3 ((E1.trans E2).trans E3) R3 (.cons (r1.kp ((E2.trans E3).kp R1)) (.cons (r2.kp (E3.kp R2)) r3))⟩⟩⟩
def eDsp (ga : AF) : EF := fun ρ S => (ga ρ (S ++ [.dic []])).bind fun p => match pairUp p.1, p.2[S.length]? with
  | some kvs, some (.dic []) => if kvs.length ≤ 15 then some (.ref S.length, p.2.set S.length (.dic (mergeA [] kvs))) else none
  | _, _ => none
theorem adsp {keys : List (Option Expr)} {values : List Expr} (h : ADp X pos keys values ga) (hall : keys.all (·.isSome) = true := by rfl) (hl : keys.length = values.length := by rfl) (h0 : keys ≠ [] := by simp) (h15 : keys.length ≤ 15 := by simp) : AE X (.Dict keys values pos) (eDsp ga) := by
  obtain ⟨trs, hp, h⟩ := h
  refine pe_w (pe_disp hp hall hl h0 h15) fun σ H Q ⟨m, ρ, S, v, S', R, r, e, q⟩ => ?_
  intro p hn
  obtain ⟨R1, E1⟩ := R.alloc (o := .dK []) (b := .dic []) hn ⟨[], upd_same, (KR.nil : KR X.K _ _ [] [])⟩
  obtain ⟨⟨vs, S2⟩, e1, e⟩ := Option.bind_eq_some_iff.mp e
  dsimp only at e
  split at e
  · next kvs hkv hs =>
    split at e
    · next l15 =>
      cases e
      refine h σ _ _ ⟨m ++ [p], ρ, _, vs, S2, R1, r.kp (E1.kp R), e1, fun m2 ps H2 E2 R2 r2 => ?_⟩
      have hm : m2[S.length]? = some p := (E2.kp R1).get (by rw [← R.len, List.getElem?_concat_length])
      obtain ⟨xs, hx, hk⟩ := R2.ob _ _ _ hs hm
      have hk : KR X.K H2 m2 xs [] := hk
      have z := hk.nil_of
      subst z
      obtain ⟨ys, rfl, kr, yl⟩ := pairUp_ok ps vs kvs r2 hkv
      refine ⟨hx, ys, rfl, by omega, ?_⟩
      have hmm := List.mem_of_getElem? hm
      have kk : Kp m2 H2 m2 (upd H2 p (.dK (mergeK [] ys))) := R2.kput hmm
      obtain ⟨R3, E3⟩ := R2.put (o := .dK (mergeK [] ys)) (b := .dic (mergeA [] kvs)) hm ⟨_, upd_same, ((kr.merge (.nil : KR X.K H2 m2 [] [])).kp kk)⟩
      exact q m2 _ _ ((E1.trans E2).trans E3) R3 (.ref hm)
    · cases e
  · cases e

open Classical in
noncomputable def dcR (p : Pat) (t : BF) (fk f : EF) (ok : Sto → Prop) (ρ : Rho) : List Val → List (Key × Val) → Sto → Option (List (Key × Val) × Sto)
  | [], acc, S => if ok S then some (acc, S) else none
  | v :: vs, acc, S => if ok S then (p.bind v ρ).bind fun ρ1 => (t ρ1 S).bind fun b => if b.1 then (fk ρ1 b.2).bind fun k => (f ρ1 k.2).bind fun y => (match AL.keyOf k.1 with
      | some kk => if acc.length < 1000000 then dcR p t fk f ok ρ vs (putA acc kk y.1) y.2 else none
      | none => none) else dcR p t fk f ok ρ vs acc b.2 else none
noncomputable def eDc (p : Pat) (fi : IF) (t : BF) (fk f : EF) (own : List Nat) : EF := fun ρ S => (fi ρ S).bind fun z => (dcR p t fk f z.2.1 (wipeR ρ own) z.1 [] z.2.2).bind fun y => some (.ref y.2.length, y.2 ++ [.dic y.1])
theorem eDc_ok {p : Pat} {fi : IF} {t : BF} {fk f : EF} {own : List Nat} (hp : ∀ i ∈ p.slots, i ∈ own) {σ : L2.St} {H : Hp} {Q : VK} (h : tF K (eDc p fi t fk f own) σ H Q) : tDc (tI K fi) (tG K p) (tFb K t) (tF K fk) (tF K f) own σ H Q := by
  obtain ⟨m, ρ, S, v, S', R, r, e, q⟩ := h
  obtain ⟨⟨vs, ok, S1⟩, e1, e⟩ := Option.bind_eq_some_iff.mp e
  obtain ⟨⟨ys, S2⟩, e2, e⟩ := Option.bind_eq_some_iff.mp e
  cases e
  refine ⟨m, ρ, S, vs, ok, S1, R, r, e1, fun m0 H0 J E0 R0 it0 D hD => ?_⟩
  dsimp only at e2 q
  refine ⟨fun i k H => k + i = vs.length ∧ ∃ m S acc xs, Ext m0 H0 m H ∧ Rel K m S H ∧ D ∉ m ∧ H D = some (.dK xs) ∧ KR K H m xs acc ∧ dcR p t fk f ok (wipeR ρ own) (vs.drop i) acc S = some (ys, S2), ?_, ?_⟩
  · obtain ⟨R1, E1⟩ := R0.tmp (o := .dK []) hD
    exact ⟨vs.length, by omega, m0, S1, [], [], E1, R1, R0.noNone hD, upd_same, KR.nil, e2⟩
  · rintro i k H ⟨hk, m, S, acc, xs, E, R, nD, hDx, rx, el⟩
    by_cases hlt : i < vs.length
    · rw [List.drop_eq_getElem_cons hlt] at el
      unfold dcR at el
      split at el
      · next hok =>
        obtain ⟨ρ1, b1, el⟩ := Option.bind_eq_some_iff.mp el
        obtain ⟨⟨bb, S3⟩, b2, el⟩ := Option.bind_eq_some_iff.mp el
        dsimp only at el
        obtain ⟨go, yl⟩ := it0.step i m S H E R hok vs[i] (List.getElem?_eq_getElem hlt)
        refine .inr ⟨go, fun H => ∃ m S acc xs, Ext m0 H0 m H ∧ Rel K m S H ∧ D ∉ m ∧ H D = some (.dK xs) ∧ KR K H m xs acc ∧ dcR p t fk f ok (wipeR ρ own) (vs.drop (i + 1)) acc S = some (ys, S2), fun H' h => ⟨k - 1, by omega, by omega, h⟩, fun x H' hy => ?_⟩
        obtain ⟨R', E', rx'⟩ := yl x H' hy
        have rr : RhoR K H' m (wipeR ρ own) (L2.wipe σ own) := (r.wipe own).kp ((((E0.kp (by assumption)).trans (E.kp R0))).trans (E'.kp R))
        refine ⟨m, S, wipeR ρ own, vs[i], ρ1, R', rr, rx', b1, fun σ1 r1 w1 => ⟨?_, m, ρ1, S, bb, S3, R', r1, b2, fun m3 H3 E3 R3 => ?_⟩⟩
        · have := w1 own hp
          rw [this]
          have idem : ∀ (σ : L2.St) (vs ws : List Nat), (∀ i ∈ vs, i ∈ ws) → L2.wipe (L2.wipe σ vs) ws = L2.wipe σ ws := by
            intro σ vs ws
            induction vs with
            | nil => intro _; rfl
            | cons v vs ih =>
              intro h
              have e : L2.wipe σ (v :: vs) = (L2.wipe σ vs).set v none := rfl
              rw [e, wipe_set _ _ (h v (by simp)), ih fun i hi => h i (by simp [hi])]
          exact idem σ own own fun i hi => hi
        · have nD3 : D ∉ m3 := E3.no (E'.fr D _ hDx nD) nD
          have hD3 : H3 D = some (.dK xs) := E3.fr D _ (E'.fr D _ hDx nD) nD
          have k3 := (E'.kp R).trans (E3.kp R')
          cases bb with
          | true =>
            rw [if_pos rfl] at el
            refine iteT ?_
            obtain ⟨⟨y0, S4⟩, b3, el⟩ := Option.bind_eq_some_iff.mp el
            obtain ⟨⟨y, S5⟩, b4, el⟩ := Option.bind_eq_some_iff.mp el
            dsimp only at el b4
            split at el
            · next kk hkk =>
              split at el
              · next hlen =>
                refine ⟨m3, ρ1, S3, y0, S4, R3, r1.kp (E3.kp R'), b3, fun m4 u0 H4 E4 R4 r4 => ⟨m4, ρ1, S4, y, S5, R4, (r1.kp (E3.kp R')).kp (E4.kp R3), b4, fun m5 u H5 E5 R5 r5 => ?_⟩⟩
                have nD4 : D ∉ m4 := E4.no hD3 nD3
                have hD4 : H4 D = some (.dK xs) := E4.fr D _ hD3 nD3
                have nD5 : D ∉ m5 := E5.no hD4 nD4
                have hD5 : H5 D = some (.dK xs) := E5.fr D _ hD4 nD4
                have rx5 := rx.kp ((k3.trans (E4.kp R3)).trans (E5.kp R4))
                refine ⟨xs, kk, r4.key hkk, hD5, by rw [rx.len]; exact Nat.lt_of_lt_of_le hlen (by decide), ?_⟩
                have kD : Kp m5 H5 m5 (upd H5 D (.dK (putK xs kk u))) := .at_ fun u' e => by rw [hD5] at e; cases e; exact .inr (.inl ⟨_, rfl⟩)
                have EE := (((E.trans E').trans E3).trans E4).trans E5
                refine ⟨m5, S5, putA acc kk y, putK xs kk u, ⟨EE.pre, fun a o h n t => ?_, EE.nw'⟩, R5.off kD (fun a ha => upd_ne fun z => nD5 (z ▸ ha)) (fun P ps h => tbl_at hD5 (fun _ z => by cases z) h), nD5, upd_same, (rx5.put kk r5).kp kD, el⟩
                rw [upd_ne (ne_of_none h hD)]
                exact EE.fr' a o h n t
              · cases el
            · cases el
          | false =>
            rw [if_neg Bool.false_ne_true] at el
            refine iteF ?_
            exact ⟨m3, S3, acc, xs, (E.trans E').trans E3, R3, nD3, hD3, rx.kp k3, el⟩
      · cases el
    · have e : i = vs.length := by omega
      subst e
      rw [List.drop_length] at el
      unfold dcR at el
      split at el
      · next hok =>
        cases el
        refine .inl ⟨it0.stop m _ H E R hok, ?_⟩
        have E1 : Ext m0 H0 (m ++ [D]) H := by
          obtain ⟨r', hr'⟩ := E.pre
          refine ⟨⟨r' ++ [D], by rw [hr', List.append_assoc]⟩, E.fr', fun a o ha n ho => ?_⟩
          rcases List.mem_append.mp ha with z | z
          · exact E.nw' a o z n ho
          · simp only [List.mem_singleton] at z
            rw [z, hD] at ho
            cases ho
        have kk : Kp m H (m ++ [D]) H := .grow [D] (.refl _ _)
        have R1 : Rel K (m ++ [D]) (S2 ++ [.dic ys]) H := by
          refine ⟨by simp [R.len], ?_, fun n o' a h1 h2 => ?_, R.tb⟩
          · rw [List.nodup_append]
            refine ⟨R.nd, by simp, fun a ha b hb z => ?_⟩
            simp only [List.mem_singleton] at hb
            exact nD (hb ▸ z ▸ ha)
          · by_cases hn : n < S2.length
            · rw [List.getElem?_append_left hn] at h1
              rw [List.getElem?_append_left (by rw [R.len]; exact hn)] at h2
              exact (R.ob n o' a h1 h2).kp kk rfl
            · have e : n = S2.length := by
                have := (List.getElem?_eq_some_iff.mp h1).1
                simp only [List.length_append, List.length_singleton] at this
                omega
              subst e
              rw [List.getElem?_concat_length] at h1
              rw [← R.len, List.getElem?_concat_length] at h2
              cases h1
              cases h2
              exact ⟨xs, hDx, (rx.kp kk : KR K H (m ++ [D]) xs _)⟩
        refine q (m ++ [D]) (.ref D) H (E0.trans E1) R1 (.ref ?_)
        rw [← R.len, List.getElem?_concat_length]
      · cases el

theorem asdc {i : Nat} {y : Str} {py spos : Pos} {kx vx tg it : Expr} {ifs : List Expr} {scope : Scope} {own : List (Str × Nat)} {p : Pat} {fi : IF} {t : BF} {fk f : EF} (hc : X.calm = true) (hN : X.N.Nodup) (hy : X.N[i]? = some y) (hyl : X.env.scope.names.lookup y = some .local)
    (hsw : swapsWith (.DictComp kx vx [⟨tg, it, ifs, 0⟩] scope pos) (some (.Name y py)) spos.line X.env = pure true) (hi : AI X tg it fi) (ok : BlkOk X.N X.env.scope scope own) (hp : ∀ i ∈ p.slots, i ∈ own.map (·.2))
    (hg : ∀ (s : Shared) (H : Hp) (C : Addr) (cl : List (Str × Addr)) (fp : List Addr), PG (X.blk s H scope (compEnvC scope cl C X.env) fp) tg (tG X.K p)) (ht : ∀ (s : Shared) (H : Hp) (C : Addr) (cl : List (Str × Addr)) (fp : List Addr), PTs (X.blk s H scope (compEnvC scope cl C X.env) fp) ifs (tFb X.K t))
    (hk : ∀ (s : Shared) (H : Hp) (C : Addr) (cl : List (Str × Addr)) (fp : List Addr), AE (X.blk s H scope (compEnvC scope cl C X.env) fp) kx fk)
    (he : ∀ (s : Shared) (H : Hp) (C : Addr) (cl : List (Str × Addr)) (fp : List Addr), AE (X.blk s H scope (compEnvC scope cl C X.env) fp) vx f) (hs : ∀ x, foldedSetIterable it X.env x = pure x := by intro _; rfl) :
    AS X (.Assign [.Name y py] (.DictComp kx vx [⟨tg, it, ifs, 0⟩] scope pos) spos) (sAsg (.nm i) (eDc p fi t fk f (own.map (·.2)))) := by
  refine ⟨fun pins s σ H D I h => ?_⟩
  have h : tDc (tI X.K fi) (tG X.K p) (tFb X.K t) (tF X.K fk) (tF X.K f) (own.map (·.2)) σ H fun x H1 => gName i x σ H1 D.nx := by
    obtain ⟨m, ρ, S, R, r, q⟩ := h
    unfold sAsg at q
    split at q
    · next v S1 e1 =>
      simp only [Pat.bind] at q
      exact eDc_ok hp ⟨m, ρ, S, v, S1, R, r, e1, fun m1 u H1 E1 R1 r1 => q m1 _ H1 E1 R1 ((r.kp (E1.kp R)).set r1 i)⟩
    · exact q.elim
  rw [exec_Assign_Name_used _ _ _ _ hsw]
  refine wpAny_bind (wpAny_standAt (wpAny_bind ?_))
  show wpAny _ X.A (do let _ ← comprehension (.DictComp kx vx [⟨tg, it, ifs, 0⟩] scope pos) scope X.env (firstIterPos [⟨tg, it, ifs, 0⟩] pos) newDict false (eval it X.env) (some (assign (.Name y py) X.env))) _ _ s
  refine wpAny_bind (thn (dc_core (Qf := fun _ s' => SP X pins D .next s') hc hN I hi ok hg ht hk he hs h fun L C s' m H' I' q hn fq => ?_) fun _ s' hq => wpAny_pure (wpAny_pure hq))
  show wpAny _ _ (assign (.Name y py) X.env (.ref L)) _ _ _
  refine wpAny_assign_Name (store_ok2 (v := V.ref L) I' hN hy (.inl hyl) rfl (fun s2 I2 ⟨a, sb, ha⟩ => ?_) (.inr hyl))
  obtain ⟨f0, f1, f2, f3, f4, f5⟩ := fq
  have ne : C ≠ a := ha.elim (fun z => by rw [z]; exact f1) fun z e => f4 y a z e.symm
  exact ⟨m, hn.sameBut sb ne, fun h3 sb3 => ⟨_, H', I2.turned (t' := s2.toks) (fun b o hb e => (sb3.2 b hb).trans e) f0 f1 f3 f4 f5, q⟩⟩
theorem sw_dc {kx vx : Expr} {gs : List Comprehension} {scope : Scope} {pos py : Pos} {y : Str} {l : Nat} {env : Env} (hk : env.scope.kind = .function) (hy : env.scope.names.lookup y = some .local) (hl : (py.line == pos.line) = true)
    (ha : (scope.names.any fun (n, k) => n == y && (k == .local || k == .cell)) = false) : swapsWith (.DictComp kx vx gs scope pos) (some (.Name y py)) l env = pure true := by
  have ky : env.kindOf y = some .local := hy
  have hb : env.blockKind = .function := by unfold Env.blockKind; rw [hk]; rfl
  unfold swapsWith
  simp only [hb, ky, ha, Expr.pos, hl]
  rfl
end
end AL
namespace AL
open PySem PySem.Spec PyProof.Rows L2 G Th
variable [TT]
def Wp {α : Type} (o : Option (α × Sto)) (Q : α → Sto → Prop) : Prop := ∃ a S', o = some (a, S') ∧ Q a S'
def WsD (r : Res) (N : Rho → Sto → Prop) (R : Val → Sto → Prop) : Prop := match r with
  | .nx ρ S => N ρ S
  | .rt v S => R v S
  | _ => False
structure Ws (r : Res) (N : Rho → Sto → Prop) (R : Val → Sto → Prop) : Prop where
  h : WsD r N R
def Tb (v : Val) (X : Bool → Prop) : Prop := ∃ b, v = .bl b ∧ X b
theorem tb {v : Val} {b : Bool} {X : Bool → Prop} (h : v = .bl b) (q : X b) : Tb v X := ⟨b, h, q⟩
def Ti (v : Val) (X : Int → Prop) : Prop := ∃ i, v = .int i ∧ X i
theorem ti {v : Val} {i : Int} {X : Int → Prop} (h : v = .int i) (q : X i) : Ti v X := ⟨i, h, q⟩
def Br (b : Bool) (P Q : Prop) : Prop := (b = true → P) ∧ (b = false → Q)
theorem Br.of {b : Bool} {P Q : Prop} (p : b = true → P) (q : b = false → Q) : Br b P Q := ⟨p, q⟩
theorem brT {b : Bool} {P Q : Prop} (h : b = true) (p : P) : Br b P Q := ⟨fun _ => p, fun z => (by rw [h] at z; cases z)⟩
theorem brF {b : Bool} {P Q : Prop} (h : b = false) (q : Q) : Br b P Q := ⟨fun z => (by rw [h] at z; cases z), fun _ => q⟩
def Bn (o : Option Rho) (N : Rho → Prop) : Prop := ∃ ρ1, o = some ρ1 ∧ N ρ1
theorem bn {o : Option Rho} {ρ1 : Rho} {N : Rho → Prop} (h : o = some ρ1) (q : N ρ1) : Bn o N := ⟨ρ1, h, q⟩
def Sd (p q : Prop) : Prop := p ∧ q
theorem sd {p q : Prop} (h : p) (g : q) : Sd p q := ⟨h, g⟩
def Wi (o : Option (List Val × (Sto → Prop) × Sto)) (Q : List Val → (Sto → Prop) → Sto → Prop) : Prop := ∃ vs ok S, o = some (vs, ok, S) ∧ Q vs ok S
section
variable {α β : Type} {ρ : Rho} {S : Sto} {f fa fb fc fo fi : EF} {t t' : BF} {ga : AF} {Q : Val → Sto → Prop} {B : Bool → Sto → Prop} {A : List Val → Sto → Prop} {g1 g2 : SF} {N : Rho → Sto → Prop} {R : Val → Sto → Prop} {v : Val} {i : Nat} {p : Pat}
theorem Wp.bind {o : Option (α × Sto)} {k : α × Sto → Option (β × Sto)} {Q : β → Sto → Prop} (h : Wp o fun a S => Wp (k (a, S)) Q) : Wp (o.bind k) Q := by
  obtain ⟨a, S1, e, b, S2, e2, q⟩ := h
  exact ⟨b, S2, by rw [e]; exact e2, q⟩
theorem Wp.imp {o : Option (α × Sto)} {P Q : α → Sto → Prop} (h : Wp o P) (i : ∀ a S, P a S → Q a S) : Wp o Q := by
  obtain ⟨a, S1, e, q⟩ := h
  exact ⟨a, S1, e, i _ _ q⟩
theorem Wp.of {o : Option (α × Sto)} {Q : α → Sto → Prop} {a : α} {S : Sto} (e : o = some (a, S)) (q : Q a S) : Wp o Q := ⟨a, S, e, q⟩
theorem wv (h : ρ[i]? = some (some v)) (q : Q v S) : Wp (eV i ρ S) Q := ⟨v, S, by unfold eV; rw [h], q⟩
theorem wc (q : Q v S) : Wp (eC v ρ S) Q := ⟨v, S, rfl, q⟩
theorem wB {g : Val → Val → Sto → Option (Val × Sto)} (h : Wp (fa ρ S) fun x S1 => Wp (fb ρ S1) fun y S2 => Wp (g x y S2) Q) : Wp (eB g fa fb ρ S) Q := Wp.bind (h.imp fun a S h => Wp.bind h)
theorem wU {g : Val → Sto → Option (Val × Sto)} (h : Wp (fa ρ S) fun x S1 => Wp (g x S1) Q) : Wp (eU g fa ρ S) Q := Wp.bind h
theorem wT (h : Wp (f ρ S) fun v S1 => Tb v fun b => B b S1) : Wp (eT f ρ S) B := Wp.bind (h.imp fun a S ⟨b, e, q⟩ => by subst e; exact ⟨b, S, rfl, q⟩)
theorem wbA (h : Wp (t ρ S) fun b S1 => Br b (Wp (t' ρ S1) B) (B false S1)) : Wp (bAnd t t' ρ S) B := Wp.bind (h.imp fun b S h => by
  cases b with
  | true => exact h.1 rfl
  | false => exact ⟨_, _, rfl, h.2 rfl⟩)
theorem wbO (h : Wp (t ρ S) fun b S1 => Br b (B true S1) (Wp (t' ρ S1) B)) : Wp (bOr t t' ρ S) B := Wp.bind (h.imp fun b S h => by
  cases b with
  | true => exact ⟨_, _, rfl, h.1 rfl⟩
  | false => exact h.2 rfl)
theorem wbN (h : Wp (t ρ S) fun b S1 => B (!b) S1) : Wp (bNot t ρ S) B := Wp.bind (h.imp fun b S h => ⟨_, _, rfl, h⟩)
theorem wbY (h : B true S) : Wp (bYes ρ S) B := ⟨_, _, rfl, h⟩
theorem weA (h : Wp (fa ρ S) fun v S1 => Tb v fun b => Br b (Wp (fb ρ S1) Q) (Q (.bl false) S1)) : Wp (eAnd fa fb ρ S) Q := Wp.bind (h.imp fun a S ⟨b, e, h⟩ => by
  subst e
  cases b with
  | true => exact h.1 rfl
  | false => exact ⟨_, _, rfl, h.2 rfl⟩)
theorem weO (h : Wp (fa ρ S) fun v S1 => Tb v fun b => Br b (Q (.bl true) S1) (Wp (fb ρ S1) Q)) : Wp (eOr fa fb ρ S) Q := Wp.bind (h.imp fun a S ⟨b, e, h⟩ => by
  subst e
  cases b with
  | true => exact ⟨_, _, rfl, h.1 rfl⟩
  | false => exact h.2 rfl)
theorem weN (h : Wp (fa ρ S) fun v S1 => Tb v fun b => Q (.bl (!b)) S1) : Wp (eNot fa ρ S) Q := Wp.bind (h.imp fun a S ⟨b, e, h⟩ => by
  subst e
  exact ⟨_, _, rfl, h⟩)
theorem weI (h : Wp (t ρ S) fun b S1 => Br b (Wp (fa ρ S1) Q) (Wp (fb ρ S1) Q)) : Wp (eIf t fa fb ρ S) Q := Wp.bind (h.imp fun b S h => by
  cases b with
  | true => exact h.1 rfl
  | false => exact h.2 rfl)
theorem weCh {g g' : Val → Val → Sto → Option (Val × Sto)} (h : Wp (fa ρ S) fun x S1 => Wp (fb ρ S1) fun y S2 => Wp (g x y S2) fun z S3 => Tb z fun b => Br b (Wp (fc ρ S3) fun w S4 => Wp (g' y w S4) Q) (Q (.bl false) S3)) : Wp (eCh g g' fa fb fc ρ S) Q :=
  Wp.bind (h.imp fun x S1 h => Wp.bind (h.imp fun y S2 h => Wp.bind (h.imp fun z S3 ⟨b, e, h⟩ => by
    subst e
    cases b with
    | true => exact Wp.bind (h.1 rfl)
    | false => exact ⟨_, _, rfl, h.2 rfl⟩)))
theorem wa0 (h : A [] S) : Wp (aNil ρ S) A := ⟨_, _, rfl, h⟩
theorem wa1 (h : Wp (f ρ S) fun v S1 => Wp (ga ρ S1) fun vs S2 => A (v :: vs) S2) : Wp (aCons f ga ρ S) A := Wp.bind (h.imp fun x S1 h => Wp.bind (h.imp fun y S2 h => ⟨_, _, rfl, h⟩))
theorem wTup (h : Wp (ga ρ S) fun vs S1 => Sd (vs.length ≤ 1000000) (Q (.tup vs) S1)) : Wp (eTup ga ρ S) Q := Wp.bind (h.imp fun x S1 h => ⟨_, _, if_pos h.1, h.2⟩)

def Nw (S : Sto) (o : Ob) (Q : Val → Sto → Prop) : Prop := ∀ (T : Sto) (r : Nat), r = S.length → T.length = S.length + 1 → T[r]? = some o → Kn S T → Q (.ref r) T
theorem Nw.use {o : Ob} (h : Nw S o Q) : Q (.ref S.length) (S ++ [o]) := h _ _ rfl (by simp) (by simp) (Kn.app _ _)
theorem wLst (h : Wp (ga ρ S) fun vs S1 => Sd (vs.length ≤ 1000000) (Nw S1 (.lst vs) Q)) : Wp (eLst ga ρ S) Q := Wp.bind (h.imp fun x S1 h => ⟨_, _, if_pos h.1, h.2.use⟩)
theorem wDic (h : Nw S (.dic []) Q) : Wp (eDic ρ S) Q := ⟨_, _, rfl, h.use⟩
theorem wCall {g : List Val → Sto → Option (Val × Sto)} (h : Wp (ga ρ S) fun vs S1 => Wp (g vs S1) Q) : Wp (eCall g ga ρ S) Q := Wp.bind h
theorem wDef {F : FA} {n : Nat} (h : Wp (ga ρ S) fun vs S1 => Sd (vs.length = n) (Wp (F vs S1) Q)) : Wp (eDef F n ga ρ S) Q := Wp.bind (h.imp fun x S1 h => by
  show Wp (if x.length = n then F x S1 else none) Q
  rw [if_pos h.1]
  exact h.2)
theorem wMt {ok : Val → Sto → Bool} {g : Val → List Val → Sto → Option (Val × Sto)} (h : Wp (fo ρ S) fun x S1 => Sd (ok x S1 = true) (Wp (ga ρ S1) fun vs S2 => Wp (g x vs S2) Q)) : Wp (eMt ok g fo ga ρ S) Q := Wp.bind (h.imp fun x S1 h => by
  show Wp (if ok x S1 = true then (ga ρ S1).bind fun q => g x q.1 q.2 else none) Q
  rw [if_pos h.1]
  exact Wp.bind h.2)
theorem woN {O : Option Int → Sto → Prop} (h : O none S) : Wp (oN ρ S) O := ⟨_, _, rfl, h⟩
theorem woS {O : Option Int → Sto → Prop} (h : Wp (f ρ S) fun v S1 => Ti v fun i => O (some i) S1) : Wp (oS f ρ S) O := Wp.bind (h.imp fun x S1 ⟨i, e, h⟩ => by
  subst e
  exact ⟨_, _, rfl, h⟩)
theorem wSl {g : Val → Option Int → Option Int → Sto → Option (Val × Sto)} {lo hi : OF} (h : Wp (fa ρ S) fun x S1 => Wp (lo ρ S1) fun a S2 => Wp (hi ρ S2) fun b S3 => Wp (g x a b S3) Q) : Wp (eSl g fa lo hi ρ S) Q := Wp.bind (h.imp fun x S1 h => Wp.bind (h.imp fun y S2 h => Wp.bind h))
variable {x y : Val} {a b : Int}
theorem vI {g : Int → Int → Val} (hx : x = .int a) (hy : y = .int b) (q : Q (g a b) S) : Wp (gI g x y S) Q := by subst hx hy; exact ⟨_, _, rfl, q⟩
theorem vMul (hx : x = .int a) (hy : y = .int b) (q : Q (.int (a * b)) S) (h : CMulW a b) : Wp (gMul x y S) Q := by subst hx hy; exact ⟨_, _, if_pos h, q⟩
theorem vDiv (hx : x = .int a) (hy : y = .int b) (q : Q (.int (a / b)) S) (h : CDivW a b) : Wp (gDiv x y S) Q := by subst hx hy; exact ⟨_, _, if_pos h, q⟩
theorem vMod (hx : x = .int a) (hy : y = .int b) (q : Q (.int (a.fmod b)) S) (h : b ≠ 0) : Wp (gMod x y S) Q := by subst hx hy; exact ⟨_, _, if_pos h, q⟩
theorem vPow (hx : x = .int a) (hy : y = .int b) (q : Q (.int (a ^ b.toNat)) S) (h : CPow a b) : Wp (gPow x y S) Q := by subst hx hy; exact ⟨_, _, if_pos h, q⟩
theorem vAdd (hx : x = .int a) (hy : y = .int b) (q : Q (.int (a + b)) S) : Wp (gAdd x y S) Q := by subst hx hy; exact ⟨_, _, rfl, q⟩
theorem vNeg (hx : x = .int a) (q : Q (.int (-a)) S) : Wp (gNeg x S) Q := by subst hx; exact ⟨_, _, rfl, q⟩
theorem vAbs (hx : x = .int a) (q : Q (.int (if a < 0 then -a else a)) S) : Wp (gAbs [x] S) Q := by subst hx; exact ⟨_, _, rfl, q⟩
theorem vEq {c : Bool} (h : eqS x y = some c) (q : Q (.bl c) S) : Wp (gEq x y S) Q := ⟨_, _, by simp only [gEq, eqA, h]; rfl, q⟩
theorem vNe {c : Bool} (h : eqS x y = some c) (q : Q (.bl (!c)) S) : Wp (gNe x y S) Q := ⟨_, _, by simp only [gNe, eqA, h]; rfl, q⟩
theorem vIs (hy : y = .non) (q : Q (.bl (isNon x)) S) : Wp (gIs x y S) Q := by subst hy; exact ⟨_, _, rfl, q⟩
theorem vIsN (hy : y = .non) (q : Q (.bl (!isNon x)) S) : Wp (gIsN x y S) Q := by subst hy; exact ⟨_, _, rfl, q⟩
theorem vIxL {n : Nat} {i : Int} {vs : List Val} (hx : x = .ref n) (hy : y = .int i) (h : S[n]? = some (.lst vs)) (e : atI vs i = some v) (q : Q v S) : Wp (gIxA x y S) Q := by subst hx hy; exact ⟨v, S, by simp only [gIxA, gIx, h, e, Option.map_some], q⟩
theorem vIxT {i : Int} {vs : List Val} (hx : x = .tup vs) (hy : y = .int i) (e : atI vs i = some v) (q : Q v S) : Wp (gIxA x y S) Q := by subst hx hy; exact ⟨v, S, by simp only [gIxA, gIx, e, Option.map_some], q⟩
theorem vIxD {n : Nat} {k : Key} {kvs : List (Key × Val)} (hx : x = .ref n) (h : S[n]? = some (.dic kvs)) (hk : AL.keyOf y = some k) (e : valA kvs k = some v) (q : Q v S) : Wp (gIxA x y S) Q := by subst hx; exact ⟨v, S, by simp only [gIxA, h, hk, e, Option.map_some], q⟩
theorem isL_of {n : Nat} {vs : List Val} (h : S[n]? = some (.lst vs)) : isL (.ref n) S = true := by simp only [isL, h]
theorem vLenT {vs : List Val} (hx : x = .tup vs) (q : Q (.int vs.length) S) : Wp (gLen [x] S) Q := by subst hx; exact ⟨_, _, rfl, q⟩
theorem vLenL {n : Nat} {vs : List Val} (hx : x = .ref n) (h : S[n]? = some (.lst vs)) (q : Q (.int vs.length) S) : Wp (gLen [x] S) Q := by subst hx; exact ⟨_, S, by simp only [gLen, h], q⟩
theorem vLenD {n : Nat} {kvs : List (Key × Val)} (hx : x = .ref n) (h : S[n]? = some (.dic kvs)) (q : Q (.int kvs.length) S) : Wp (gLen [x] S) Q := by subst hx; exact ⟨_, S, by simp only [gLen, h], q⟩
theorem vTupL {n : Nat} {vs : List Val} (hx : x = .ref n) (h : S[n]? = some (.lst vs)) (q : Q (.tup vs) S) : Wp (gTuple [x] S) Q := by subst hx; exact ⟨_, S, by simp only [gTuple, h], q⟩
theorem vIn {n : Nat} {neg : Bool} {k : Key} {kvs : List (Key × Val)} (hy : y = .ref n) (h : S[n]? = some (.dic kvs)) (hk : AL.keyOf x = some k) (q : Q (.bl (if neg then !(valA kvs k).isSome else (valA kvs k).isSome)) S) : Wp (gIn neg x y S) Q := by subst hy; exact ⟨_, S, by simp only [gIn, h, hk], q⟩

def Pt (S : Sto) (n : Nat) (o : Ob) (Q : Sto → Prop) : Prop := ∀ T : Sto, T.length = S.length → T[n]? = some o → Kx n S T → Q T
theorem Pt.use {n : Nat} {o o' : Ob} {Q : Sto → Prop} (h : Pt S n o Q) (hn : S[n]? = some o') : Q (S.set n o) := h _ (by simp) (by rw [List.getElem?_set_self (List.getElem?_eq_some_iff.mp hn).1]) Kx.put
theorem vApp {n : Nat} {vs : List Val} (hx : x = .ref n) (h : S[n]? = some (.lst vs)) (q : Pt S n (.lst (vs ++ [v])) (Q .non)) (hl : vs.length < sizeLine) : Wp (gApp x [v] S) Q := by subst hx; exact ⟨.non, _, by simp only [gApp, h, if_pos hl], q.use h⟩
theorem small {n : Nat} (h : n < 1000000) : n < sizeLine := Nat.lt_of_lt_of_le h (by decide)
theorem vGet1 (h : Wp (fo ρ S) fun o S1 => ∃ n kvs, o = .ref n ∧ S1[n]? = some (.dic kvs) ∧ Wp (fi ρ S1) fun x S2 => ∃ kvs k, S2[n]? = some (.dic kvs) ∧ AL.keyOf x = some k ∧ Q ((valA kvs k).getD .non) S2) : Wp (eGet1 fo fi ρ S) Q := Wp.bind (h.imp fun o S1 ⟨n, kvs, e, h1, h2⟩ => by
  subst e
  simp only [h1]
  refine Wp.bind (h2.imp fun x S2 ⟨kvs, k, h3, h4, q⟩ => ?_)
  simp only [h3, h4]
  exact ⟨_, _, rfl, q⟩)
theorem vGet2 {fx : EF} (h : Wp (fo ρ S) fun o S1 => ∃ n kvs, o = .ref n ∧ S1[n]? = some (.dic kvs) ∧ Wp (fi ρ S1) fun x S2 => Wp (fx ρ S2) fun y S3 => ∃ kvs k, S3[n]? = some (.dic kvs) ∧ AL.keyOf x = some k ∧ Q ((valA kvs k).getD y) S3) : Wp (eGet2 fo fi fx ρ S) Q := Wp.bind (h.imp fun o S1 ⟨n, kvs, e, h1, h2⟩ => by
  subst e
  simp only [h1]
  refine Wp.bind (h2.imp fun x S2 h3 => ?_)
  refine Wp.bind (h3.imp fun y S3 ⟨kvs, k, h4, h5, q⟩ => ?_)
  simp only [h4, h5]
  exact ⟨_, _, rfl, q⟩)
theorem atI_mem {vs : List Val} {d : Int} (h0 : 0 ≤ d) (h1 : d < (vs.length : Nat)) : ∃ v, atI vs d = some v ∧ v ∈ vs := by
  obtain ⟨n, rfl⟩ := Int.eq_ofNat_of_zero_le h0
  have l : n < vs.length := by omega
  exact ⟨vs[n], atI_nat (List.getElem?_eq_getElem l), List.getElem_mem l⟩
theorem ws_seq (h : Ws (g1 ρ S) (fun ρ S => Ws (g2 ρ S) N R) R) : Ws (sSeq g1 g2 ρ S) N R := by
  obtain ⟨h⟩ := h
  unfold sSeq
  cases e : g1 ρ S with
  | nx _ _ => rw [e] at h; exact h
  | rt _ _ => rw [e] at h; exact ⟨h⟩
  | stuck => rw [e] at h; exact h.elim
  | bk _ _ => rw [e] at h; exact h.elim
  | ct _ _ => rw [e] at h; exact h.elim
theorem ws_nil (h : N ρ S) : Ws (sNil ρ S) N R := ⟨h⟩
theorem ws_expr (h : Wp (f ρ S) fun _ S => N ρ S) : Ws (sExpr f ρ S) N R := by
  obtain ⟨a, S1, e, q⟩ := h
  unfold sExpr
  rw [e]
  exact ⟨q⟩
theorem ws_ret (h : Wp (f ρ S) R) : Ws (sRet f ρ S) N R := by
  obtain ⟨a, S1, e, q⟩ := h
  unfold sRet
  rw [e]
  exact ⟨q⟩
theorem ws_if (h : Wp (t ρ S) fun b S1 => Br b (Ws (g1 ρ S1) N R) (Ws (g2 ρ S1) N R)) : Ws (sIf t g1 g2 ρ S) N R := by
  obtain ⟨b, S1, e, q⟩ := h
  unfold sIf
  rw [e]
  cases b with
  | true => exact q.1 rfl
  | false => exact q.2 rfl
theorem ws_asg (h : Wp (f ρ S) fun v S1 => Bn (p.bind v ρ) fun ρ1 => N ρ1 S1) : Ws (sAsg p f ρ S) N R := by
  obtain ⟨v, S1, e, ρ1, e1, q⟩ := h
  unfold sAsg
  rw [e]
  show Ws (match p.bind v ρ with
    | some ρ => .nx ρ S1
    | none => .stuck) N R
  rw [e1]
  exact ⟨q⟩
theorem ws_par {is : List Nat} (h : Wp (ga ρ S) fun vs S1 => Bn (Pat.binds (is.map Pat.nm) vs ρ) fun ρ1 => N ρ1 S1) : Ws (sPar is ga ρ S) N R := by
  obtain ⟨v, S1, e, ρ1, e1, q⟩ := h
  unfold sPar
  rw [e]
  show Ws (match Pat.binds (is.map Pat.nm) v ρ with
    | some ρ => .nx ρ S1
    | none => .stuck) N R
  rw [e1]
  exact ⟨q⟩
theorem ws_sub {g : Val → Val → Val → Sto → Option Sto} (h : Wp (f ρ S) fun v S1 => Wp (fo ρ S1) fun o S2 => Wp (fi ρ S2) fun i S3 => ∃ S4, g o i v S3 = some S4 ∧ N ρ S4) : Ws (sSub g fo fi f ρ S) N R := by
  obtain ⟨v, S1, e1, o, S2, e2, i, S3, e3, S4, e4, q⟩ := h
  unfold sSub
  simp only [e1, e2, e3, e4]
  exact ⟨q⟩
theorem vPut {n : Nat} {x : Val} {k : Key} {v : Val} {N : Sto → Prop} {kvs : List (Key × Val)} (h : S[n]? = some (.dic kvs)) (hk : AL.keyOf x = some k) (q : Pt S n (.dic (putA kvs k v)) N) (hl : kvs.length < sizeLine) : ∃ T, gSetA (.ref n) x v S = some T ∧ N T := ⟨_, by simp only [gSetA, h, hk, if_pos hl], q.use h⟩
theorem ws_for {fi : IF} {g : SF} (h : Wi (fi ρ S) fun vs ok S1 => Ws (forR p g ok vs ρ S1) N R) : Ws (sFor p fi g ρ S) N R := by
  obtain ⟨vs, ok, S1, e, h⟩ := h
  unfold sFor
  rw [e]
  exact h
theorem wf {n : Nat} {g : SF} {vs : List Val} (h : Ws (g (vs.map some ++ List.replicate (n - vs.length) none) S) (fun _ S => Q .non S) Q) : Wp (runF n g vs S) Q := by
  unfold runF
  generalize g (vs.map some ++ List.replicate (n - vs.length) none) S = r at h
  obtain ⟨h⟩ := h
  cases r with
  | nx ρ S => exact ⟨_, _, rfl, h⟩
  | rt v S => exact ⟨_, _, rfl, h⟩
  | stuck => exact h.elim
  | bk _ _ => exact h.elim
  | ct _ _ => exact h.elim
theorem ws_loop {g : SF} {ok : Sto → Prop} {vs : List Val} (I : Nat → Rho → Sto → Prop) (h0 : I 0 ρ S) (hok : ∀ i ρ S, i ≤ vs.length → I i ρ S → ok S)
    (step : ∀ i v ρ S, vs[i]? = some v → I i ρ S → Bn (p.bind v ρ) fun ρ1 => Ws (g ρ1 S) (I (i + 1)) R) (post : ∀ ρ S, I vs.length ρ S → N ρ S) : Ws (forR p g ok vs ρ S) N R := by
  have go : ∀ (k : Nat) (ρ : Rho) (S : Sto), k ≤ vs.length → I k ρ S → Ws (forR p g ok (vs.drop k) ρ S) N R := by
    intro k
    induction hn : vs.length - k generalizing k with
    | zero =>
      intro ρ S hk h
      have e : k = vs.length := by omega
      subst e
      rw [List.drop_length, forR_nil (hok _ _ _ hk h)]
      exact ⟨post _ _ h⟩
    | succ n ih =>
      intro ρ S hk h
      have l : k < vs.length := by omega
      rw [List.drop_eq_getElem_cons l]
      obtain ⟨ρ1, h1, h2⟩ := step k vs[k] ρ S (List.getElem?_eq_getElem l) h
      rw [forR_cons (hok _ _ _ hk h) h1]
      obtain ⟨h2⟩ := h2
      cases e : g ρ1 S with
      | nx ρ2 S2 =>
        rw [e] at h2
        exact ih (k + 1) (by omega) ρ2 S2 (by omega) h2
      | rt v S2 => rw [e] at h2; exact ⟨h2⟩
      | stuck => rw [e] at h2; exact h2.elim
      | bk _ _ => rw [e] at h2; exact h2.elim
      | ct _ _ => rw [e] at h2; exact h2.elim
  have := go 0 ρ S (Nat.zero_le _) h0
  rwa [List.drop_zero] at this

theorem wiT {X : List Val → (Sto → Prop) → Sto → Prop} {f : EF} (h : Wp (f ρ S) fun v S1 => (∃ vs, v = .tup vs ∧ X vs (fun _ => True) S1) ∨ ∃ n vs, v = .ref n ∧ S1[n]? = some (.lst vs) ∧ X vs (fun S => S[n]? = some (.lst vs)) S1) : Wi (iSeq f ρ S) X := by
  obtain ⟨v, S1, e, h⟩ := h
  rcases h with ⟨vs, rfl, h⟩ | ⟨n, vs, rfl, h1, h⟩
  · exact ⟨_, _, _, by unfold iSeq; rw [e]; rfl, h⟩
  · exact ⟨_, _, _, by unfold iSeq; rw [e]; simp only [Option.bind_some, h1], h⟩
theorem wiR {X : List Val → (Sto → Prop) → Sto → Prop} (h : Wp (ga ρ S) fun vs S1 => ∃ j, vs = [.int j] ∧ X (rangeV 0 j.toNat) (fun _ => True) S1 ∧ -(2 ^ 62) ≤ j ∧ j < 2 ^ 62) : Wi (iRg1 ga ρ S) X := by
  obtain ⟨v, S1, e, j, rfl, h, h1, h2⟩ := h
  exact ⟨_, _, _, by unfold iRg1; rw [e]; exact if_pos ⟨h1, h2⟩, h⟩
theorem wiR2 {X : List Val → (Sto → Prop) → Sto → Prop} (h : Wp (ga ρ S) fun vs S1 => ∃ i j, vs = [.int i, .int j] ∧ X (rangeV i (j - i).toNat) (fun _ => True) S1 ∧ -(2 ^ 62) ≤ i ∧ i < 2 ^ 62 ∧ -(2 ^ 62) ≤ j ∧ j < 2 ^ 62) : Wi (iRg2 ga ρ S) X := by
  obtain ⟨v, S1, e, i, j, rfl, h, h1⟩ := h
  exact ⟨_, _, _, by unfold iRg2; rw [e]; exact if_pos h1, h⟩
theorem wiE {X : List Val → (Sto → Prop) → Sto → Prop} (h : Wp (ga ρ S) fun vs S1 => (∃ ws, vs = [.tup ws] ∧ X (enumV ws) (fun _ => True) S1) ∨ ∃ n ws, vs = [.ref n] ∧ S1[n]? = some (.lst ws) ∧ X (enumV ws) (fun S => S[n]? = some (.lst ws)) S1) : Wi (iEn ga ρ S) X := by
  obtain ⟨v, S1, e, h⟩ := h
  rcases h with ⟨vs, rfl, h⟩ | ⟨n, vs, rfl, h1, h⟩
  · exact ⟨_, _, _, by unfold iEn; rw [e]; rfl, h⟩
  · exact ⟨_, _, _, by unfold iEn; rw [e]; simp only [Option.bind_some, h1], h⟩

theorem wLc {fi : IF} {own : List Nat} (h : Wi (fi ρ S) fun vs ok S1 => Wp (lcR p t f ok (wipeR ρ own) vs [] S1) fun ys S2 => Nw S2 (.lst ys) Q) : Wp (eLc p fi t f own ρ S) Q := by
  obtain ⟨vs, ok, S1, e, h⟩ := h
  unfold eLc
  rw [e]
  exact Wp.bind (h.imp fun ys S2 h => ⟨_, _, rfl, h.use⟩)

theorem lc_pure {ok : Sto → Prop} {vs : List Val} (b : Val → Bool) (g : Val → Val) (hok : ok S) (hl : vs.length < 1000000)
    (h : ∀ v ∈ vs, Bn (p.bind v ρ) fun ρ1 => Wp (t ρ1 S) fun c T => c = b v ∧ T = S ∧ (b v = true → Wp (f ρ1 S) fun y T => y = g v ∧ T = S)) (q : A ((vs.filter b).map g) S) : Wp (lcR p t f ok ρ vs [] S) A := by
  have := lcR_pure (p := p) (t := t) (f := f) (ok := ok) (ρ := ρ) (S := S) hok b g vs [] (by simpa using hl) fun v hv => by
    obtain ⟨ρ1, h1, c, T, h2, rfl, rfl, h3⟩ := h v hv
    refine ⟨ρ1, h1, h2, fun hb => ?_⟩
    obtain ⟨y, T2, h4, rfl, rfl⟩ := h3 hb
    exact h4
  exact ⟨_, _, this, by simpa using q⟩

theorem lc_inv {ok : Sto → Prop} {vs : List Val} (I : Nat → List Val → Sto → Prop) (hl : vs.length < 900000) (h0 : I 0 [] S) (hok : ∀ i a S, i ≤ vs.length → I i a S → ok S) (hlen : ∀ i a S, I i a S → a.length ≤ i)
    (step : ∀ i v a S, vs[i]? = some v → I i a S → Bn (p.bind v ρ) fun ρ1 => Wp (t ρ1 S) fun c S1 => Br c (Wp (f ρ1 S1) fun y S2 => I (i + 1) (a ++ [y]) S2) (I (i + 1) a S1))
    (q : ∀ a S, I vs.length a S → A a S) : Wp (lcR p t f ok ρ vs [] S) A := by
  have := lcR_run (p := p) (t := t) (f := f) (ok := ok) (ρ := ρ) (S := S) (fun i a S => i ≤ vs.length ∧ I i a S) hl (fun i a S h => hok i a S h.1 h.2) (fun i a S h => hlen i a S h.2) ⟨Nat.zero_le _, h0⟩ fun i v a S hv h => by
    have hi := (List.getElem?_eq_some_iff.mp hv).1
    obtain ⟨ρ1, h1, c, S1, h2, h3, h4⟩ := step i v a S hv h.2
    refine ⟨ρ1, h1, ?_⟩
    cases c with
    | true =>
      obtain ⟨y, S2, h5, h6⟩ := h3 rfl
      exact .inl ⟨S1, y, S2, h2, h5, hi, h6⟩
    | false => exact .inr ⟨S1, h2, hi, h4 rfl⟩
  obtain ⟨a, S1, e, _, h⟩ := this
  exact ⟨a, S1, e, q a S1 h⟩

theorem ws_while {tb : BF} {g : SF} (M : Rho → Sto → Nat) (I : Rho → Sto → Prop) (h0 : I ρ S)
    (step : ∀ ρ S, I ρ S → Wp (tb ρ S) fun b S1 => Br b (Ws (g ρ S1) (fun ρ2 S2 => I ρ2 S2 ∧ M ρ2 S2 < M ρ S) R) (N ρ S1)) : Ws (sWhile tb g ρ S) N R := by
  have go : ∀ (n : Nat) (ρ : Rho) (S : Sto), M ρ S < n → I ρ S → Ws (whR tb g n ρ S) N R := by
    intro n
    induction n with
    | zero => intro ρ S h; omega
    | succ n ih =>
      intro ρ S hm hI
      obtain ⟨b, S1, e, h1, h2⟩ := step ρ S hI
      cases b with
      | false =>
        rw [whR]
        simp only [e]
        exact ⟨h2 rfl⟩
      | true =>
        obtain ⟨h3⟩ := h1 rfl
        rw [whR]
        cases e2 : g ρ S1 with
        | nx ρ2 S2 =>
          rw [e2] at h3
          simp only [e, e2]
          exact ih ρ2 S2 (by have := h3.2; omega) h3.1
        | rt v S2 =>
          rw [e2] at h3
          simp only [e, e2]
          exact ⟨h3⟩
        | stuck => rw [e2] at h3; exact h3.elim
        | bk _ _ => rw [e2] at h3; exact h3.elim
        | ct _ _ => rw [e2] at h3; exact h3.elim
  have h := go (M ρ S + 1) ρ S (Nat.lt_succ_self _) h0
  have ns : whR tb g (M ρ S + 1) ρ S ≠ .stuck := fun z => by rw [z] at h; exact h.h
  rw [sWhile_eq rfl ns]
  exact h
end
theorem Kn.at {S T : Sto} (k : Kn S T) {n : Nat} {o : Ob} (h : S[n]? = some o) : T[n]? = some o := k n o h
theorem Kx.at {x : Nat} {S T : Sto} (k : Kx x S T) {n : Nat} {o : Ob} (hn : n ≠ x) (h : S[n]? = some o) : T[n]? = some o := k n o hn h
theorem tf {P : Prop} (h : true = false) : P := nomatch h
theorem lt_of_at {S : Sto} {n : Nat} {o : Ob} (h : S[n]? = some o) : n < S.length := (List.getElem?_eq_some_iff.mp h).1
end AL
namespace AL
open PySem PySem.Spec PyProof.Rows L2 G Th
variable [TT]
section
variable {ρ : Rho} {S : Sto} {ga gk : AF} {Q : Val → Sto → Prop}
theorem wDefK {F : FA} {n m : Nat} {gA : List Val → List Val → List Val} (h : Wp (ga ρ S) fun vs S1 => Wp (gk ρ S1) fun ws S2 => Sd (vs.length = n ∧ ws.length = m) (Wp (F (gA vs ws) S2) Q)) : Wp (eDefK F n m gA ga gk ρ S) Q := Wp.bind (h.imp fun x S1 h => Wp.bind (h.imp fun y S2 h => by
  show Wp (if x.length = n ∧ y.length = m then F (gA x y) S2 else none) Q
  rw [if_pos h.1]
  exact h.2))
theorem vIsi {x : Val} {T a : String} {b : Bool} (ht : tyN x S = some a) (hk : L2.kitB a T = some b) (q : Q (.bl b) S) : Wp (gIsi T x S) Q := ⟨_, _, by simp only [gIsi, ht, Option.bind_some, hk, Option.map_some], q⟩
theorem vAll {x : Val} {n : Nat} {bs : List Bool} (hx : x = .ref n) (h : S[n]? = some (.lst (bs.map Val.bl))) (q : Q (.bl (bs.all id)) S) : Wp (gAll [x] S) Q := by
  subst hx
  exact ⟨_, _, by simp only [gAll, h, bls_map, Option.map_some], q⟩
theorem vIsT {x y : Val} {a b : Bool} (hx : x = .bl a) (hy : y = .bl b) (q : Q (.bl (decide (a = b))) S) : Wp (gIsT x y S) Q := by subst hx hy; exact ⟨_, _, rfl, q⟩
theorem vIsNT {x y : Val} {a b : Bool} (hx : x = .bl a) (hy : y = .bl b) (q : Q (.bl (!decide (a = b))) S) : Wp (gIsNT x y S) Q := by subst hx hy; exact ⟨_, _, rfl, q⟩
theorem vCatL {x y : Val} {n m : Nat} {vs ws : List Val} (hx : x = .ref n) (hy : y = .ref m) (h : S[n]? = some (.lst vs)) (h' : S[m]? = some (.lst ws)) (hl : vs.length + ws.length ≤ 1000000) (q : Nw S (.lst (vs ++ ws)) Q) : Wp (gAdd x y S) Q := by
  subst hx hy
  exact ⟨_, _, by simp only [gAdd, h, h', if_pos (mill hl)], q.use⟩
theorem vPop {x : Val} {n k : Nat} {i : Int} {vs : List Val} {v : Val} (hx : x = .ref n) (h : S[n]? = some (.lst vs)) (hi : i = (k : Nat)) (hk : vs[k]? = some v) (hl : vs.length < 1000000) (q : Pt S n (.lst (vs.eraseIdx k)) (Q v)) : Wp (gPop x [.int i] S) Q := by
  subst hx hi
  have lt := (List.getElem?_eq_some_iff.mp hk).1
  have e : seqIndex? ((k : Nat) : Int) vs.length = some k := by
    unfold seqIndex?
    simp only []
    first
      | (rw [if_neg (by omega)]; simp; omega)
      | (simp; omega)
  refine ⟨v, _, ?_, q.use h⟩
  simp only [gPop, h]
  rw [if_pos (by omega)]
  simp only [e, hk]
theorem wiZ {X : List Val → (Sto → Prop) → Sto → Prop} (h : Wp (ga ρ S) fun vs S1 => ∃ as bs, vs = [.tup as, .tup bs] ∧ X (zipV as bs) (fun _ => True) S1) : Wi (iZp ga ρ S) X := by
  obtain ⟨v, S1, e, as, bs, rfl, h⟩ := h
  exact ⟨_, _, _, by unfold iZp; rw [e]; rfl, h⟩
end
end AL
namespace AL
open PySem PySem.Spec PyProof.Rows L2 G Th
variable [TT]
def maxI : Int → List Int → Int
  | a, [] => a
  | a, b :: r => maxI (if a < b then b else a) r
section
variable {X : Cx} {K : PySem.W.Frag}
end
section
variable {ρ : Rho} {S : Sto} {Q : Val → Sto → Prop} {N : Rho → Sto → Prop} {R : Val → Sto → Prop}
theorem dc_inv {p : Pat} {t : BF} {fk f : EF} {ok : Sto → Prop} {vs : List Val} {A : List (Key × Val) → Sto → Prop} (I : Nat → List (Key × Val) → Sto → Prop) (hok : ∀ i a S, i ≤ vs.length → I i a S → ok S) (hlen : ∀ i a S, I i a S → a.length < 1000000)
    (step : ∀ i v a S, vs[i]? = some v → I i a S → Bn (p.bind v ρ) fun ρ1 => Wp (t ρ1 S) fun c S1 => Br c (Wp (fk ρ1 S1) fun k S2 => Wp (f ρ1 S2) fun y S3 => ∃ kk, AL.keyOf k = some kk ∧ I (i + 1) (putA a kk y) S3) (I (i + 1) a S1))
    (q : ∀ a S, I vs.length a S → A a S) (h0 : I 0 [] S) : Wp (dcR p t fk f ok ρ vs [] S) A := by
  have go : ∀ (n i : Nat) (a : List (Key × Val)) (S : Sto), n + i = vs.length → I i a S → Wp (dcR p t fk f ok ρ (vs.drop i) a S) A := by
    intro n
    induction n with
    | zero =>
      intro i a S hi hI
      have : i = vs.length := by omega
      subst this
      rw [List.drop_length]
      exact ⟨a, S, by unfold dcR; rw [if_pos (hok _ _ _ (Nat.le_refl _) hI)], q a S hI⟩
    | succ n ih =>
      intro i a S hi hI
      have hl : i < vs.length := by omega
      rw [List.drop_eq_getElem_cons hl]
      obtain ⟨ρ1, e1, c, S1, e2, h1, h2⟩ := step i _ a S (List.getElem?_eq_getElem hl) hI
      have o := hok i a S (by omega) hI
      cases c with
      | true =>
        obtain ⟨k, S2, e3, y, S3, e4, kk, e5, h⟩ := h1 rfl
        obtain ⟨r, S4, e6, ha⟩ := ih (i + 1) _ S3 (by omega) h
        refine ⟨r, S4, ?_, ha⟩
        unfold dcR
        rw [if_pos o, e1, Option.bind_some, e2, Option.bind_some, if_pos rfl, e3, Option.bind_some, e4, Option.bind_some]
        simp only [e5]
        rw [if_pos (hlen i a S hI)]
        exact e6
      | false =>
        obtain ⟨r, S4, e6, ha⟩ := ih (i + 1) a S1 (by omega) (h2 rfl)
        refine ⟨r, S4, ?_, ha⟩
        unfold dcR
        rw [if_pos o, e1, Option.bind_some, e2, Option.bind_some, if_neg (by simp)]
        exact e6
  have := go vs.length 0 [] S (by omega) h0
  rwa [List.drop_zero] at this
theorem wDc {p : Pat} {fi : IF} {t : BF} {fk f : EF} {own : List Nat} (h : Wi (fi ρ S) fun vs ok S1 => Wp (dcR p t fk f ok (wipeR ρ own) vs [] S1) fun ys S2 => Nw S2 (.dic ys) Q) : Wp (eDc p fi t fk f own ρ S) Q := by
  obtain ⟨vs, ok, S1, e, h⟩ := h
  unfold eDc
  rw [e]
  exact Wp.bind (h.imp fun ys S2 h => ⟨_, _, rfl, h.use⟩)
end
end AL
namespace AL
open PySem PySem.Spec PyProof.Rows L2 G Th
variable [TT]
section
variable {X : Cx} {K : PySem.W.Frag}
end
end AL
namespace AL
open PySem PySem.Spec PyProof.Rows L2 G
variable [TT]
section
variable {X : Cx} {K : PySem.W.Frag}
theorem hu65 {k : Nat} {A : Around} (r : Room k A) : A.units + 65 < cLine := by have := r.un; omega
end
end AL
namespace Od
open PySem PySem.Spec PyProof.Rows L2
inductive Tr where
  | i (n : Int)
  | s (l : List Nat)
  | t (l : List Tr)
mutual
def bq : Tr → Tr → Bool
  | .i a, .i b => decide (a = b)
  | .s a, .s b => decide (a = b)
  | .t a, .t b => bqs a b
  | _, _ => false
def bqs : List Tr → List Tr → Bool
  | [], [] => true
  | x :: xs, y :: ys => bq x y && bqs xs ys
  | _, _ => false
end
mutual
theorem bq_iff : ∀ x y : Tr, bq x y = true ↔ x = y
  | .i a, .i b => by simp [bq]
  | .s a, .s b => by simp [bq]
  | .t a, .t b => by simp only [bq, Tr.t.injEq]; exact bqs_iff a b
  | .i _, .s _ => by simp [bq]
  | .i _, .t _ => by simp [bq]
  | .s _, .i _ => by simp [bq]
  | .s _, .t _ => by simp [bq]
  | .t _, .i _ => by simp [bq]
  | .t _, .s _ => by simp [bq]
theorem bqs_iff : ∀ x y : List Tr, bqs x y = true ↔ x = y
  | [], [] => by simp [bqs]
  | [], _ :: _ => by simp [bqs]
  | _ :: _, [] => by simp [bqs]
  | x :: xs, y :: ys => by
    simp only [bqs, Bool.and_eq_true, List.cons.injEq]
    rw [bq_iff x y, bqs_iff xs ys]
end
mutual
def lt : Tr → Tr → Bool
  | .i a, .i b => decide (a < b)
  | .i _, .s _ => true
  | .i _, .t _ => true
  | .s _, .i _ => false
  | .s a, .s b => strKind.blt a b
  | .s _, .t _ => true
  | .t _, .i _ => false
  | .t _, .s _ => false
  | .t a, .t b => lts a b
def lts : List Tr → List Tr → Bool
  | [], [] => false
  | [], _ :: _ => true
  | _ :: _, [] => false
  | x :: xs, y :: ys => if bq x y = true then lts xs ys else lt x y
end
mutual
theorem irr : ∀ x : Tr, lt x x = false
  | .i a => by simp [lt]
  | .s a => by simp only [lt]; exact strKind.irrefl a
  | .t a => by simp only [lt]; exact irrs a
theorem irrs : ∀ x : List Tr, lts x x = false
  | [] => by simp [lts]
  | x :: xs => by rw [lts, if_pos ((bq_iff x x).mpr rfl), irrs xs]
end
mutual
theorem tot : ∀ x y : Tr, lt x y = false → lt y x = false → x = y
  | .i a, .i b, h, g => by
    simp only [lt, decide_eq_false_iff_not] at h g
    rw [show a = b by omega]
  | .i _, .s _, h, _ => by simp [lt] at h
  | .i _, .t _, h, _ => by simp [lt] at h
  | .s _, .i _, _, g => by simp [lt] at g
  | .s a, .s b, h, g => by
    simp only [lt] at h g
    rw [strKind.total a b h g]
  | .s _, .t _, h, _ => by simp [lt] at h
  | .t _, .i _, _, g => by simp [lt] at g
  | .t _, .s _, _, g => by simp [lt] at g
  | .t a, .t b, h, g => by
    simp only [lt] at h g
    rw [tots a b h g]
theorem tots : ∀ x y : List Tr, lts x y = false → lts y x = false → x = y
  | [], [], _, _ => rfl
  | [], _ :: _, h, _ => by simp [lts] at h
  | _ :: _, [], _, g => by simp [lts] at g
  | x :: xs, y :: ys, h, g => by
    by_cases e : x = y
    · subst e
      rw [lts, if_pos ((bq_iff _ _).mpr rfl)] at h g
      rw [tots xs ys h g]
    · rw [lts, if_neg (fun z => e ((bq_iff _ _).mp z))] at h
      rw [lts, if_neg (fun z => e ((bq_iff _ _).mp z).symm)] at g
      exact absurd (tot x y h g) e
end
mutual
theorem tra : ∀ x y z : Tr, lt x y = true → lt y z = true → lt x z = true
  | .i a, .i b, .i c, h, g => by
    simp only [lt, decide_eq_true_eq] at h g ⊢
    omega
  | .i _, .i _, .s _, _, _ => by simp [lt]
  | .i _, .i _, .t _, _, _ => by simp [lt]
  | .i _, .s _, .i _, _, g => by simp [lt] at g
  | .i _, .s _, .s _, _, _ => by simp [lt]
  | .i _, .s _, .t _, _, _ => by simp [lt]
  | .i _, .t _, .i _, _, g => by simp [lt] at g
  | .i _, .t _, .s _, _, _ => by simp [lt]
  | .i _, .t _, .t _, _, _ => by simp [lt]
  | .s _, .i _, _, h, _ => by simp [lt] at h
  | .s _, .s _, .i _, _, g => by simp [lt] at g
  | .s a, .s b, .s c, h, g => by
    simp only [lt] at h g ⊢
    exact strKind.trans a b c h g
  | .s _, .s _, .t _, _, _ => by simp [lt]
  | .s _, .t _, .i _, _, g => by simp [lt] at g
  | .s _, .t _, .s _, _, g => by simp [lt] at g
  | .s _, .t _, .t _, _, _ => by simp [lt]
  | .t _, .i _, _, h, _ => by simp [lt] at h
  | .t _, .s _, _, h, _ => by simp [lt] at h
  | .t _, .t _, .i _, _, g => by simp [lt] at g
  | .t _, .t _, .s _, _, g => by simp [lt] at g
  | .t a, .t b, .t c, h, g => by
    simp only [lt] at h g ⊢
    exact tras a b c h g
theorem tras : ∀ x y z : List Tr, lts x y = true → lts y z = true → lts x z = true
  | [], [], _, h, _ => by simp [lts] at h
  | [], _ :: _, [], _, g => by simp [lts] at g
  | [], _ :: _, _ :: _, _, _ => by simp [lts]
  | _ :: _, [], _, h, _ => by simp [lts] at h
  | _ :: _, _ :: _, [], _, g => by simp [lts] at g
  | x :: xs, y :: ys, z :: zs, h, g => by
    by_cases e1 : x = y
    · subst e1
      rw [lts, if_pos ((bq_iff _ _).mpr rfl)] at h
      by_cases e2 : x = z
      · subst e2
        rw [lts, if_pos ((bq_iff _ _).mpr rfl)] at g ⊢
        exact tras xs ys zs h g
      · rw [lts, if_neg (fun w => e2 ((bq_iff _ _).mp w))] at g ⊢
        exact g
    · rw [lts, if_neg (fun w => e1 ((bq_iff _ _).mp w))] at h
      by_cases e2 : y = z
      · subst e2
        rw [lts, if_neg (fun w => e1 ((bq_iff _ _).mp w))]
        exact h
      · rw [lts, if_neg (fun w => e2 ((bq_iff _ _).mp w))] at g
        by_cases e3 : x = z
        · subst e3
          have := tra x y x h g
          rw [irr] at this
          cases this
        · rw [lts, if_neg (fun w => e3 ((bq_iff _ _).mp w))]
          exact tra x y z h g
end
theorem asy (a b : Tr) (h : lt a b = true) : lt b a = false := by
  cases e : lt b a with
  | false => rfl
  | true =>
    have := tra a b a h e
    rw [irr] at this
    cases this
theorem ntr (x y z : Tr) (h1 : lt y x = false) (h2 : lt z y = false) : lt z x = false := by
  cases e : lt z x with
  | false => rfl
  | true =>
    cases f : lt x y with
    | true =>
      rw [tra z x y e f] at h2
      cases h2
    | false =>
      have e2 := tot x y f h1
      subst e2
      rw [e] at h2
      cases h2
theorem lts_same (x : Tr) (xs ys : List Tr) : lts (x :: xs) (x :: ys) = lts xs ys := by rw [lts, if_pos ((bq_iff _ _).mpr rfl)]
theorem lts_other {x y : Tr} (h : x ≠ y) (xs ys : List Tr) : lts (x :: xs) (y :: ys) = lt x y := by rw [lts, if_neg (fun w => h ((bq_iff _ _).mp w))]
mutual
def toT : PyData → Tr
  | .int a => .i a
  | .str x => .s x.cps.toList
  | .tuple xs => .t (toTs xs)
  | _ => .i 0
def toTs : List PyData → List Tr
  | [] => []
  | x :: xs => toT x :: toTs xs
end
mutual
def sm : PyData → PyData → Bool
  | .int _, .int _ => true
  | .str _, .str _ => true
  | .tuple xs, .tuple ys => sms xs ys
  | _, _ => false
def sms : List PyData → List PyData → Bool
  | [], _ => true
  | _ :: _, [] => true
  | x :: xs, y :: ys => sm x y && sms xs ys
end
theorem str_inj {x y : Str} (h : x.cps.toList = y.cps.toList) : x = y := by
  have hc : x.cps = y.cps := Array.toList_inj.mp h
  cases x
  cases y
  simp only [Str.mk.injEq]
  exact hc
mutual
theorem eqv_iff : ∀ d e : PyData, sm d e = true → (PyData.eqv d e = true ↔ toT d = toT e)
  | .int a, .int b, _ => by simp [PyData.eqv, toT]
  | .str a, .str b, _ => by
    simp only [PyData.eqv, toT, beq_iff_eq, Tr.s.injEq]
    exact ⟨fun h => by rw [h], str_inj⟩
  | .tuple xs, .tuple ys, h => by
    simp only [sm] at h
    simp only [PyData.eqv, toT, Tr.t.injEq]
    exact eqvs_iff xs ys h
  | .none, _, h => by simp [sm] at h
  | .bool _, _, h => by simp [sm] at h
  | .list _, _, h => by simp [sm] at h
  | .dict _, _, h => by simp [sm] at h
  | .int _, .none, h => by simp [sm] at h
  | .int _, .bool _, h => by simp [sm] at h
  | .int _, .str _, h => by simp [sm] at h
  | .int _, .list _, h => by simp [sm] at h
  | .int _, .tuple _, h => by simp [sm] at h
  | .int _, .dict _, h => by simp [sm] at h
  | .str _, .none, h => by simp [sm] at h
  | .str _, .bool _, h => by simp [sm] at h
  | .str _, .int _, h => by simp [sm] at h
  | .str _, .list _, h => by simp [sm] at h
  | .str _, .tuple _, h => by simp [sm] at h
  | .str _, .dict _, h => by simp [sm] at h
  | .tuple _, .none, h => by simp [sm] at h
  | .tuple _, .bool _, h => by simp [sm] at h
  | .tuple _, .int _, h => by simp [sm] at h
  | .tuple _, .str _, h => by simp [sm] at h
  | .tuple _, .list _, h => by simp [sm] at h
  | .tuple _, .dict _, h => by simp [sm] at h
theorem eqvs_iff : ∀ d e : List PyData, sms d e = true → (PyData.eqvAll d e = true ↔ toTs d = toTs e)
  | [], [], _ => by simp [PyData.eqvAll]
  | [], _ :: _, _ => by simp [PyData.eqvAll, toTs]
  | _ :: _, [], _ => by simp [PyData.eqvAll, toTs]
  | x :: xs, y :: ys, h => by
    simp only [sms, Bool.and_eq_true] at h
    simp only [PyData.eqvAll, toTs, Bool.and_eq_true, List.cons.injEq]
    rw [eqv_iff x y h.1, eqvs_iff xs ys h.2]
end
end Od
namespace Od
open PySem PySem.Spec PyProof.Rows L2 SeqAt
open PySem.W (KatLex KatTups kat_lt kat_nil kat_cons kat_go kat_yes kat_no kat_kind)
def eT (l m : List Tr) (j : Nat) : Bool := match l[j]?, m[j]? with
  | some x, some y => bq x y
  | _, _ => false
def rT (l m : List Tr) (j : Nat) : Bool := match l[j]?, m[j]? with
  | some x, some y => lt x y
  | _, _ => false
theorem lexAt_up (e r : Nat → Bool) (z : Bool) : ∀ (k i : Nat), Ob.lexAt e r z (i + 1) k = Ob.lexAt (fun j => e (j + 1)) (fun j => r (j + 1)) z i k
  | 0, _ => rfl
  | k + 1, i => by rw [Ob.lexAt_succ, Ob.lexAt_succ, lexAt_up e r z k (i + 1)]
theorem lexAt_lts : ∀ l m : List Tr, Ob.lexAt (eT l m) (rT l m) (decide (l.length < m.length)) 0 (min l.length m.length) = lts l m
  | [], [] => by rfl
  | [], _ :: _ => by simp [lts, Ob.lexAt_zero]
  | _ :: _, [] => by simp [lts, Ob.lexAt_zero]
  | x :: l, y :: m => by
    have e : min (x :: l).length (y :: m).length = min l.length m.length + 1 := by simp only [List.length_cons]; omega
    rw [e, Ob.lexAt_succ, lexAt_up, show (decide ((x :: l).length < (y :: m).length)) = decide (l.length < m.length) by simp]
    have ih := lexAt_lts l m
    show (if bq x y = true then Ob.lexAt (eT l m) (rT l m) _ 0 _ else lt x y) = _
    rw [ih, lts]
theorem toTs_get : ∀ (ds : List PyData) (j : Nat) (d : PyData), ds[j]? = some d → (toTs ds)[j]? = some (toT d)
  | [], _, _, h => by simp at h
  | x :: xs, 0, d, h => by simp at h; subst h; simp [toTs]
  | x :: xs, j + 1, d, h => by simp only [toTs, List.getElem?_cons_succ] at h ⊢; exact toTs_get xs j d h
theorem toTs_len : ∀ ds : List PyData, (toTs ds).length = ds.length
  | [] => rfl
  | x :: xs => by simp [toTs, toTs_len xs]
theorem bq_eqv {d e : PyData} (h : sm d e = true) : PyData.eqv d e = bq (toT d) (toT e) := by
  have a := eqv_iff d e h
  have b := bq_iff (toT d) (toT e)
  cases x : PyData.eqv d e <;> cases y : bq (toT d) (toT e) <;> simp_all
theorem reads_tup {h : Heap} {v : Value} {xs : List PyData} {as : List Addr} (r : Reads h v (.tuple xs) as) : ∃ a o vs n as', v = .ref a ∧ h.get? a = some o ∧ o.cls = .type "tuple" ∧ o.data = .seq vs n ∧ ReadsAll h vs.toList xs as' := by
  cases r with
  | tuple ho hc hd r1 => exact ⟨_, _, _, _, _, rfl, ho, hc, hd, r1⟩
theorem reads_cons {h : Heap} {vs : List Value} {x : PyData} {xs : List PyData} {as : List Addr} (r : ReadsAll h vs (x :: xs) as) : ∃ v ws a1 a2, vs = v :: ws ∧ Reads h v x a1 ∧ ReadsAll h ws xs a2 := by
  cases r with
  | cons r1 r2 => exact ⟨_, _, _, _, rfl, r1, r2⟩
mutual
theorem rc_lt : ∀ (d e : PyData) (A : Around) (s : Shared) (a b : Value) (as bs : List Addr), Reads s.heap a d as → Reads s.heap b e bs → sm d e = true → d.canLay0 = true → e.canLay0 = true → A.units + d.depth + 1 < cLine → Ob.RcOp .Lt A s a b (lt (toT d) (toT e))
  | .int x, .int y, A, s, _, _, _, _, ra, rb, _, _, _, _ => by
    cases ra
    cases rb
    rw [toT, toT, lt]
    exact Ob.RcOp.lt_int _ _ _ _
  | .str x, .str y, A, s, _, _, _, _, ra, rb, _, _, _, _ => by
    cases ra
    cases rb
    rw [toT, toT, lt]
    exact fun prog w E Q h => P.lt_str h
  | .tuple xs, .tuple ys, A, s, _, _, _, _, ra, rb, h, ha, hb, hu => by
    obtain ⟨a, o, vs, n, as, rfl, ho, hc, hd, r1⟩ := reads_tup ra
    obtain ⟨b, o2, ws, n2, bs, rfl, ho2, hc2, hd2, r2⟩ := reads_tup rb
    simp only [PyData.depth] at hu
    simp only [PyData.canLay0] at ha hb
    simp only [sm] at h
    have I := rc_lts xs ys A.in1 s vs.toList ws.toList as bs r1 r2 h ha hb (by show A.units + 1 + PyData.depthAll xs + 1 < cLine; omega)
    have l1 := ReadsAll.length xs vs.toList as r1
    have l2 := ReadsAll.length ys ws.toList bs r2
    have t := Ob.RcOp.tuples_lt (A := A) (s := s) (l := a) (b := b) (items := vs) (items2 := ws) (e := eT (toTs xs) (toTs ys)) (r := rT (toTs xs) (toTs ys)) ⟨o, ho, hc, n, hd⟩ ⟨o2, ho2, hc2, n2, hd2⟩ (by omega) (fun j h1 h2 => ?_) (fun j h1 h2 _ => ?_)
    · rw [toT, toT, lt, ← lexAt_lts, toTs_len, toTs_len, ← l1, ← l2, Array.length_toList, Array.length_toList]
      exact t
    · obtain ⟨x, y, hx, hy, q, _⟩ := I j (by simpa using h1) (by simpa using h2)
      unfold eT
      rw [toTs_get _ _ _ hx, toTs_get _ _ _ hy]
      simpa using q
    · obtain ⟨x, y, hx, hy, _, q⟩ := I j (by simpa using h1) (by simpa using h2)
      unfold rT
      rw [toTs_get _ _ _ hx, toTs_get _ _ _ hy]
      simpa using q
  | .none, _, _, _, _, _, _, _, _, _, h, _, _, _ => by simp [sm] at h
  | .bool _, _, _, _, _, _, _, _, _, _, h, _, _, _ => by simp [sm] at h
  | .list _, _, _, _, _, _, _, _, _, _, h, _, _, _ => by simp [sm] at h
  | .dict _, _, _, _, _, _, _, _, _, _, h, _, _, _ => by simp [sm] at h
  | .int _, .none, _, _, _, _, _, _, _, _, h, _, _, _ => by simp [sm] at h
  | .int _, .bool _, _, _, _, _, _, _, _, _, h, _, _, _ => by simp [sm] at h
  | .int _, .str _, _, _, _, _, _, _, _, _, h, _, _, _ => by simp [sm] at h
  | .int _, .list _, _, _, _, _, _, _, _, _, h, _, _, _ => by simp [sm] at h
  | .int _, .tuple _, _, _, _, _, _, _, _, _, h, _, _, _ => by simp [sm] at h
  | .int _, .dict _, _, _, _, _, _, _, _, _, h, _, _, _ => by simp [sm] at h
  | .str _, .none, _, _, _, _, _, _, _, _, h, _, _, _ => by simp [sm] at h
  | .str _, .bool _, _, _, _, _, _, _, _, _, h, _, _, _ => by simp [sm] at h
  | .str _, .int _, _, _, _, _, _, _, _, _, h, _, _, _ => by simp [sm] at h
  | .str _, .list _, _, _, _, _, _, _, _, _, h, _, _, _ => by simp [sm] at h
  | .str _, .tuple _, _, _, _, _, _, _, _, _, h, _, _, _ => by simp [sm] at h
  | .str _, .dict _, _, _, _, _, _, _, _, _, h, _, _, _ => by simp [sm] at h
  | .tuple _, .none, _, _, _, _, _, _, _, _, h, _, _, _ => by simp [sm] at h
  | .tuple _, .bool _, _, _, _, _, _, _, _, _, h, _, _, _ => by simp [sm] at h
  | .tuple _, .int _, _, _, _, _, _, _, _, _, h, _, _, _ => by simp [sm] at h
  | .tuple _, .str _, _, _, _, _, _, _, _, _, h, _, _, _ => by simp [sm] at h
  | .tuple _, .list _, _, _, _, _, _, _, _, _, h, _, _, _ => by simp [sm] at h
  | .tuple _, .dict _, _, _, _, _, _, _, _, _, h, _, _, _ => by simp [sm] at h
theorem rc_lts : ∀ (xs ys : List PyData) (A : Around) (s : Shared) (vs ws : List Value) (as bs : List Addr), ReadsAll s.heap vs xs as → ReadsAll s.heap ws ys bs → sms xs ys = true → PyData.canLayAll0 xs = true → PyData.canLayAll0 ys = true → A.units + PyData.depthAll xs + 1 < cLine →
    ∀ j (h1 : j < vs.length) (h2 : j < ws.length), ∃ x y, xs[j]? = some x ∧ ys[j]? = some y ∧ EqAt A s vs[j] ws[j] (bq (toT x) (toT y)) ∧ Ob.RcOp .Lt A s vs[j] ws[j] (lt (toT x) (toT y))
  | [], _, _, _, _, _, _, _, ra, _, _, _, _, _, j, h1, _ => by cases ra; exact absurd h1 (Nat.not_lt_zero _)
  | _ :: _, [], _, _, _, _, _, _, _, rb, _, _, _, _, j, _, h2 => by cases rb; exact absurd h2 (Nat.not_lt_zero _)
  | x :: xs, y :: ys, A, s, _, _, _, _, ra, rb, h, ha, hb, hu, j, h1, h2 => by
    obtain ⟨v, vs, a1, a2, rfl, r1, r2⟩ := reads_cons ra
    obtain ⟨w, ws, b1, b2, rfl, q1, q2⟩ := reads_cons rb
    simp only [PyData.depthAll] at hu
    simp only [PyData.canLayAll0, Bool.and_eq_true] at ha hb
    simp only [sms, Bool.and_eq_true] at h
    cases j with
    | zero =>
      refine ⟨x, y, rfl, rfl, ?_, ?_⟩
      · have z := eqAt_reads x y A s v w a1 b1 r1 q1 ha.1 hb.1 (by omega)
        rw [bq_eqv h.1] at z
        exact z
      · exact rc_lt x y A s v w a1 b1 r1 q1 h.1 ha.1 hb.1 (by omega)
    | succ j =>
      exact rc_lts xs ys A s vs ws a2 b2 r2 q2 h.2 ha.2 hb.2 (by omega) j (Nat.lt_of_succ_lt_succ h1) (Nat.lt_of_succ_lt_succ h2)
end

def hd1 : PyData → Bool
  | .tuple (.int _ :: _) => true
  | .tuple (.str _ :: _) => true
  | _ => false
section
variable {prog : Program} {w : World} {A : Around} {E : Value → Shared → Prop} {s : Shared}
theorem one_lt {f : Bool} {p q : Value} {d e : PyData} {as bs : List Addr} {Q : Bool → Shared → Prop} (ra : Reads s.heap p d as) (rb : Reads s.heap q e bs) (h : sm d e = true) (ha : d.canLay0 = true) (hb : e.canLay0 = true) (hu : A.units + d.depth + 1 < cLine)
    (hf : f = true → (∃ n, d = .int n) ∨ ∃ x, d = .str x) (k : Q (lt (toT d) (toT e)) s) : wpAny (model prog w) A (oneLt' f p q) Q (fun _ _ => False) s := by
  cases f with
  | false =>
    rw [oneLt'_eq]
    simp only [Bool.false_eq_true, if_false]
    exact wpAny_bind (rc_lt d e A s p q as bs ra rb h ha hb hu prog w _ _ (wpAny_truthy_bool k))
  | true =>
    rcases hf rfl with ⟨n, rfl⟩ | ⟨x, rfl⟩
    · cases e with
      | int m =>
        cases ra
        cases rb
        rw [toT, toT, lt] at k
        exact oneLt_int k
      | _ => simp [sm] at h
    · cases e with
      | str y =>
        cases ra
        cases rb
        rw [toT, toT, lt] at k
        exact oneLt_str k
      | _ => simp [sm] at h
theorem kat_run {b fin : Bool} {Q : Bool → Shared → Prop} (hu : A.units + 60 < cLine) : ∀ (xs ys : List PyData) (ps qs : List Value) (as bs : List Addr) (i : Nat), ReadsAll s.heap ps xs as → ReadsAll s.heap qs ys bs → sms xs ys = true → PyData.canLayAll0 xs = true → PyData.canLayAll0 ys = true → PyData.depthAll xs ≤ 50 →
    (i = 0 → ∀ x, xs[0]? = some x → (∃ n, x = .int n) ∨ ∃ z, x = .str z) → fin = decide (ps.length < qs.length) → Q (lts (toTs xs) (toTs ys)) s → KatLex prog w A b fin Q (ps.zip qs) i s
  | [], [], _, _, _, _, i, ra, rb, _, _, _, _, _, hf, h => by
    cases ra
    cases rb
    have e : fin = false := by rw [hf]; rfl
    subst e
    exact kat_nil h
  | [], y :: ys, _, _, _, _, i, ra, rb, _, _, _, _, _, hf, h => by
    cases ra
    obtain ⟨w', ws, b1, b2, rfl, q1, q2⟩ := reads_cons rb
    have e : fin = true := by rw [hf]; exact decide_eq_true (Nat.succ_pos _)
    subst e
    rw [toTs, toTs, lts] at h
    exact kat_nil h
  | x :: xs, [], _, _, _, _, i, ra, rb, _, _, _, _, _, hf, h => by
    cases rb
    obtain ⟨w', ws, b1, b2, rfl, q1, q2⟩ := reads_cons ra
    have e : fin = false := by rw [hf]; exact decide_eq_false (Nat.not_lt_zero _)
    subst e
    rw [toTs, toTs, lts] at h
    exact kat_nil h
  | x :: xs, y :: ys, _, _, _, _, i, ra, rb, h, ha, hb, hd, h0, hf, k => by
    obtain ⟨v, vs, a1, a2, rfl, r1, r2⟩ := reads_cons ra
    obtain ⟨w', ws, b1, b2, rfl, q1, q2⟩ := reads_cons rb
    simp only [PyData.depthAll] at hd
    simp only [PyData.canLayAll0, Bool.and_eq_true] at ha hb
    simp only [sms, Bool.and_eq_true] at h
    have hf' : fin = decide (vs.length < ws.length) := by rw [hf]; simp only [List.length_cons, Nat.add_lt_add_iff_right]
    refine kat_cons (eqAt_reads x y A s v w' a1 b1 r1 q1 ha.1 hb.1 (by omega) prog w _ _ ?_)
    rw [bq_eqv h.1]
    refine kat_go (fun e => kat_yes ?_) (fun e => kat_no ?_)
    · have e2 := (bq_iff _ _).mp e
      refine kat_run hu xs ys vs ws a2 b2 (i + 1) r2 q2 h.2 ha.2 hb.2 (by omega) (fun z => absurd z (Nat.succ_ne_zero _)) hf' ?_
      rw [toTs, toTs, e2, lts_same] at k
      exact k
    · have ne : toT x ≠ toT y := fun z => by rw [(bq_iff _ _).mpr z] at e; cases e
      rw [toTs, toTs, lts_other ne] at k
      refine one_lt r1 q1 h.1 ha.1 hb.1 (by omega) (fun hb2 => h0 ?_ x rfl) k
      simp only [Bool.and_eq_true, beq_iff_eq] at hb2
      exact hb2.2
theorem key_run {b : Bool} {d e : PyData} {p q : Value} {as bs : List Addr} {Q : Bool → Shared → Prop} {E : Value → Shared → Prop} (hu : A.units + 60 < cLine) (ra : Reads s.heap p d as) (rb : Reads s.heap q e bs) (h : sm d e = true) (ha : d.canLay0 = true) (hb : e.canLay0 = true) (hd : d.depth ≤ 50) (h1 : hd1 d = true)
    (k : Q (lt (toT d) (toT e)) s) : wpAny (model prog w) A (keyLt' (tuples' b) p q) Q E s := by
  cases d with
  | tuple xs =>
    cases e with
    | tuple ys =>
      obtain ⟨a, o, vs, n, as', rfl, ho, hc, hdt, r1⟩ := reads_tup ra
      obtain ⟨a2, o2, ws, n2, bs', rfl, ho2, hc2, hdt2, r2⟩ := reads_tup rb
      simp only [PyData.depth] at hd
      simp only [PyData.canLay0] at ha hb
      simp only [sm] at h
      rw [toT, toT, lt] at k
      refine kat_lt ho hdt ho2 hdt2 (kat_run hu xs ys vs.toList ws.toList as' bs' 0 r1 r2 h ha hb (by omega) (fun _ x hx => ?_) (by rw [Array.length_toList, Array.length_toList]) k)
      cases xs with
      | nil => simp at hx
      | cons y ys =>
        cases hx
        cases x with
        | int n => exact .inl ⟨n, rfl⟩
        | str z => exact .inr ⟨z, rfl⟩
        | _ => simp [hd1] at h1
    | _ => simp [sm] at h
  | _ => simp [hd1] at h1

theorem hd_sm {d e : PyData} (h : sm d e = true) (h1 : hd1 d = true) (h2 : hd1 e = true) : True ∧ ((∃ n m r r', d = .tuple (.int n :: r) ∧ e = .tuple (.int m :: r')) ∨ ∃ n m r r', d = .tuple (.str n :: r) ∧ e = .tuple (.str m :: r')) := by
  cases d with
  | tuple xs =>
    cases e with
    | tuple ys =>
      cases xs with
      | nil => simp [hd1] at h1
      | cons x xs =>
        cases ys with
        | nil => simp [hd1] at h2
        | cons y ys =>
          simp only [sm, sms, Bool.and_eq_true] at h
          cases x with
          | int n =>
            cases y with
            | int m => exact ⟨trivial, .inl ⟨n, m, xs, ys, rfl, rfl⟩⟩
            | _ => simp [sm] at h
          | str n =>
            cases y with
            | str m => exact ⟨trivial, .inr ⟨n, m, xs, ys, rfl, rfl⟩⟩
            | _ => simp [sm] at h
          | _ => simp [hd1] at h1
    | _ => simp [sm] at h
  | _ => simp [hd1] at h1
theorem kind_run {vs : List Value} {Q : SortKind → Shared → Prop} {E : Value → Shared → Prop} (h2 : 0 < vs.length) (d0 : PyData) (h0 : hd1 d0 = true) (hv : ∀ v ∈ vs, ∃ d as, Reads s.heap v d as ∧ sm d0 d = true ∧ hd1 d = true) (q : Q (tuples' true) s) : wpAny (model prog w) A (keyKind' vs.toArray) Q E s := by
  have fs : ∀ l : List Value, (∀ v ∈ l, v ∈ vs) → ∃ fs, fs.length = l.length ∧ KatTups s.heap l fs ∧ ((∃ n r, d0 = .tuple (.int n :: r)) → ∀ v ∈ fs, ∃ n t, v = Value.int n t) ∧ ((∃ n r, d0 = .tuple (.str n :: r)) → ∀ v ∈ fs, ∃ n t, v = Value.str n t) := by
    intro l
    induction l with
    | nil => exact fun _ => ⟨[], rfl, KatTups.nil, fun _ => by simp, fun _ => by simp⟩
    | cons v l ih =>
      intro hl
      obtain ⟨fs, e, t, ti, ts⟩ := ih fun x hx => hl x (List.mem_cons_of_mem _ hx)
      obtain ⟨d, as, rd, hs, hd⟩ := hv v (hl v List.mem_cons_self)
      obtain ⟨_, hk⟩ := hd_sm hs h0 hd
      clear hd
      rcases hk with ⟨n, m, r, r', e1, rfl⟩ | ⟨n, m, r, r', e1, rfl⟩
      · obtain ⟨a, o, xs, k, as', rfl, ho, hc, hd, r1⟩ := reads_tup rd
        obtain ⟨v1, ws, a1, a2, ex, q1, q2⟩ := reads_cons r1
        cases q1 with
        | int i t' =>
        refine ⟨.int m t' :: fs, by simp [e], KatTups.cons ho hc hd ?_ t, fun _ => ?_, fun ⟨n', r2, e2⟩ => ?_⟩
        · rw [← Array.getElem?_toList, ex]
          rfl
        · intro u hu
          rcases List.mem_cons.mp hu with rfl | hu
          · exact ⟨_, _, rfl⟩
          · exact ti ⟨_, _, e1⟩ u hu
        · rw [e1] at e2
          cases e2
      · obtain ⟨a, o, xs, k, as', rfl, ho, hc, hd, r1⟩ := reads_tup rd
        obtain ⟨v1, ws, a1, a2, ex, q1, q2⟩ := reads_cons r1
        cases q1 with
        | str i t' =>
        refine ⟨.str m t' :: fs, by simp [e], KatTups.cons ho hc hd ?_ t, fun ⟨n', r2, e2⟩ => ?_, fun _ => ?_⟩
        · rw [← Array.getElem?_toList, ex]
          rfl
        · rw [e1] at e2
          cases e2
        · intro u hu
          rcases List.mem_cons.mp hu with rfl | hu
          · exact ⟨_, _, rfl⟩
          · exact ts ⟨_, _, e1⟩ u hu
  obtain ⟨fs, e, t, ti, ts⟩ := fs vs fun _ h => h
  have hd : (∃ n r, d0 = .tuple (.int n :: r)) ∨ ∃ n r, d0 = .tuple (.str n :: r) := by
    cases d0 with
    | tuple xs =>
      cases xs with
      | nil => simp [hd1] at h0
      | cons x xs =>
        cases x with
        | int n => exact .inl ⟨_, _, rfl⟩
        | str n => exact .inr ⟨_, _, rfl⟩
        | _ => simp [hd1] at h0
    | _ => simp [hd1] at h0
  rcases hd with hd | hd
  · have e1 : (Value.type "int" != Value.type "tuple") = true := by first | rfl | decide
    refine kat_kind (T := Value.type "int") t (by omega) (fun v hv => ?_) rfl (by rw [e1]; exact q)
    obtain ⟨k, t, rfl⟩ := ti hd v hv
    exact PySem.W.Looks.of_pure rfl
  · have e1 : (Value.type "str" != Value.type "tuple") = true := by first | rfl | decide
    refine kat_kind (T := Value.type "str") t (by omega) (fun v hv => ?_) rfl (by rw [e1]; exact q)
    obtain ⟨k, t, rfl⟩ := ts hd v hv
    exact PySem.W.Looks.of_pure rfl
end
end Od
namespace Od
open PySem PySem.Spec PyProof.Rows L2 SeqAt

def Old (g h : Heap) : Prop := ∀ b o, g.get? b = some o → h.get? b = some o
section
variable {pr : Program} {wd : World} {Ar : Around} {Rs : Result → Shared → Prop} {It ax : Addr} {its : Array Value} {g : Heap}
theorem Old.up {h1 h2 : Heap} {I S : Addr} (o : Old g h1) (gI : ∀ b x, g.get? b = some x → b ≠ I) (k : ∀ b x, b ∉ [I] → h1.get? b = some x → h2.get? b = some x) : Old g h2 := fun b x e => k b x (fun m => gI b x e (List.mem_singleton.mp m)) (o b x e)
end
end Od
namespace AL
open PySem PySem.Spec PyProof.Rows L2 G Th Od
variable [TT]
mutual
def dV : Val → PyData
  | .int i => .int i
  | .str x => .str x
  | .tup vs => .tuple (dVs vs)
  | _ => .none
def dVs : List Val → List PyData
  | [] => []
  | v :: vs => dV v :: dVs vs
end
mutual
def pureV : Val → Bool
  | .int _ => true
  | .str _ => true
  | .tup vs => pureVs vs
  | _ => false
def pureVs : List Val → Bool
  | [] => true
  | v :: vs => pureV v && pureVs vs
end
def trV (v : Val) : Tr := toT (dV v)
def ltV (a b : Val) : Bool := lt (trV a) (trV b)
def smV (a b : Val) : Bool := sm (dV a) (dV b)
def okV (v : Val) : Bool := pureV v && (dV v).canLay0 && decide ((dV v).depth ≤ 50)
mutual
theorem trV_inj : ∀ a b : Val, pureV a = true → pureV b = true → trV a = trV b → a = b
  | .int _, .int _, _, _, h => by simp only [trV, dV, toT, Tr.i.injEq] at h; rw [h]
  | .str _, .str _, _, _, h => by simp only [trV, dV, toT, Tr.s.injEq] at h; rw [str_inj h]
  | .tup xs, .tup ys, h1, h2, h => by
    simp only [trV, dV, toT, Tr.t.injEq] at h
    simp only [pureV] at h1 h2
    rw [trVs_inj xs ys h1 h2 h]
  | .int _, .str _, _, _, h => by simp [trV, dV, toT] at h
  | .int _, .tup _, _, _, h => by simp [trV, dV, toT] at h
  | .str _, .int _, _, _, h => by simp [trV, dV, toT] at h
  | .str _, .tup _, _, _, h => by simp [trV, dV, toT] at h
  | .tup _, .int _, _, _, h => by simp [trV, dV, toT] at h
  | .tup _, .str _, _, _, h => by simp [trV, dV, toT] at h
  | .non, _, h, _, _ => by simp [pureV] at h
  | .bl _, _, h, _, _ => by simp [pureV] at h
  | .ref _, _, h, _, _ => by simp [pureV] at h
  | .scr _, _, h, _, _ => by simp [pureV] at h
  | .lam _ _ _ _ _, _, h, _, _ => by simp [pureV] at h
  | .exc _ _ _ _, _, h, _, _ => by simp [pureV] at h
  | .ptu _, _, h, _, _ => by simp [pureV] at h
  | .int _, .non, _, h, _ => by simp [pureV] at h
  | .int _, .bl _, _, h, _ => by simp [pureV] at h
  | .int _, .ref _, _, h, _ => by simp [pureV] at h
  | .int _, .scr _, _, h, _ => by simp [pureV] at h
  | .int _, .lam _ _ _ _ _, _, h, _ => by simp [pureV] at h
  | .int _, .exc _ _ _ _, _, h, _ => by simp [pureV] at h
  | .int _, .ptu _, _, h, _ => by simp [pureV] at h
  | .str _, .non, _, h, _ => by simp [pureV] at h
  | .str _, .bl _, _, h, _ => by simp [pureV] at h
  | .str _, .ref _, _, h, _ => by simp [pureV] at h
  | .str _, .scr _, _, h, _ => by simp [pureV] at h
  | .str _, .lam _ _ _ _ _, _, h, _ => by simp [pureV] at h
  | .str _, .exc _ _ _ _, _, h, _ => by simp [pureV] at h
  | .str _, .ptu _, _, h, _ => by simp [pureV] at h
  | .tup _, .non, _, h, _ => by simp [pureV] at h
  | .tup _, .bl _, _, h, _ => by simp [pureV] at h
  | .tup _, .ref _, _, h, _ => by simp [pureV] at h
  | .tup _, .scr _, _, h, _ => by simp [pureV] at h
  | .tup _, .lam _ _ _ _ _, _, h, _ => by simp [pureV] at h
  | .tup _, .exc _ _ _ _, _, h, _ => by simp [pureV] at h
  | .tup _, .ptu _, _, h, _ => by simp [pureV] at h
theorem trVs_inj : ∀ a b : List Val, pureVs a = true → pureVs b = true → toTs (dVs a) = toTs (dVs b) → a = b
  | [], [], _, _, _ => rfl
  | [], _ :: _, _, _, h => by simp [dVs, toTs] at h
  | _ :: _, [], _, _, h => by simp [dVs, toTs] at h
  | x :: xs, y :: ys, h1, h2, h => by
    simp only [dVs, toTs, List.cons.injEq] at h
    simp only [pureVs, Bool.and_eq_true] at h1 h2
    rw [trV_inj x y h1.1 h2.1 h.1, trVs_inj xs ys h1.2 h2.2 h.2]
end
section
variable {K : PySem.W.Frag} {H : Hp} {m : List Addr}
mutual
theorem dV_dp : ∀ (v : Val) (u : V), VR K H m u v → pureV v = true → Dp K H u (dV v)
  | .int _, _, r, _ => by cases r; rw [dV]; exact .int _
  | .str _, _, r, _ => by cases r; rw [dV]; exact .str _
  | .tup vs, _, r, h => by
    simp only [pureV] at h
    cases r with
    | tup ha ra => rw [dV]; exact .tup ha.sq (dVs_dp vs _ ra h)
  | .non, _, _, h => by simp [pureV] at h
  | .bl _, _, _, h => by simp [pureV] at h
  | .ref _, _, _, h => by simp [pureV] at h
  | .scr _, _, _, h => by simp [pureV] at h
  | .lam _ _ _ _ _, _, _, h => by simp [pureV] at h
  | .exc _ _ _ _, _, _, h => by simp [pureV] at h
  | .ptu _, _, _, h => by simp [pureV] at h
theorem dVs_dp : ∀ (vs : List Val) (us : List V), VRs K H m us vs → pureVs vs = true → DpAll K H us (dVs vs)
  | [], _, r, _ => by cases r; rw [dVs]; exact .nil
  | v :: vs, _, r, h => by
    simp only [pureVs, Bool.and_eq_true] at h
    cases r with
    | cons a b => rw [dVs]; exact .cons (dV_dp v _ a h.1) (dVs_dp vs _ b h.2)
end
end
def insT (a : Val) : List Val → List Val
  | [] => [a]
  | b :: l => if ltV b a = true then b :: insT a l else a :: b :: l
def sortT : List Val → List Val
  | [] => []
  | a :: l => insT a (sortT l)
def Srt (l : List Val) : Prop := l.Pairwise fun x y => ltV y x = false
theorem insT_perm (a : Val) : ∀ l : List Val, (insT a l).Perm (a :: l)
  | [] => .refl _
  | b :: l => by
    unfold insT
    split
    · exact ((insT_perm a l).cons b).trans (.swap a b l)
    · exact .refl _
theorem sortT_perm : ∀ l : List Val, (sortT l).Perm l
  | [] => .refl _
  | a :: l => (insT_perm a _).trans ((sortT_perm l).cons a)
theorem insT_srt {a : Val} : ∀ {l : List Val}, Srt l → Srt (insT a l)
  | [], _ => List.pairwise_singleton _ _
  | b :: l, h => by
    obtain ⟨h1, h2⟩ := List.pairwise_cons.mp h
    unfold insT
    split
    · next hb =>
      refine List.pairwise_cons.mpr ⟨fun x hx => ?_, insT_srt h2⟩
      rcases List.mem_cons.mp ((insT_perm a l).mem_iff.mp hx) with rfl | hx
      · exact asy _ _ hb
      · exact h1 x hx
    · next hb =>
      refine List.pairwise_cons.mpr ⟨fun x hx => ?_, h⟩
      have hb : ltV b a = false := by simpa using hb
      rcases List.mem_cons.mp hx with rfl | hx
      · exact hb
      · exact ntr _ _ _ hb (h1 x hx)
theorem sortT_srt : ∀ l : List Val, Srt (sortT l)
  | [] => List.Pairwise.nil
  | a :: l => insT_srt (sortT_srt l)
theorem srt_uniq : ∀ {l m : List Val}, Srt l → Srt m → l.Perm m → (∀ v ∈ l, pureV v = true) → l = m
  | [], m, _, _, p, _ => (List.Perm.eq_nil p.symm).symm
  | x :: l, [], _, _, p, _ => absurd p.length_eq (by simp)
  | x :: l, y :: m, hl, hm, p, hp => by
    obtain ⟨l1, l2⟩ := List.pairwise_cons.mp hl
    obtain ⟨m1, m2⟩ := List.pairwise_cons.mp hm
    have e : x = y := by
      rcases List.mem_cons.mp (p.mem_iff.mp List.mem_cons_self) with e | hx
      · exact e
      · rcases List.mem_cons.mp (p.mem_iff.mpr List.mem_cons_self) with e | hy
        · exact e.symm
        · exact trV_inj x y (hp x List.mem_cons_self) (hp y (List.mem_cons_of_mem _ hy)) (tot _ _ (m1 x hx) (l1 y hy))
    subst e
    rw [srt_uniq l2 m2 p.cons_inv fun v hv => hp v (List.mem_cons_of_mem _ hv)]
theorem sortT_uniq {l m : List Val} (h : Srt l) (p : l.Perm m) (hp : ∀ v ∈ m, pureV v = true) : l = sortT m :=
  srt_uniq h (sortT_srt m) (p.trans (sortT_perm m).symm) fun v hv => hp v (p.mem_iff.mp hv)
theorem perm_up {α β : Type} {f : β → α} : ∀ {out ys : List α}, out.Perm ys → ∀ l : List β, ys = l.map f → ∃ l' : List β, l'.Perm l ∧ l'.map f = out := by
  intro out ys p
  induction p with
  | nil => exact fun l e => ⟨l, .refl _, e.symm⟩
  | cons x _ ih =>
    intro l e
    cases l with
    | nil => cases e
    | cons b l =>
      obtain ⟨e1, e2⟩ := List.cons.inj e
      obtain ⟨l', p', h'⟩ := ih l e2
      exact ⟨b :: l', p'.cons b, by rw [List.map_cons, h', e1]⟩
  | swap x y l0 =>
    intro l e
    match l, e with
    | b :: c :: l, e =>
      obtain ⟨e1, e2⟩ := List.cons.inj e
      obtain ⟨e2, e3⟩ := List.cons.inj e2
      exact ⟨c :: b :: l, .swap b c l, by rw [List.map_cons, List.map_cons, ← e1, ← e2, ← e3]⟩
  | trans _ _ i1 i2 =>
    intro l e
    obtain ⟨l1, p1, h1⟩ := i2 l e
    obtain ⟨l2, p2, h2⟩ := i1 l1 h1.symm
    exact ⟨l2, p2.trans p1, h2⟩
def okSort (vs : List Val) : Bool := vs.all okV && vs.all (fun v => hd1 (dV v)) && vs.all (fun a => vs.all fun b => smV a b) && decide (vs.length < 1000000)
def rSortT (K : PySem.W.Frag) : List V → Hp → VK → Prop := fun us H Q => ∃ (a : Addr) (xs : List V) (bs : List Val), us = [.ref a] ∧ SqL K H a xs ∧ xs.length = bs.length ∧ okSort bs = true ∧ (∀ (i : Nat) (u : V) (b : Val), xs[i]? = some u → bs[i]? = some b → Dp K H u (dV b)) ∧
  ∀ (zs : List (V × Val)) p, zs.Perm (xs.zip bs) → Srt (zs.map (·.2)) → H p = none → Q (.ref p) (upd H p (.lst (zs.map (·.1))))
theorem okSort_all {vs : List Val} (h : okSort vs = true) : (∀ v ∈ vs, pureV v = true ∧ (dV v).canLay0 = true ∧ (dV v).depth ≤ 50 ∧ hd1 (dV v) = true) ∧ (∀ a ∈ vs, ∀ b ∈ vs, sm (dV a) (dV b) = true) ∧ vs.length < 1000000 := by
  simp only [okSort, Bool.and_eq_true, List.all_eq_true, decide_eq_true_eq] at h
  obtain ⟨⟨⟨h1, h2⟩, h3⟩, h4⟩ := h
  refine ⟨fun v hv => ?_, h3, h4⟩
  have := h1 v hv
  simp only [okV, Bool.and_eq_true, decide_eq_true_eq] at this
  exact ⟨this.1.1, this.1.2, this.2, h2 v hv⟩
section
variable {X : Cx}
open Classical in
theorem cr_sortT (hu : X.A.units + 64 < cLine) : CallR X (.builtin "sorted") (rSortT X.K) := by
  intro pins s σ H vs us Q I r h
  obtain ⟨a, xs, bs, rfl, hs, hlen, hok, hd, q⟩ := h
  obtain ⟨ok1, ok2, ok3⟩ := okSort_all hok
  obtain ⟨its, rv, hl, hz⟩ := I.list hs
  obtain ⟨u, rfl, ru⟩ := vals1 r
  obtain rfl : u = Value.ref a := ru
  have li : its.length = bs.length := by rw [← rv.length, hlen]
  have rd : ∀ i (v : Value) b, its[i]? = some v → bs[i]? = some b → ∃ as, Reads s.heap v (dV b) as := fun i v b hv hb => by
    have l : i < xs.length := by rw [hlen]; exact (List.getElem?_eq_some_iff.mp hb).1
    obtain ⟨v', h1, h2⟩ := rv.get (List.getElem?_eq_getElem l)
    rw [hv] at h1
    cases h1
    exact Dp.reads I _ _ _ (hd i _ b (List.getElem?_eq_getElem l) hb) h2
  let f : Value → Tr := fun v => if g : ∃ d : PyData, d.canLay0 = true ∧ ∃ as, Reads s.heap v d as then toT g.choose else .i 0
  have fE : ∀ i (v : Value) b, its[i]? = some v → bs[i]? = some b → f v = trV b := fun i v b hv hb => by
    obtain ⟨as, hr⟩ := rd i v b hv hb
    have g : ∃ d : PyData, d.canLay0 = true ∧ ∃ as, Reads s.heap v d as := ⟨dV b, (ok1 b (List.mem_of_getElem? hb)).2.1, as, hr⟩
    show (if g : ∃ d : PyData, d.canLay0 = true ∧ ∃ as, Reads s.heap v d as then toT g.choose else .i 0) = _
    rw [dif_pos g]
    obtain ⟨c1, as2, c2⟩ := g.choose_spec
    rw [(Reads.unique c2 _ _ hr).1]
    rfl
  have fM : ∀ v ∈ its, ∃ i b, its[i]? = some v ∧ bs[i]? = some b ∧ b ∈ bs := fun v hv => by
    obtain ⟨i, hi⟩ := List.getElem?_of_mem hv
    have l : i < bs.length := by rw [← li]; exact (List.getElem?_eq_some_iff.mp hi).1
    exact ⟨i, bs[i], hi, List.getElem?_eq_getElem l, List.getElem_mem l⟩
  have O : SrtO.Swo (fun v w => lt (f v) (f w)) := ⟨fun x y h => asy _ _ h, fun x y z h1 h2 => ntr _ _ _ h1 h2⟩
  refine SrtO.sorted_ord O hl.isList (by rw [li]; exact Nat.le_of_lt (small ok3)) (fun h2 h₁ a' ha' kk => fun h' keep => ?_) fun out hs hb => ?_
  · have up : ∀ b o, s.heap.get? b = some o → h'.get? b = some o := fun b o e => keep b o (kk b o e).1 (kk b o e).2
    refine ⟨tuples' true, fun Q E hq => ?_, fun p q hp hq => ?_⟩
    · obtain ⟨i0, b0, _, _, hb0⟩ := fM its[0] (List.getElem_mem (by omega))
      refine kind_run (s := { s with heap := h' }) (by omega) (dV b0) (ok1 b0 hb0).2.2.2 (fun v hv => ?_) hq
      obtain ⟨i, b, e1, e2, mb⟩ := fM v hv
      obtain ⟨as, hr⟩ := rd i v b e1 e2
      exact ⟨dV b, as, Reads.keeps up hr, ok2 b0 hb0 b mb, (ok1 b mb).2.2.2⟩
    · obtain ⟨i, b, e1, e2, mb⟩ := fM p.1 hp
      obtain ⟨j, c, e3, e4, mc⟩ := fM q.1 hq
      obtain ⟨as, r1⟩ := rd i _ b e1 e2
      obtain ⟨as2, r2⟩ := rd j _ c e3 e4
      refine key_run (s := { s with heap := h' }) (A := X.A.in1.in1) (by show X.A.units + 1 + 1 + 60 < cLine; omega) (Reads.keeps up r1) (Reads.keeps up r2) (ok2 b mb c mc) (ok1 b mb).2.1 (ok1 c mc).2.1 (ok1 b mb).2.2.1 (ok1 b mb).2.2.2 ⟨rfl, ?_⟩
      show _ = lt (f p.1) (f q.1)
      rw [fE i _ b e1 e2, fE j _ c e3 e4]
      rfl
  · let L : List (Value × (V × Val)) := its.zip (xs.zip bs)
    have zl : (xs.zip bs).length = its.length := by rw [List.length_zip, hlen, li, Nat.min_self]
    have e1 : its = L.map (·.1) := (List.map_fst_zip (by omega)).symm
    have e2 : xs.zip bs = L.map (·.2) := (List.map_snd_zip (by omega)).symm
    obtain ⟨L', pL, eL⟩ := perm_up hb.perm L e1
    have inL : ∀ t ∈ L', ∃ i, its[i]? = some t.1 ∧ xs[i]? = some t.2.1 ∧ bs[i]? = some t.2.2 := fun t ht => by
      obtain ⟨i, hi⟩ := List.getElem?_of_mem (pL.mem_iff.mp ht)
      obtain ⟨g1, g2⟩ := List.getElem?_zip_eq_some.mp hi
      obtain ⟨g3, g4⟩ := List.getElem?_zip_eq_some.mp g2
      exact ⟨i, g1, g3, g4⟩
    have vals : ∀ l : List (Value × (V × Val)), (∀ t ∈ l, t ∈ L') → Vals ((l.map (·.2)).map (·.1)) (l.map (·.1)) := fun l => by
      induction l with
      | nil => exact fun _ => .nil
      | cons t l ih =>
        intro hl
        refine .cons ?_ (ih fun x hx => hl x (List.mem_cons_of_mem _ hx))
        obtain ⟨i, g1, g2, _⟩ := inL t (hl t List.mem_cons_self)
        obtain ⟨v, g3, g4⟩ := rv.get g2
        rw [g1] at g3
        cases g3
        exact g4
    have pz : (L'.map (·.2)).Perm (xs.zip bs) := by rw [e2]; exact pL.map _
    have sr : Srt ((L'.map (·.2)).map (·.2)) := by
      rw [List.map_map]
      refine List.pairwise_map.mpr ?_
      rw [← eL] at hs
      have hs2 := List.pairwise_map.mp hs
      refine hs2.imp_of_mem fun {t t'} ht ht' hh => ?_
      obtain ⟨i, g1, _, g3⟩ := inL t ht
      obtain ⟨j, k1, _, k3⟩ := inL t' ht'
      have this : lt (f t'.1) (f t.1) = false := hh
      rw [fE i _ _ g1 g3, fE j _ _ k1 k3] at this
      exact this
    refine ⟨.ref _, upd H _ (.lst ((L'.map (·.2)).map (·.1))), I.laid (t' := s.toks) (fun b o e => sortedAll_old e) (Nat.le_succ _) ?_, rfl, q _ _ pz sr (I.hok.fresh (Nat.le_succ _))⟩
    obtain ⟨n, hn⟩ := sortedAll_at s.heap its out.toArray
    refine ⟨?_, out, n, ?_, hn⟩
    · rw [List.length_map, pz.length_eq, zl, li]
      exact Nat.le_of_lt (small ok3)
    · have := vals L' fun _ h => h
      rw [eL] at this
      exact this
end
section
variable {K : PySem.W.Frag}
def gSortT : List Val → Sto → Option (Val × Sto) := fun xs S => match xs with
  | [.ref n] => match S[n]? with
    | some (.lst vs) => if okSort vs = true then some (.ref S.length, S ++ [.lst (sortT vs)]) else none
    | _ => none
  | _ => none
theorem vrs_of_zip {H : Hp} {m : List Addr} {xs : List V} {vs : List Val} (r : VRs K H m xs vs) {zs : List (V × Val)} (p : zs.Perm (xs.zip vs)) : VRs K H m (zs.map (·.1)) (zs.map (·.2)) := by
  have all : ∀ t ∈ xs.zip vs, VR K H m t.1 t.2 := fun t ht => by
    obtain ⟨i, hi⟩ := List.getElem?_of_mem ht
    obtain ⟨g1, g2⟩ := List.getElem?_zip_eq_some.mp hi
    obtain ⟨u, g3, g4⟩ := r.get g2
    rw [g1] at g3
    cases g3
    exact g4
  have go : ∀ l : List (V × Val), (∀ t ∈ l, t ∈ zs) → VRs K H m (l.map (·.1)) (l.map (·.2)) := fun l => by
    induction l with
    | nil => exact fun _ => .nil
    | cons t l ih => exact fun hl => .cons (all t (p.mem_iff.mp (hl t List.mem_cons_self))) (ih fun x hx => hl x (List.mem_cons_of_mem _ hx))
  exact go zs fun _ h => h
theorem cSortT : CaA K (rSortT K) gSortT := by
  intro m S H xs v S' us Q R ru e q
  unfold gSortT at e
  split at e
  · next n =>
    obtain ⟨u, rfl, r1⟩ := ru.one_of
    cases r1 with
    | ref hm =>
      split at e
      · next vs en =>
        split at e
        · next hok =>
          cases e
          obtain ⟨xs, hx, rx⟩ := R.ob _ _ _ en hm
          obtain ⟨ok1, _, _⟩ := okSort_all hok
          refine ⟨_, xs, vs, rfl, SqL.of hx, rx.len, hok, fun i u b h1 h2 => ?_, fun zs p pz sr hp => ?_⟩
          · obtain ⟨u', h3, h4⟩ := rx.get h2
            rw [h1] at h3
            cases h3
            exact dV_dp _ _ h4 (ok1 b (List.mem_of_getElem? h2)).1
          · have e2 : zs.map (·.2) = sortT vs := by
              refine sortT_uniq sr ?_ fun v hv => (ok1 v hv).1
              have := pz.map (·.2)
              rwa [List.map_snd_zip (by rw [rx.len]; exact Nat.le_refl _)] at this
            have rz := vrs_of_zip rx pz
            rw [e2] at rz
            exact newList R rz q p hp
        · cases e
      · cases e
  · cases e

def gSortedG : List Val → Sto → Option (Val × Sto) := fun xs S => (gSorted xs S).or (gSortT xs S)
def rSortedG (K : PySem.W.Frag) : List V → Hp → VK → Prop := fun x H Q => rSortedA K x H Q ∨ rSortT K x H Q
theorem call_sortedG {X : Cx} (hc : X.calm = true) (hu : X.A.units + 64 < cLine) : CallR X (.builtin "sorted") (rSortedG X.K) := CallR.or (call_sortedA hc) (cr_sortT hu)
theorem cSortedG : CaA K (rSortedG K) gSortedG := cSorted.or cSortT
end
section
variable {X : Cx} {K : PySem.W.Frag}
def minT : Val → List Val → Val
  | a, [] => a
  | a, b :: l => minT (if ltV b a = true then b else a) l
theorem minT_mem : ∀ (a : Val) (l : List Val), minT a l ∈ a :: l
  | a, [] => List.mem_cons_self
  | a, b :: l => by
    unfold minT
    rcases List.mem_cons.mp (minT_mem (if ltV b a = true then b else a) l) with e | h
    · rw [e]
      split <;> simp
    · exact List.mem_cons_of_mem _ (List.mem_cons_of_mem _ h)
theorem minT_le : ∀ (a : Val) (l : List Val), ∀ c ∈ a :: l, ltV c (minT a l) = false
  | a, [], c, h => by
    rw [List.mem_singleton.mp h]
    exact Od.irr _
  | a, b :: l, c, h => by
    unfold minT
    have ih := minT_le (if ltV b a = true then b else a) l
    have h0 := ih _ List.mem_cons_self
    rcases List.mem_cons.mp h with rfl | h
    · refine ntr _ _ _ h0 ?_
      split
      · next hb => exact asy _ _ hb
      · exact Od.irr _
    · rcases List.mem_cons.mp h with rfl | h
      · refine ntr _ _ _ h0 ?_
        split
        · exact Od.irr _
        · next hb => exact (Bool.not_eq_true _).mp hb
      · exact ih c (List.mem_cons_of_mem _ h)
end
end AL
namespace AL
open PySem PySem.Spec PyProof.Rows L2 G Th
variable [TT]

structure FunW (K : PySem.W.Frag) (x qual : Str) (st : Stmt) (f : Addr) (fd : FuncData) : Prop where
  ex : ∃ (oc : Value) (od : Option Addr) (dV kV doc pm : Value) (an : Option Addr) (cdv ct : Value) (osl : Array (Option Value)),
    fd = PySem.W.fnOf x qual (defArgs st) (defBody st) (defScope st) dV kV doc pm an cdv ct ∧ K.lookup f = some ⟨oc, od, .func fd, osl⟩ ∧ PySem.W.codeIn K cdv qual = true
omit [TT] in
theorem FunW.of {K : PySem.W.Frag} {x qual : Str} {st : Stmt} {f : Addr} {fd : FuncData} {dvs : List V} {kws : List (Str × V)} (F : FunD K x qual (defArgs st) (defBody st) (defScope st) dvs kws f fd) : FunW K x qual st f fd := by
  obtain ⟨oc, od, dV, kV, doc, pm, an, cdv, ct, osl, e, lk, hcd, _, _⟩ := F.ex
  exact ⟨oc, od, dV, kV, doc, pm, an, cdv, ct, osl, e, lk, hcd⟩
end AL
namespace K57
open PySem PySem.Spec PyProof.Rows L2 G Th AL
noncomputable def feedL_B : SF := (sRet (eDsp (aCons (eC (.str "cells")) (aCons (eCall gList (aCons (eSl gSl (eV 0) oN (oS (eC (.int 63)))) aNil)) (aCons (eC (.str "at")) (aCons (eC (.int 0)) (aCons (eC (.str "left")) (aCons (eC (.int 0)) (aCons (eC (.str "turn")) (aCons (eC (.int 0)) aNil))))))))))
noncomputable def feedL_ : FA := runF 1 feedL_B
noncomputable def drawL_B : SF := (sSeq (sAsg (.nm 2) (eB gAdd (eB gIxA (eV 0) (eC (.str "turn"))) (eC (.int 1))))
    (sSeq (sSub gSetA (eV 0) (eC (.str "turn")) (eV 2))
    (sSeq (sIf (eT (eB gGt (eB gIxA (eV 0) (eC (.str "left"))) (eC (.int 0)))) (sSeq (sAsg (.nm 6) (eB gMod (eB gIxA (eV 0) (eC (.str "left"))) (eV 1)))
    (sSeq (sSub gSetA (eV 0) (eC (.str "left")) (eB gDiv (eB gIxA (eV 0) (eC (.str "left"))) (eV 1)))
    (sRet (eV 6)))) sNil)
    (sSeq (sAsg (.nm 3) (eB gIxA (eV 0) (eC (.str "at"))))
    (sSeq (sSub gSetA (eV 0) (eC (.str "at")) (eB gAdd (eV 3) (eC (.int 1))))
    (sSeq (sAsg (.nm 4) (eC (.int 0)))
    (sSeq (sIf (eT (eB gNe (eB gIxA (eV 0) (eC (.str "cells"))) (eLst aNil))) (sAsg (.nm 4) (eB gIxA (eB gIxA (eV 0) (eC (.str "cells"))) (eB gMod (eV 3) (eCall gLen (aCons (eB gIxA (eV 0) (eC (.str "cells"))) aNil))))) sNil)
    (sSeq (sIf (bAnd (eT (eB gGe (eV 4) (eB gPow (eC (.int 10)) (eC (.int 18))))) (eT (eB gLt (eV 3) (eCall gLen (aCons (eB gIxA (eV 0) (eC (.str "cells"))) aNil))))) (sSeq (sSub gSetA (eV 0) (eC (.str "left")) (eB gDiv (eV 4) (eV 1)))
    (sRet (eB gMod (eV 4) (eV 1)))) sNil)
    (sSeq (sAsg (.nm 5) (eB gMod (eB gPow (eB gAdd (eB gAdd (eB gMod (eV 4) (eC (.int 2147483629))) (eB gMul (eC (.int 7919)) (eV 2))) (eC (.int 1))) (eC (.int 5))) (eC (.int 2147483647))))
    (sSeq (sAsg (.nm 5) (eB gMod (eB gPow (eB gAdd (eV 5) (eB gMul (eC (.int 104729)) (eV 2))) (eC (.int 5))) (eC (.int 2147483587))))
    (sRet (eB gMod (eB gDiv (eV 5) (eC (.int 64))) (eV 1)))))))))))))
noncomputable def drawL_ : FA := runF 7 drawL_B
noncomputable def endsL_B : SF := (sSeq (sAsg (.nm 2) (eB gAdd (eLc (.tp [(.nm 3), (.nm 4)]) (iSeq (eV 0)) (eT (eB gEq (eV 4) (eV 1))) (eV 3) [3, 4]) (eLc (.tp [(.nm 3), (.nm 4)]) (iSeq (eV 0)) (eT (eB gEq (eV 3) (eV 1))) (eV 4) [3, 4])))
    (sRet (eCall gSortedG (aCons (eV 2) aNil))))
noncomputable def endsL_ : FA := runF 5 endsL_B
end K57
namespace AL
open PySem PySem.Spec PyProof.Rows L2 G Th
variable [TT]
section
variable {X : Cx} {K : PySem.W.Frag}

end
section
variable {X : Cx} {K : PySem.W.Frag}
end
section
variable {S : Sto} {N : Sto → Prop} {Q : Val → Sto → Prop}
end
end AL
namespace K60
open PySem PySem.Spec PyProof.Rows L2 G Th AL
open K57 (feedL_ feedL_B drawL_ drawL_B endsL_ endsL_B)
noncomputable def farL_B : SF := (sSeq (sPar [3, 4, 5] (aCons (eDsp (aCons (eV 2) (aCons (eC (.int 0)) aNil))) (aCons (eLst (aCons (eV 2) aNil)) (aCons (eC (.int 0)) aNil))))
    (sSeq (sWhile (eT (eB gNe (eV 4) (eLst aNil))) (sSeq (sPar [5, 7] (aCons (eB gAdd (eV 5) (eC (.int 1))) (aCons (eLst aNil) aNil)))
    (sSeq (sFor (.nm 6) (iSeq (eV 4)) (sFor (.nm 8) (iSeq (eDef endsL_ 2 (aCons (eV 1) (aCons (eV 6) aNil)))) (sIf (bAnd (eT (eB (gIn false) (eV 8) (eV 0))) (eT (eB (gIn true) (eV 8) (eV 3)))) (sSeq (sSub gSetA (eV 3) (eV 8) (eV 5))
    (sExpr (eMt isL gApp (eV 7) (aCons (eV 8) aNil)))) sNil)))
    (sAsg (.nm 4) (eV 7)))))
    (sRet (eV 3))))
noncomputable def farL_ : FA := runF 9 farL_B
end K60
namespace AL
open PySem PySem.Spec PyProof.Rows L2 G Th
variable [TT]
def xv (c : Str) (vs : List Val) : Val := .tup (.scr [] :: .str c :: vs)
def isX : Val → Option (Str × List Val)
  | .tup (.scr _ :: .str c :: vs) => some (c, vs)
  | _ => none
structure XR (K : PySem.W.Frag) (mg : Str → Option Value) (H : Hp) (m : List Addr) (c : Str) (vs : List Val) (cls : Value) (d : Option Addr) : Prop where
  cl : mg c = some cls
  fl : ∃ (dd : Addr) (fs : List (Str × V)), d = some dd ∧ H dd = some (.xd fs) ∧ ∀ (i : Nat) (n : Str) (v : Val), (xfs c)[i]? = some n → vs[i]? = some v → ∃ u, fs.lookup n = some u ∧ VR K H m u v
def PX (K : PySem.W.Frag) (mg : Str → Option Value) (m : List Addr) (H : Hp) (Q : VK) (Ek : XK) (v : Val) (S : Sto) : Prop := match isX v with
  | some (c, vs) => ∀ m' H' cls d, Ext m H m' H' → Rel K m' S H' → XR K mg H' m' c vs cls d → Ek cls d H'
  | none => ∀ m' u H', Ext m H m' H' → Rel K m' S H' → VR K H' m' u v → Q u H'
def PostX (K : PySem.W.Frag) (mg : Str → Option Value) (m : List Addr) (H : Hp) (D : Ends) (Ek : XK) : Res → Prop
  | .stuck => False
  | .nx ρ S => ∀ m' σ' H', Ext m H m' H' → Rel K m' S H' → RhoR K H' m' ρ σ' → D.nx σ' H'
  | .rt v S => PX K mg m H D.rt Ek v S
  | .bk ρ S => ∀ m' σ' H', Ext m H m' H' → Rel K m' S H' → RhoR K H' m' ρ σ' → D.bk σ' H'
  | .ct ρ S => ∀ m' σ' H', Ext m H m' H' → Rel K m' S H' → RhoR K H' m' ρ σ' → D.ct σ' H'
section
variable {K : PySem.W.Frag} {mg : Str → Option Value} {m m1 : List Addr} {H H1 : Hp} {Q Q' : VK} {Ek : XK} {v : Val} {S : Sto} {D : Ends}
theorem PX.ext (h : PX K mg m H Q Ek v S) (E : Ext m H m1 H1) : PX K mg m1 H1 Q Ek v S := by
  unfold PX at h ⊢
  split
  · next c vs e =>
    rw [e] at h
    exact fun m' H' cls d E' R x => h m' H' cls d (E.trans E') R x
  · next e =>
    rw [e] at h
    exact fun m' u H' E' R x => h m' u H' (E.trans E') R x
theorem PX.no (hx : isX v = none) : PX K mg m H Q Ek v S ↔ ∀ m' u H', Ext m H m' H' → Rel K m' S H' → VR K H' m' u v → Q u H' := by
  unfold PX
  rw [hx]
theorem PX.yes {c : Str} {vs : List Val} (hx : isX v = some (c, vs)) : PX K mg m H Q Ek v S ↔ ∀ m' H' cls d, Ext m H m' H' → Rel K m' S H' → XR K mg H' m' c vs cls d → Ek cls d H' := by
  unfold PX
  rw [hx]
theorem PostX.ext {r : Res} (h : PostX K mg m H D Ek r) (E : Ext m H m1 H1) : PostX K mg m1 H1 D Ek r := by
  cases r with
  | stuck => exact h
  | nx ρ S => exact fun m' σ' H' E' => h m' σ' H' (E.trans E')
  | rt ρ S => exact PX.ext h E
  | bk ρ S => exact fun m' σ' H' E' => h m' σ' H' (E.trans E')
  | ct ρ S => exact fun m' σ' H' E' => h m' σ' H' (E.trans E')
end
def tX (K : PySem.W.Frag) (mg : Str → Option Value) (Ek : XK) (g : SF) : TS := fun D σ H => ∃ m ρ S, Rel K m S H ∧ RhoR K H m ρ σ ∧ PostX K mg m H D Ek (g ρ S)

def tXs (K : PySem.W.Frag) (mg : Str → Option Value) (W : WX) (g : SF) : TS := fun D σ H => ∃ m ρ S, Rel K m S H ∧ RhoR K H m ρ σ ∧ PostX K mg m H D (WE W σ) (g ρ S)
abbrev AX (X : Cx) (Ek : XK) (st : Stmt) (g : SF) : Prop := PS X st (tX X.K X.mg Ek g)
abbrev AXs (X : Cx) (Ek : XK) (sts : List Stmt) (g : SF) : Prop := PSs X sts (tX X.K X.mg Ek g)
abbrev AXw (X : Cx) (W : WX) (st : Stmt) (g : SF) : Prop := PS X st (tXs X.K X.mg W g)

abbrev EW (Ek : XK) : WX := fun cls d _ H => Ek cls d H
section
variable {X : Cx} {Ek : XK} {W : WX} {st : Stmt} {sts rest : List Stmt} {e a b c o i : Expr} {es : List Expr} {pos : Pos} {f fa fb fc : EF} {g g1 g2 : SF} {tb : BF} {K : PySem.W.Frag} {ga : AF}
theorem xl (h : AS X st g) (hg : ∀ ρ S v S', g ρ S = .rt v S' → isX v = none) : AX X Ek st g := ps_w h fun D σ H z => by
  obtain ⟨m, ρ, S, R, r, p⟩ := z
  refine ⟨m, ρ, S, R, r, ?_⟩
  cases e : g ρ S with
  | nx ρ1 S1 => rw [e] at p; exact p
  | stuck => rw [e] at p; exact p
  | rt v S1 => rw [e] at p; exact (PX.no (hg _ _ _ _ e)).mp p
  | bk v S1 => rw [e] at p; exact p
  | ct v S1 => rw [e] at p; exact p
theorem xsn : AXs X Ek [] sNil := pss_w pss_nil fun D σ H h => by
  obtain ⟨m, ρ, S, R, r, p⟩ := h
  exact p m σ H (.refl _ _) R r
theorem xsq (h1 : AX X Ek st g1) (h2 : AXs X Ek rest g2) : AXs X Ek (st :: rest) (sSeq g1 g2) := pss_w (pss_cons h1 h2) fun D σ H h => by
  obtain ⟨m, ρ, S, R, r, p⟩ := h
  refine ⟨m, ρ, S, R, r, ?_⟩
  unfold sSeq at p
  cases e : g1 ρ S with
  | nx ρ1 S1 =>
    rw [e] at p
    intro m1 σ1 H1 E1 R1 r1
    exact ⟨m1, ρ1, S1, R1, r1, p.ext E1⟩
  | stuck => rw [e] at p; exact p
  | rt v S1 => rw [e] at p; exact p
  | bk v S1 => rw [e] at p; exact p
  | ct v S1 => rw [e] at p; exact p
theorem xs1 (h : AX X Ek st g) : AXs X Ek [st] g := pss_one h
theorem xsi (hc : AT X c tb) (h1 : AXs X Ek sts g1) (h2 : AXs X Ek rest g2) : AX X Ek (.If c sts rest pos) (sIf tb g1 g2) := ps_w (ps_if hc h1 h2) fun D σ H h => by
  obtain ⟨m, ρ, S, R, r, p⟩ := h
  unfold sIf at p
  split at p
  · next S1 e1 => exact ⟨m, ρ, S, true, S1, R, r, e1, fun m1 H1 E1 R1 => ⟨m1, ρ, S1, R1, r.kp (E1.kp R), p.ext E1⟩⟩
  · next S1 e1 => exact ⟨m, ρ, S, false, S1, R, r, e1, fun m1 H1 E1 R1 => ⟨m1, ρ, S1, R1, r.kp (E1.kp R), p.ext E1⟩⟩
  · exact p.elim
theorem xsf {p : Pat} {tg it : Expr} {fi : IF} (hp : PassesOwn (model X.prog X.w) X.A X.env X.xe) (hc : X.calm = true) (hi : AI X tg it fi) (hg : PG X tg (tG X.K p)) (hb : AXs X Ek sts g)
    (hs : ∀ x, foldedSetIterable it X.env x = pure x := by intro _; rfl) : AX X Ek (.For tg it sts [] pos) (sFor p fi g) := ps_w (ps_for hp hc hi hg hb hs) fun D σ H h => by
  obtain ⟨m, ρ, S, R, r, q⟩ := h
  unfold sFor at q
  split at q
  · next vs ok S1 e1 =>
    refine ⟨m, ρ, S, vs, ok, S1, R, r, e1, fun m0 H0 J E0 R0 it0 => ?_⟩
    refine ⟨fun i k σ H => k + i = vs.length ∧ ∃ m ρ S, Ext m0 H0 m H ∧ Rel X.K m S H ∧ RhoR X.K H m ρ σ ∧ PostX X.K X.mg m H D Ek (forR p g ok (vs.drop i) ρ S), ⟨vs.length, by omega, m0, ρ, S1, .refl _ _, R0, r.kp (E0.kp R), q.ext E0⟩, ?_⟩
    rintro i k σ H ⟨hk, m, ρ, S, E, R, r, q⟩
    by_cases hlt : i < vs.length
    · rw [List.drop_eq_getElem_cons hlt] at q
      unfold forR at q
      split at q
      · next hok =>
        split at q
        · exact q.elim
        · next ρ1 e2 =>
          obtain ⟨go, yl⟩ := it0.step i m S H E R hok vs[i] (List.getElem?_eq_getElem hlt)
          refine .inr ⟨go, fun σ H => ∃ m ρ S, Ext m0 H0 m H ∧ Rel X.K m S H ∧ RhoR X.K H m ρ σ ∧ PostX X.K X.mg m H D Ek (forR p g ok (vs.drop (i + 1)) ρ S), fun σ' H' h => ⟨k - 1, by omega, by omega, h⟩, fun x H' hy => ?_⟩
          obtain ⟨R', E', rx⟩ := yl x H' hy
          refine ⟨m, S, ρ, _, ρ1, R', r.kp (E'.kp R), rx, e2, fun σ1 r1 _ => ⟨m, ρ1, S, R', r1, ?_⟩⟩
          have EE := E.trans E'
          split at q
          · next ρ2 S2 e3 =>
            rw [e3]
            exact fun m2 σ2 H2 E2 R2 r2 => ⟨m2, ρ2, S2, EE.trans E2, R2, r2, q.ext (E'.trans E2)⟩
          · next ρ2 S2 e3 =>
            rw [e3]
            exact fun m2 σ2 H2 E2 R2 r2 => ⟨m2, ρ2, S2, EE.trans E2, R2, r2, q.ext (E'.trans E2)⟩
          · next ρ2 S2 e3 =>
            rw [e3]
            exact fun m2 σ2 H2 E2 R2 r2 => q m2 σ2 H2 (E'.trans E2) R2 r2
          · next v2 S2 e3 =>
            rw [e3]
            exact PX.ext q E'
          · exact q.elim
      · exact q.elim
    · have e : i = vs.length := by omega
      subst e
      rw [List.drop_length] at q
      unfold forR at q
      split at q
      · next hok => exact .inl ⟨it0.stop m S H E R hok, q m σ H (.refl _ _) R r⟩
      · exact q.elim
  · exact q.elim
def sRetN (f : EF) : SF := fun ρ S => match f ρ S with
  | some (v, S) => match isX v with
    | none => .rt v S
    | some _ => .stuck
  | none => .stuck
theorem xsr (he : AE X e f) : AX X Ek (.Return (some e) pos) (sRetN f) := ps_w (ps_ret he) fun D σ H h => by
  obtain ⟨m, ρ, S, R, r, p⟩ := h
  unfold sRetN at p
  split at p
  · next v S1 e1 =>
    split at p
    · next hx => exact ⟨m, ρ, S, v, S1, R, r, e1, (PX.no hx).mp p⟩
    · exact p.elim
  · exact p.elim
def tFx (K : PySem.W.Frag) (mg : Str → Option Value) (W : WX) (f : EF) : TE := fun σ H Q => ∃ m ρ S v S', Rel K m S H ∧ RhoR K H m ρ σ ∧ f ρ S = some (v, S') ∧ PX K mg m H Q (WE W σ) v S'
abbrev AEX (X : Cx) (W : WX) (e : Expr) (f : EF) : Prop := PE X e (tFx X.K X.mg W f)
def sAsgX (q : Pat) (f : EF) : SF := fun ρ S => match f ρ S with
  | some (v, S) => match isX v with
    | none => match q.bind v ρ with
      | some ρ => .nx ρ S
      | none => .stuck
    | some _ => .rt v S
  | none => .stuck
theorem xss {i : Nat} {x : Str} {pos' : Pos} (hN : X.N.Nodup) (hi : X.N[i]? = some x) (hx : Loc X.env.scope x) (he : AEX X W e f) (hs : swapsWith e (some (.Name x pos')) pos.line X.env = pure false := by rfl) (hf : X.fn x = true ∨ X.env.scope.names.lookup x = some .local := by first | exact .inl rfl | exact .inr rfl | assumption) :
    AXw X W (.Assign [.Name x pos'] e pos) (sAsgX (.nm i) f) := ps_w (ps_set hN hi hx he hs hf) fun D σ H h => by
  obtain ⟨m, ρ, S, R, r, p⟩ := h
  unfold sAsgX at p
  split at p
  · next v S1 e1 =>
    refine ⟨m, ρ, S, v, S1, R, r, e1, ?_⟩
    split at p
    · next hx =>
      simp only [Pat.bind] at p
      exact (PX.no hx).mpr fun m1 u H1 E1 R1 r1 => p m1 _ H1 E1 R1 ((r.kp (E1.kp R)).set r1 i)
    · next hx => exact (PX.yes hx).mpr ((PX.yes hx).mp p)
  · exact p.elim
end
structure FnX (P : Program) (w : World) (K : PySem.W.Frag) (mg : Str → Option Value) (base : Heap) (k : Nat) (f : Addr) (fd : FuncData) (ps : List Str) (sp : Sp) : Prop where
  len : ∀ vs H Q E, sp vs H Q E → vs.length = ps.length
  run : ∀ (A : Around) (outer : List Env) (s : Shared) (H : Hp) (args : Args) (us : List Value) (vs : List V) (Q : VK) (E : XK),
    A.guards = some [] → Room k A → Env0 P w K mg base A outer s H → BindsTo s fd args (ps.zip us) → Vals vs us → sp vs H Q E →
      codeAny (model P w) A (.call (.ref f) args) (CR (CX P w) outer P w H s Q E) s

theorem fn_x {P : Program} {w : World} {K : PySem.W.Frag} {mg : Str → Option Value} {base : Heap} {x qual : Str} {st : Stmt} {f : Addr} {fd : FuncData} {N ps : List Str} {k : Nat} {sp : Sp}
    (F : Fun K x qual st f fd) (S : FnScope N ps (defScope st)) (len : ∀ vs H Q E, sp vs H Q E → vs.length = ps.length)
    (body : ∀ (cdv : Value) (A : Around) (outer : List Env) (s : Shared) (H : Hp) (vs : List V) (Q : VK) (E : XK), A.guards = some [] →
      Room k (A.deeper (envOfC qual (defScope st) s.heap.objs.size f cdv)) → sp vs H Q E →
      ∃ t, PSs (cxOf (CX P w) P w K mg base N qual (defScope st) f cdv A outer s H E)  (defBody st) t ∧ t { nx := fun _ H' => Q .non H', rt := Q } (start N vs) H) :
    FnX P w K mg base (k + 1) f fd ps sp := by
  obtain ⟨oc, od, kV, doc, pm, an, cdv, ct, osl, rfl, lk, hcd⟩ := F.ex
  refine ⟨len, ?_⟩
  intro A outer s H args us vs Q E g hr e0 hb r hsp
  have up : ∀ b o, base.get? b = some o → s.heap.get? b = some o := fun b o e => (e0.bs b o e).1
  have KX : K.In s.heap := e0.mod.kin.keeps up
  refine codeAny_call_function hr.depth (KX _ _ lk) rfl S.co S.gen rfl (PySem.W.codeRec_of KX hcd) (hb _ _ _ _ ?_)
  refine wpAny_newFunctionEnv_cells S.kind ?_ ?_
  · rintro ⟨n, v⟩ hy
    cases S.par n (List.of_mem_zip hy).1 with
    | inl q => exact .inl q
    | inr q => exact .inr ⟨q, PySem.W.cellsFrom_some _ _ _ (.inl q)⟩
  · rintro env rfl s1 x
    refine ⟨(e0.mod.nolimit.keeps up).keeps x.toInCall.keep, codeAny_func ?_⟩
    obtain ⟨t, ht, hq⟩ := body cdv A outer s H vs Q E g (hr.deeper _) hsp
    have I := inv_start (CX := (CX P w)) (E := E) S hr.hd e0 (len _ _ _ _ hsp) r x
    refine wpAny_mono (ht.run [] s1 (start N vs) H _ I hq) ?_ (fun e s' hs => hs)
    intro fl s' hs
    match fl, hs with
    | .ret u, ⟨v, σ', H', J, rv, q⟩ => exact ⟨v, H', J.os, J.bare, J.base, J.hok, rv, q⟩
    | .next, ⟨σ', H', J, q⟩ => exact ⟨.non, H', J.os, J.bare, J.base, J.hok, rfl, q⟩
    | .brk, ⟨_, _, _, q⟩ => exact False.elim q
    | .cont, ⟨_, _, _, q⟩ => exact False.elim q
def spX (K : PySem.W.Frag) (mg : Str → Option Value) (n : Nat) (F : FA) : Sp := fun us H Q Ek => us.length = n ∧ ∃ m S vs v S', Rel K m S H ∧ VRs K H m us vs ∧ F vs S = some (v, S') ∧ PX K mg m H Q Ek v S'
theorem fn_aX {P : Program} {w : World} {K : PySem.W.Frag} {mg : Str → Option Value} {base : Heap} {x qual : Str} {st : Stmt} {f : Addr} {fd : FuncData} {N ps : List Str} {k : Nat} {g : SF}
    (F : Fun K x qual st f fd) (S : FnScope N ps (defScope st))
    (body : ∀ (cdv : Value) (A : Around) (outer : List Env) (s : Shared) (H : Hp) (Ek : XK), A.guards = some [] →
      Room k (A.deeper (envOfC qual (defScope st) s.heap.objs.size f cdv)) → Takes (cxOf (CX P w) P w K mg base N qual (defScope st) f cdv A outer s H Ek) (EW Ek) →
      PassesOwn (model P w) (cxOf (CX P w) P w K mg base N qual (defScope st) f cdv A outer s H Ek).A (cxOf (CX P w) P w K mg base N qual (defScope st) f cdv A outer s H Ek).env (cxOf (CX P w) P w K mg base N qual (defScope st) f cdv A outer s H Ek).xe →
      AXs (cxOf (CX P w) P w K mg base N qual (defScope st) f cdv A outer s H Ek) Ek (defBody st) g) {n : Nat} (hn : N.length = n := by rfl) :
    FnX P w K mg base (k + 1) f fd ps (spX K mg ps.length (runF n g)) := by
  subst hn
  refine fn_x F S (fun vs H Q E h => h.1) (fun cdv A outer s H us Q E hg hr h => ⟨_, body cdv A outer s H E hg hr (takes_of rfl rfl rfl rfl) (passes_of rfl), ?_⟩)
  obtain ⟨hl, m, S0, vs, v, S', R, r, e, q⟩ := h
  refine ⟨m, _, S0, R, rho_start N r, ?_⟩
  unfold runF at e
  split at e
  · next v' S1 e1 =>
    cases e
    rw [e1]
    exact q
  · next v' S1 e1 =>
    cases e
    rw [e1]
    exact fun m' σ' H' E' R' r' => (PX.no rfl).mp q m' .non H' E' R' .non
  · cases e
structure DefX (P : Program) (w : World) (K : PySem.W.Frag) (mg : Str → Option Value) (base : Heap) (k : Nat) (x : Str) (ps : List Str) (F : FA) : Prop where
  ex : ∃ f fd, FnX P w K mg base k f fd ps (spX K mg ps.length F) ∧ Binds K fd ps [] ∧ mg x = some (.ref f) ∧ PySem.W.keepIn K (.ref f) = true
section
variable {X : Cx} {W : WX} {k : Nat} {f : Addr} {fd : FuncData} {ps : List Str} {sp : Sp} {x : Str} {p pos : Pos} {e : Expr} {es : List Expr} {t : TA} {ga : AF}
theorem run_x {pins : List (Addr × Obj)} {σ : L2.St} {H : Hp} {s : Shared} {Q : VK} {us : List Value} {vs : List V}
    (F : FnX X.prog X.w X.K X.mg X.base k f fd ps sp) (g : X.A.guards = some []) (hr : Room k X.A) (hb : Binds X.K fd ps []) (tk : Takes X W)
    (I : Inv X pins σ H s) (r : Vals vs us) (h : sp vs H Q (WE W σ)) :
    wpAny (model X.prog X.w) X.A (call (.ref f) us) (EP X pins σ Q) X.xe s := by
  have n1 : us.length = ps.length := r.length.symm.trans (F.len vs H Q _ h)
  have b1 := hb s us I.kIn ((congrArg List.length (List.append_nil us)).trans n1)
  rw [List.append_nil] at b1
  refine wpAny_call (codeAny_mono (F.run X.A X.stack s H ⟨us, []⟩ us vs Q _ g hr I.env0 b1 r h) ?_)
  intro res s' c
  match res, c with
  | .error e, c => exact passAt tk σ pins H s e s' I c
  | .ok (.ret _), c => exact I.after c
  | .ok .next, c => exact False.elim c
  | .ok .brk, c => exact False.elim c
  | .ok .cont, c => exact False.elim c
theorem pe_callX (F : FnX X.prog X.w X.K X.mg X.base k f fd ps sp) (g : X.A.guards = some []) (hr : Room k X.A) (hgl : Gl X x) (hm : X.mg x = some (.ref f))
    (hk : PySem.W.keepIn X.K (.ref f) = true) (hb : Binds X.K fd ps []) (tk : Takes X W) (ha : PA X (e :: es) t)
    (hdb : (x == ("__debug__" : Str)) = false := by decide)
    (he : starEach (e :: es) X.env = (false, eval e X.env) :: starEach es X.env := by rfl)
    (hpl : (backTo pos (starEach es X.env)).any (·.1) = false := by rfl) :
    PE X (.Call (.Name x p) (e :: es) [] pos) (fun σ H Q => t σ H fun vs H1 => sp vs H1 Q (WE W σ)) := by
  constructor
  intro pins s σ H Q I h
  apply wpAny_Call_Name_kw
  apply ld_glob I hgl hm _ hdb
  refine PySem.W.callWith_K (h₀ := X.base) I.ok.mod.kin hk (thn (ha.run pos pins s σ H _ I h) ?_) he hpl
  rintro us s1 ⟨vs, H1, I1, r, q⟩
  exact ⟨I1.kIn, run_x F g hr hb tk I1 r q⟩
theorem acdX {F : FA} (D : DefX X.prog X.w X.K X.mg X.base k x ps F) (g : X.A.guards = some []) (hr : Room k X.A) (hgl : Gl X x) (tk : Takes X W) (ha : AA X (e :: es) ga) (hdb : (x == ("__debug__" : Str)) = false := by decide)
    (he : starEach (e :: es) X.env = (false, eval e X.env) :: starEach es X.env := by rfl) (hpl : (backTo pos (starEach es X.env)).any (·.1) = false := by rfl) {n : Nat} (hn : ps.length = n := by rfl) : AEX X W (.Call (.Name x p) (e :: es) [] pos) (eDef F n ga) := by
  subst hn
  obtain ⟨f, fd, hF, hb, hm, hk⟩ := D.ex
  refine pe_w (pe_callX hF g hr hgl hm hk hb tk ha hdb he hpl) fun σ H Q h => ?_
  obtain ⟨m, ρ, S, v, S', R, r, e, q⟩ := h
  obtain ⟨⟨x, S1⟩, e1, e⟩ := Option.bind_eq_some_iff.mp e
  dsimp only at e
  split at e
  · next hl => exact ⟨m, ρ, S, x, S1, R, r, e1, fun m1 us H1 E1 R1 r1 => ⟨by rw [r1.len]; exact hl, m1, S1, x, v, S', R1, r1, e, q.ext E1⟩⟩
  · cases e
end
end AL
namespace AL
open PySem PySem.Spec PyProof.Rows L2 G Th

structure OexA (K : PySem.W.Frag) (C : Addr) : Prop where
  cls : ∃ (B newId initId : String) (bmB : List Value) (nm q : Str) (N : Addr) (bs bm : List Value) (sn : List Str) (sub : List Value) (ab : Bool) (col : Option Bool) (dd : Option Addr) (k0 k1 k2 k3 k5 : Option Value),
    K.lookup C = some (excClassObj nm q C N bs bm true sn sub ab col dd k0 k1 k2 k3 k5 newId) ∧ PySem.W.excTail bmB bm = true ∧ ExcBaseFacts B newId initId bmB ∧ StoreFacts B bmB "object.__setattr__" "object"
  saC : PySem.W.findIn K (.ref C) "__setattr__" = some (some (.builtin "object.__setattr__"))
  beC : PySem.W.subIn K (.ref C) (.type "BaseException") = some true
  ttC : PySem.W.typeIn K (.ref C) = some (.type "type")
  keC : PySem.W.keepIn K (.ref C) = true

structure OexL (K : PySem.W.Frag) (C : Addr) : Prop where
  cls : ∃ (nm q : Str) (N : Addr) (bs bm : List Value) (sn : List Str) (sub : List Value) (ab : Bool) (col : Option Bool) (dd : Option Addr) (k0 k1 k2 k3 k5 : Option Value),
    K.lookup C = some (excClassObj nm q C N bs bm true sn sub ab col dd k0 k1 k2 k3 k5 "LookupError.__new__") ∧ PySem.W.excTail [.type "LookupError", .type "Exception", .type "BaseException", .type "object"] bm = true
  sa : PySem.W.findIn K (.ref C) "__setattr__" = some (some (.builtin "object.__setattr__"))
  be : PySem.W.subIn K (.ref C) (.type "BaseException") = some true
  tt : PySem.W.typeIn K (.ref C) = some (.type "type")
  ke : PySem.W.keepIn K (.ref C) = true
theorem OexL.a {K : PySem.W.Frag} {C : Addr} (T : OexL K C) : OexA K C := by
  obtain ⟨⟨nm, q, N, bs, bm, sn, sub, ab, col, dd, k0, k1, k2, k3, k5, e, t⟩, h1, h2, h3, h4⟩ := T
  exact ⟨⟨_, _, _, _, nm, q, N, bs, bm, sn, sub, ab, col, dd, k0, k1, k2, k3, k5, e, t, F.excBase_LookupError, F.store_LookupError⟩, h1, h2, h3, h4⟩
theorem tail_VE : ∀ l : List Value, PySem.HandSPX.refsVE l = true → PySem.W.excTail PySem.HandSPX.veTail l = true
  | [], z => by cases z
  | a :: r, z => by
    rcases PySem.HandSPX.refsVE_cases _ z with ⟨c, r2, e, z2⟩ | e
    · cases e
      exact tail_VE r z2
    · rw [e]
      decide +kernel
theorem oexA_VE {K : PySem.W.Frag} {C : Addr} (T : OexC K C) : OexA K C := by
  obtain ⟨⟨nm, q, N, bs, bm, sn, sub, ab, col, dd, k0, k1, k2, k3, k5, e, t⟩, h1, h2, h3, h4⟩ := T
  exact ⟨⟨_, _, _, _, nm, q, N, bs, bm, sn, sub, ab, col, dd, k0, k1, k2, k3, k5, e, tail_VE _ t, F.excBase_ValueError, F.store_ValueError⟩, h1, h2, h3, h4⟩
instance {K : PySem.W.Frag} {C : Addr} : Coe (OexC K C) (OexA K C) := ⟨oexA_VE⟩
instance {K : PySem.W.Frag} {C : Addr} : Coe (OexL K C) (OexA K C) := ⟨OexL.a⟩
section
open Builtin Builtin.ObjectAttr PySem.W
variable {prog : Program} {w : World} {A : Around} {K : PySem.W.Frag} {C x : Addr} {g : Array GenState} {d : Drawn} {t : Nat} {os : OsState} {hp : Heap} {fl : Str} {tk : Tok} {v : Value} {fv : Array Value}
theorem taker_no (h : PySem.W.findIn K (.ref C) fl = some none) : PySem.W.takerIn K C fl = some none := by
  unfold PySem.W.takerIn
  rw [h]
  rfl
theorem OexA.got (T : OexA K C) : ∃ (B newId initId : String) (bmB : List Value) (cd : ClassData), PySem.W.clsIn K C = some cd ∧ cd.hasDict = true ∧ PySem.W.excOver K C bmB = true ∧ StoreFacts B bmB "object.__setattr__" "object" := by
  obtain ⟨B, newId, initId, bmB, nm, q, N, bs, bm, sn, sub, ab, col, dd, k0, k1, k2, k3, k5, e, t, _, SF⟩ := T.cls
  have c : PySem.W.clsIn K C = some { name := nm, bases := bs, mro := .ref C :: bm, ns := N, qualname := q, hasDict := true, slotNames := sn, subclasses := sub, abstract := ab, collection := col, hasDel := false } := by
    unfold PySem.W.clsIn
    rw [e] <;> rfl
  refine ⟨B, newId, initId, bmB, _, c, rfl, ?_, SF⟩
  unfold PySem.W.excOver
  rw [c]
  simp [t]

theorem first_field {R : Result → Shared → Prop} (T : OexA K C) (kn : K.In hp) (hx : hp.get? x = some { cls := .ref C, data := .fields fv }) (no : PySem.W.findIn K (.ref C) fl = some none)
    (q : ∀ (h2 : Heap) (t2 : Nat) (y : Addr), (∀ b o, b ≠ x → hp.get? b = some o → h2.get? b = some o) → hp.objs.size ≤ y → y ≠ x → h2.get? x = some { cls := .ref C, dict := some y, data := .fields fv } → h2.Ns1 y (fun z => if z = fl then some v else none) → R (.ok (.ret .none)) ⟨h2, g, d, t2, os⟩) :
    codeAny (model prog w) A (.call (.builtin "object.__setattr__") ⟨[.ref x, .str fl tk, v], []⟩) R ⟨hp, g, d, t, os⟩ := by
  obtain ⟨B, newId, initId, bmB, cd, hc, hh, hov, SF⟩ := T.got
  have lk : PySem.W.Looks (model prog w) hp (classData C) cd := PySem.W.looks_clsIn kn hc
  have apart : x ≠ hp.objs.size := Nat.ne_of_lt (Heap.lt_size hx)
  refine PySem.W.osa_openX (s := ⟨hp, g, d, t, os⟩) SF kn (ox := { cls := .ref C, data := .fields fv }) (od := none) ⟨hx, rfl, rfl, trivial⟩ hov (taker_no no) fun b => ?_
  show wpAny _ _ (storeInOwnDict (.ref x) (.ref C) (.str fl tk) fl v b) _ _ _
  obtain ⟨c1, c2, c3, c4, c5, c6, c7, c8, c9, c10, c11⟩ := cd
  obtain rfl : c6 = true := hh
  unfold storeInOwnDict ownDictForStores
  repeat (first | with_reducible refine PySem.HandSPX.store_in_new ?e ?n | with_reducible refine wpAny_loadPart_at hx ?_ | with_reducible refine lk.at ?_ | wp_step)
  case e => exact ⟨_, #[], _, (Heap.get?_update_ne _ _ _ _ (Ne.symm apart)).trans (Heap.get?_push_at rfl rfl), rfl, fun z hz => by simp at hz, fun _ => rfl⟩
  case n =>
    intro h2 t2 n2 same
    have there : (hp.push { cls := .type "dict", data := .dict #[] }).get? x = some { cls := .ref C, data := .fields fv } := Heap.get?_push_of_some _ hx
    refine q h2 t2 hp.objs.size (fun b o nb hb => ?_) (Nat.le_refl _) (Ne.symm apart) ((same.2 x apart).trans (Heap.get?_update_self _ there rfl)) n2
    have lb : b ≠ hp.objs.size := Nat.ne_of_lt (Heap.lt_size hb)
    exact ((same.2 b lb).trans (Heap.get?_update_ne _ _ _ _ nb)).trans (Heap.get?_push_of_some _ hb)

theorem later_field {R : Result → Shared → Prop} {y : Addr} {m0 : Str → Option Value} {nl : List Str} {oD : Obj} (T : OexA K C) (kn : K.In hp) (hx : hp.get? x = some { cls := .ref C, dict := some y, data := .fields fv }) (ns : hp.Ns1 y m0) (hw : Within m0 nl) (hz : nl.length ≤ 1000) (hoD : hp.get? y = some oD) (no : PySem.W.findIn K (.ref C) fl = some none)
    (q : ∀ (h2 : Heap) (t2 : Nat), (∀ b o, b ≠ y → hp.get? b = some o → h2.get? b = some o) → h2.Ns1 y (fun z => if z = fl then some v else m0 z) → R (.ok (.ret .none)) ⟨h2, g, d, t2, os⟩) :
    codeAny (model prog w) A (.call (.builtin "object.__setattr__") ⟨[.ref x, .str fl tk, v], []⟩) R ⟨hp, g, d, t, os⟩ := by
  obtain ⟨B, newId, initId, bmB, cd, hc, hh, hov, SF⟩ := T.got
  have lk : PySem.W.Looks (model prog w) hp (classData C) cd := PySem.W.looks_clsIn kn hc
  refine PySem.W.osa_openX (s := ⟨hp, g, d, t, os⟩) SF kn (ox := { cls := .ref C, dict := some y, data := .fields fv }) (od := some oD) ⟨hx, rfl, rfl, hoD⟩ hov (taker_no no) fun b => ?_
  show wpAny _ _ (storeInOwnDict (.ref x) (.ref C) (.str fl tk) fl v b) _ _ _
  obtain ⟨c1, c2, c3, c4, c5, c6, c7, c8, c9, c10, c11⟩ := cd
  obtain rfl : c6 = true := hh
  unfold storeInOwnDict ownDictForStores
  repeat (first | with_reducible refine PySem.OEX.store_in_old ns hw hz ?n | with_reducible refine wpAny_loadPart_at hx ?_ | with_reducible refine lk.at ?_ | wp_step)
  case n =>
    intro h2 t2 n2 same
    exact q h2 t2 (fun b o nb hb => (same.2 b nb).trans hb) n2
end
section
variable {X : Cx} {pins : List (Addr × Obj)} {σ : L2.St} {H : Hp} {s : Shared} {a C dx : Addr} {f : Str} {y : V} {u : Value} {fs : List (Str × V)} {Q : Unit → Shared → Prop} {E : Value → Shared → Prop} {A : Around}
theorem new_field (T : OexA X.K C) (I : Inv X pins σ H s) (e : H a = some (exo a C none)) (no : PySem.W.findIn X.K (.ref C) f = some none) (ry : RelV y u)
    (go : ∀ dx s2, H dx = none → dx ≠ a → Inv X pins σ (upd (upd H dx (exd dx [(f, y)])) a (exo a C (some dx))) s2 → Q () s2) : wpAny (model X.prog X.w) A (setAttr (.ref a) f u) Q E s := by
  obtain ⟨t1, there⟩ := exo_at I.hok e
  obtain ⟨hp, g, d, t, os⟩ := s
  refine PySem.W.set_plain I.kIn (ox := { cls := .ref C, dict := none, data := .fields #[.ref t1, .none, .none, .none, .bool false, .none] }) (od := none) ⟨there, rfl, rfl, trivial⟩ T.saC ?_
  refine first_field T I.kIn there no fun h2 t2 dx stay new apart hx ns => ?_
  have fresh : H dx = none := I.hok.fresh new
  refine go dx _ fresh apart ?_
  -- the dict laid, then the object written
  let old : Obj := { cls := .ref C, dict := none, data := .fields #[.ref t1, .none, .none, .none, .bool false, .none] }
  have i1 : (h2.update a fun _ => old).get? a = some old := Heap.get?_update_self (fun _ => old) hx rfl
  have i2 : ∀ b, b ≠ a → (h2.update a fun _ => old).get? b = h2.get? b := fun b nb => Heap.get?_update_other _ _ (Ne.symm nb)
  have J := I.laid (t' := t2) (a := dx) (o := exd dx [(f, y)]) (h' := h2.update a fun _ => old) (fun b o hb => by
      by_cases z : b = a
      · rw [z] at hb ⊢
        rw [i1]
        exact there.symm.trans hb
      · rw [i2 b z]
        exact stay b o z hb) new (exd_ok (ns.at fun o z => (i2 dx apart).trans z) (relO_put (fs := []) ry fun _ => True.intro))
  have ea : upd H dx (exd dx [(f, y)]) a = some (exo a C none) := (upd_ne (Ne.symm apart)).trans e
  exact J.write (t' := t2) (x := a) (e := a) (o := exo a C (some dx)) (by rw [ea]; exact True.intro) (.inl rfl) (fun b o nb hb => (i2 b nb).symm.trans hb) ⟨_, hx⟩ (exo_ok hx)
theorem more_field (T : OexA X.K C) (I : Inv X pins σ H s) (e : H a = some (exo a C (some dx))) (ed : H dx = some (exd dx fs)) (few : fs.length ≤ 900) (no : PySem.W.findIn X.K (.ref C) f = some none) (ry : RelV y u)
    (go : ∀ s2, Inv X pins σ (upd H dx (exd dx ((f, y) :: fs))) s2 → Q () s2) : wpAny (model X.prog X.w) A (setAttr (.ref a) f u) Q E s := by
  obtain ⟨t1, there⟩ := exo_at I.hok e
  obtain ⟨mA, ns, rel⟩ := exd_at I.hok ed
  have hw := within_of rel
  obtain ⟨hp, g, d, t, os⟩ := s
  obtain ⟨oD, _, _, hoD, _, _⟩ := ns.count hw
  refine PySem.W.set_plain I.kIn (ox := { cls := .ref C, dict := some dx, data := .fields #[.ref t1, .none, .none, .none, .bool false, .none] }) (od := some oD) ⟨there, rfl, rfl, hoD⟩ T.saC ?_
  refine later_field T I.kIn there ns hw (by rw [List.length_map]; omega) hoD no fun h2 t2 stay ns2 => ?_
  have hd : ∃ o, h2.get? dx = some o := by
    obtain ⟨o, _, _, z, _⟩ := ns2
    exact ⟨o, z⟩
  exact go _ (I.write (t' := t2) (x := dx) (e := dx) (o := exd dx ((f, y) :: fs)) (by rw [ed]; exact True.intro) (.inl rfl) stay hd (exd_ok ns2 (relO_put ry rel)))
end

def tOstA (K : PySem.W.Frag) (f : Str) (to te : TE) : TS := fun D σ H => te σ H fun y H1 => to σ H1 fun x H2 => ∃ a C : Addr, x = .ref a ∧ OexA K C ∧ PySem.W.findIn K (.ref C) f = some none ∧
  ((H2 a = some (exo a C none) ∧ ∀ dx, H2 dx = none → dx ≠ a → D.nx σ (upd (upd H2 dx (exd dx [(f, y)])) a (exo a C (some dx)))) ∨ ∃ (dx : Addr) (fs : List (Str × V)), H2 a = some (exo a C (some dx)) ∧ H2 dx = some (exd dx fs) ∧ fs.length ≤ 900 ∧ D.nx σ (upd H2 dx (exd dx ((f, y) :: fs))))
section
variable {X : Cx} {o e : Expr} {es : List Expr} {to te : TE} {ta : TA} {f : Str} {p p' p1 p2 pos : Pos}
theorem ps_ostA (ho : PE X o to) (he : PE X e te) (hs : swapsWith e (some (.Attribute o f p')) pos.line X.env = pure false := by rfl) : PS X (.Assign [.Attribute o f p'] e pos) (tOstA X.K f to te) := by
  refine ⟨fun pins s σ H D I h => plainObj_wpAny_Assign_Attribute (thn (he.run pins s σ H _ I h) fun v s1 z => ?_) hs⟩
  obtain ⟨y, H1, I1, r1, q1⟩ := z
  refine thn (ho.run pins s1 σ H1 _ I1 q1) fun u s2 z => ?_
  obtain ⟨_, H2, I2, r2, a, C, rfl, T, no, q⟩ := z
  obtain rfl : u = Value.ref a := r2
  rcases q with ⟨ea, q⟩ | ⟨dx, fs, ea, ed, few, q⟩
  · exact new_field T I2 ea no r1 fun dx s2 n apart J => ⟨σ, _, J, q dx n apart⟩
  · exact more_field T I2 ea ed few no r1 fun s2 J => ⟨σ, _, J, q⟩

theorem pmk_oexA {CX : CXT} {x : Str} {C fI : Addr} {k : Nat} {fd : FuncData} {ps : List Str} {sp : Sp} {ds : List Value} {dvs : List V} (T : OexA X.K C) (iC : PySem.W.findIn X.K (.ref C) "__init__" = some (some (.ref fI))) (tI : PySem.W.typeIn X.K (.ref fI) = some (.type "function"))
    (F1 : FnOk X.prog X.w X.K X.mg X.base CX k fI fd ps sp) (hr : Room (k + 1) X.A) (hb : Binds X.K fd ps ds) (hd : Vals dvs ds) (pass : Passes CX X (fun _ _ _ => False)) (hg : Gl X x) (hm : X.mg x = some (.ref C)) (ha : PA X (e :: es) ta)
    (hdb : (x == ("__debug__" : Str)) = false := by decide) (he : starEach (e :: es) X.env = (false, eval e X.env) :: starEach es X.env := by rfl) (hpl : (backTo pos (starEach es X.env)).any (·.1) = false := by rfl) :
    PMk X (.Call (.Name x p) (e :: es) [] pos) (tMkO C sp dvs ta) := by
  intro pins s0 σ H Q I0 h
  obtain ⟨B, newId, initId, bmB, nm, q, N, bs, bm, sn, sub, ab, col, dd, k0, k1, k2, k3, k5, cl, tl, EB, _⟩ := T.cls
  refine wpAny_Call_Name_kw (ld_glob I0 hg hm ?_ hdb)
  refine PySem.W.callWith_K (h₀ := X.base) I0.ok.mod.kin T.keC (thn (ha.run pos pins s0 σ H _ I0 h) fun us s1 z => ?_) he hpl
  obtain ⟨vs, H1, I1, r1, few, q1⟩ := z
  refine ⟨I1.kIn, ?_⟩
  show wpAny _ _ (call (.ref C) us) _ _ _
  obtain ⟨h1, g1, d1, t1, os1⟩ := s1
  let h2 := (h1.push (PySem.W.kdv_tup us)).push (PySem.HandSPX.excO C h1.objs.size)
  have keep : ∀ b o, h1.get? b = some o → h2.get? b = some o := fun b o z => Heap.get?_push_of_some _ (Heap.get?_push_of_some _ z)
  have self : h2.get? (h1.objs.size + 1) = some (PySem.HandSPX.excO C h1.objs.size) := by
    show ((h1.push (PySem.W.kdv_tup us)).push (PySem.HandSPX.excO C h1.objs.size)).get? _ = _
    heap_get
  have beyond : h1.objs.size ≤ h1.objs.size + 1 := Nat.le_succ _
  have q2 := q1 _ (I1.hok.fresh beyond)
  have I2 := I1.laid (t' := t1) (a := h1.objs.size + 1) (o := exo (h1.objs.size + 1) C none) (h' := h2) keep beyond (exo_ok self)
  have rel : Vals (.ref (h1.objs.size + 1) :: (vs ++ dvs)) (Value.ref (h1.objs.size + 1) :: (us ++ ds)) := .cons rfl (r1.append hd)
  have many : (Value.ref (h1.objs.size + 1) :: us ++ ds).length = ps.length := by
    have z := rel.length
    rw [F1.len _ _ _ _ q2] at z
    exact z.symm
  have line : us.length ≤ sizeLine := by
    rw [← r1.length, sizeLine_eq]
    omega
  have run := F1.run _ X.stack _ _ ⟨Value.ref (h1.objs.size + 1) :: us, []⟩ _ _ _ (fun _ _ _ => False) (hr.make C us []) (I2.env0.make C us []) (hb _ (Value.ref (h1.objs.size + 1) :: us) I2.kIn many) rel q2
  refine wpAny_call (PySem.HandSPX.call_own EB (fun Y => PySem.W.excTail_contains Y bm tl) (I1.kIn _ _ cl) (PySem.W.looks_findIn I1.kIn iC) (fun z => PySem.W.bind_fn I1.kIn z tI) line (codeAny_mono run ?_))
  intro r s2 z
  match r, z with
  | .error er, z => exact pass pins σ _ _ er s2 I2 z
  | .ok (.ret u), z =>
    obtain ⟨_, H2, o2, bare, un, hok2, rv, rfl, d, fs, ea, ed, n1, q3⟩ := z
    obtain ⟨h3, g3, d3, t3, os3⟩ := s2
    exact ⟨rv, mk_end (raises_own T.beC T.ttC) I1 beyond keep un hok2 o2 bare ea ed n1 q3⟩
  | .ok .next, z => exact z.elim
  | .ok .brk, z => exact z.elim
  | .ok .cont, z => exact z.elim
end
end AL
namespace AL
open PySem PySem.Spec PyProof.Rows L2 G Th
variable [TT]
def spI1 (C : Addr) (f1 : Str) : Sp := fun us H Q _ => ∃ a y, us = [.ref a, y] ∧ H a = some (exo a C none) ∧ ∀ dx, H dx = none → dx ≠ a → Q .non (upd (upd H dx (exd dx [(f1, y)])) a (exo a C (some dx)))
def spI2 (C : Addr) (f1 f2 : Str) : Sp := fun us H Q _ => ∃ a y z, us = [.ref a, y, z] ∧ H a = some (exo a C none) ∧ ∀ dx, H dx = none → dx ≠ a → Q .non (upd (upd (upd H dx (exd dx [(f1, y)])) a (exo a C (some dx))) dx (exd dx [(f2, z), (f1, y)]))
structure KnX (P : Program) (w : World) (K : PySem.W.Frag) (mg : Str → Option Value) (base : Heap) (c : Str) : Prop where
  ex : ∃ (C fI : Addr) (fd : FuncData), OexA K C ∧ PySem.W.findIn K (.ref C) "__init__" = some (some (.ref fI)) ∧ PySem.W.typeIn K (.ref fI) = some (.type "function") ∧ mg c = some (.ref C) ∧
    ((∃ f1, xfs c = [f1] ∧ FnOk P w K mg base CX0 1 fI fd ["self", f1] (spI1 C f1) ∧ Binds K fd ["self", f1] []) ∨
      ∃ f1 f2, xfs c = [f1, f2] ∧ f1 ≠ f2 ∧ FnOk P w K mg base CX0 1 fI fd ["self", f1, f2] (spI2 C f1 f2) ∧ Binds K fd ["self", f1, f2] [])
def sRaise (c : Str) (ga : AF) : SF := fun ρ S => match ga ρ S with
  | some (vs, S) => if vs.length = (xfs c).length then .rt (xv c vs) S else .stuck
  | none => .stuck
theorem land {H1 H2 : Hp} {a dx : Addr} {o : HO} (ha : H1 a = none) (h : ∀ b, b ≠ a → b ≠ dx → H2 b = H1 b) (ne : dx ≠ a) : upd (del H2 a) dx o = upd H1 dx o := by
  funext b
  by_cases z : b = dx
  · subst z
    rw [upd_same, upd_same]
  · rw [upd_ne z, upd_ne z]
    by_cases y : b = a
    · subst y
      rw [del_same, ha]
    · rw [del_ne y, h b y z]
theorem asraise {X : Cx} {Ek : XK} {c : Str} {e : Expr} {es : List Expr} {p pos pos2 : Pos} {ga : AF} (tk : Takes X (EW Ek)) (C : KnX X.prog X.w X.K X.mg X.base c) (hr : Room 2 X.A) (hc : X.calm = true) (hg : Gl X c) (ha : AA X (e :: es) ga)
    (hdb : (c == ("__debug__" : Str)) = false := by decide) (he : starEach (e :: es) X.env = (false, eval e X.env) :: starEach es X.env := by rfl) (hpl : (backTo pos (starEach es X.env)).any (·.1) = false := by rfl) :
    AX X Ek (.Raise (some (.Call (.Name c p) (e :: es) [] pos)) none pos2) (sRaise c ga) := by
  obtain ⟨C, fI, fd, T, iC, tI, hm, h⟩ := C.ex
  rcases h with ⟨f1, hx, F1, hb⟩ | ⟨f1, f2, hx, hne, F1, hb⟩
  · refine ps_w (ps_raise hc tk (pmk_oexA (dvs := []) T iC tI F1 hr hb .nil pass0 hg hm ha hdb he hpl)) fun D σ H z => ?_
    obtain ⟨m, ρ, S, R, r, q⟩ := z
    unfold sRaise at q
    split at q
    · next vs S1 e1 =>
      split at q
      · next hl =>
        have q : PX X.K X.mg m H D.rt Ek (xv c vs) S1 := q
        have q := (PX.yes (v := xv c vs) (c := c) (vs := vs) rfl).mp q
        rw [hx] at hl
        refine ⟨m, ρ, S, vs, S1, R, r, e1, fun m1 us H1 E1 R1 r1 => ⟨by rw [r1.len, hl]; simp, fun a ha => ?_⟩⟩
        match vs, hl, us, r1 with
        | [v], _, [u], .cons ru .nil =>
          refine ⟨a, u, rfl, upd_same, fun dx hdx ne => ⟨rfl, dx, _, upd_same, (upd_ne ne).trans upd_same, (upd_ne ne).symm.trans hdx, ?_⟩⟩
          have hd0 : H1 dx = none := (upd_ne ne).symm.trans hdx
          rw [land ha (fun b h1 h2 => by rw [upd_ne h1, upd_ne h2, upd_ne h1]) ne]
          obtain ⟨R2, E2⟩ := R1.tmp (o := .xd [(f1, u)]) hd0
          refine q m1 _ _ _ (E1.trans E2) R2 ⟨hm, dx, _, rfl, upd_same, fun i n w h1 h2 => ?_⟩
          rw [hx] at h1
          match i, h1, h2 with
          | 0, h1, h2 =>
            cases h1
            cases h2
            exact ⟨u, by simp [List.lookup], ru.kp (E2.kp R1)⟩
      · exact q.elim
    · exact q.elim
  · refine ps_w (ps_raise hc tk (pmk_oexA (dvs := []) T iC tI F1 hr hb .nil pass0 hg hm ha hdb he hpl)) fun D σ H z => ?_
    obtain ⟨m, ρ, S, R, r, q⟩ := z
    unfold sRaise at q
    split at q
    · next vs S1 e1 =>
      split at q
      · next hl =>
        have q : PX X.K X.mg m H D.rt Ek (xv c vs) S1 := q
        have q := (PX.yes (v := xv c vs) (c := c) (vs := vs) rfl).mp q
        rw [hx] at hl
        refine ⟨m, ρ, S, vs, S1, R, r, e1, fun m1 us H1 E1 R1 r1 => ⟨by rw [r1.len, hl]; simp, fun a ha => ?_⟩⟩
        match vs, hl, us, r1 with
        | [v, v2], _, [u, u2], .cons ru (.cons ru2 .nil) =>
          refine ⟨a, u, u2, rfl, upd_same, fun dx hdx ne => ⟨rfl, dx, _, (upd_ne (Ne.symm ne)).trans upd_same, upd_same, (upd_ne ne).symm.trans hdx, ?_⟩⟩
          have hd0 : H1 dx = none := (upd_ne ne).symm.trans hdx
          rw [land ha (fun b h1 h2 => by rw [upd_ne h2, upd_ne h1, upd_ne h2, upd_ne h1]) ne]
          obtain ⟨R2, E2⟩ := R1.tmp (o := .xd [(f2, u2), (f1, u)]) hd0
          refine q m1 _ _ _ (E1.trans E2) R2 ⟨hm, dx, _, rfl, upd_same, fun i n w h1 h2 => ?_⟩
          rw [hx] at h1
          match i, h1, h2 with
          | 0, h1, h2 =>
            cases h1
            cases h2
            exact ⟨u, by rw [lookup_put, if_neg hne, lookup_put, if_pos rfl], ru.kp (E2.kp R1)⟩
          | 1, h1, h2 =>
            cases h1
            cases h2
            exact ⟨u2, by rw [lookup_put, if_pos rfl], ru2.kp (E2.kp R1)⟩
      · exact q.elim
    · exact q.elim
theorem init2 {P : Program} {w : World} {K : PySem.W.Frag} {mg : Str → Option Value} {base : Heap} {qual f1 f2 : Str} {st : Stmt} {f C : Addr} {fd : FuncData} (F : Fun K "__init__" qual st f fd) (S : FnScope ["self", f1, f2] ["self", f1, f2] (defScope st)) (T : OexA K C) (hno : PySem.W.findIn K (.ref C) f1 = some none) (hno2 : PySem.W.findIn K (.ref C) f2 = some none)
    {p1 p2 p3 p4 r1 r2 r3 r4 : Pos} (hb : defBody st = [.Assign [.Attribute (.Name "self" p1) f1 p2] (.Name f1 p3) p4, .Assign [.Attribute (.Name "self" r1) f2 r2] (.Name f2 r3) r4])
    (v0 : Vis (defScope st) "self") (v1 : Vis (defScope st) f1) (v2 : Vis (defScope st) f2) (hd : (f1 == ("__debug__" : Str)) = false) (hcd : (f1 == ("__classdict__" : Str)) = false) (hd2 : (f2 == ("__debug__" : Str)) = false) (hcd' : (f2 == ("__classdict__" : Str)) = false) : FnOk P w K mg base CX0 1 f fd ["self", f1, f2] (spI2 C f1 f2) := by
  obtain ⟨oc, od, kV, doc, pm, an, cdv, ct, osl, rfl, lk, hcd2⟩ := F.ex
  refine fn_of lk hcd2 S (fun vs H Q E h => by obtain ⟨a, y, z, rfl, _⟩ := h; rfl) (fun A outer s H vs Q E hr h => ?_)
  rw [hb]
  refine ⟨_, pss_cons (ps_ostA (pe_var (i := 0) rfl v0) (pe_var (i := 1) rfl v1 hd hcd)) (pss_one (ps_ostA (pe_var (i := 0) rfl v0) (pe_var (i := 2) rfl v2 hd2 hcd'))), ?_⟩
  obtain ⟨a, y, z, rfl, ha, q⟩ := h
  refine ⟨y, rfl, .ref a, rfl, a, C, rfl, T, hno, .inl ⟨ha, fun dx h1 h2 => ?_⟩⟩
  exact ⟨z, rfl, .ref a, rfl, a, C, rfl, T, hno2, .inr ⟨dx, _, upd_same, (upd_ne h2).trans upd_same, by simp, q dx h1 h2⟩⟩
def clsB : Stmt → List Stmt
  | .ClassDef _ _ _ b _ _ _ _ _ _ _ => b
  | _ => []

def noX (F : FA) : FA := fun vs S => (F vs S).bind fun p => match isX p.1 with
  | none => some p
  | some _ => none
theorem fnx_g {P : Program} {w : World} {K : PySem.W.Frag} {mg : Str → Option Value} {base : Heap} {k : Nat} {f : Addr} {fd : FuncData} {ps : List Str} {F : FA} (G : FnX P w K mg base k f fd ps (spX K mg ps.length F)) :
    FnG P w K mg base k f fd ps (spA K ps.length (noX F)) := by
  refine ⟨fun vs H Q E h => h.1, fun A outer s H args us vs Q E hg hr e0 hb r h => ?_⟩
  obtain ⟨hl, m, S, ws, v, S', R, rv, e, q⟩ := h
  obtain ⟨⟨v1, S1⟩, e1, e⟩ := Option.bind_eq_some_iff.mp e
  dsimp only at e
  split at e
  · next hx =>
    cases e
    refine codeAny_mono (G.run A outer s H args us vs Q (fun _ _ _ => False) hg hr e0 hb r ⟨hl, m, S, ws, v, S', R, rv, e1, (PX.no hx).mpr q⟩) ?_
    intro res s' c
    match res, c with
    | .error _, c =>
      obtain ⟨_, _, _, _, _, _, _, _, _, _, _, _, z⟩ := c
      exact z.elim
    | .ok (.ret _), c => exact c
    | .ok .next, c => exact c
    | .ok .brk, c => exact c
    | .ok .cont, c => exact c
  · cases e
theorem DefX.no {P : Program} {w : World} {K : PySem.W.Frag} {mg : Str → Option Value} {base : Heap} {k : Nat} {x : Str} {ps : List Str} {F : FA} (D : DefX P w K mg base k x ps F) : Def P w K mg base k x ps (noX F) := by
  obtain ⟨f, fd, h1, h2, h3, h4⟩ := D.ex
  exact ⟨f, fd, fnx_g h1, h2, h3, h4⟩
def Xs (v : Val) (A B : Prop) : Prop := (isX v = none ∧ A) ∨ (∃ c vs, isX v = some (c, vs) ∧ B)
theorem Xs.no {v : Val} {A B : Prop} (h : isX v = none) (a : A) : Xs v A B := .inl ⟨h, a⟩
theorem Xs.yes {v : Val} {A B : Prop} {c : Str} {vs : List Val} (h : isX v = some (c, vs)) (b : B) : Xs v A B := .inr ⟨c, vs, h, b⟩
section
variable {ρ : Rho} {S : Sto} {f : EF} {ga : AF} {g h : SF} {N : Rho → Sto → Prop} {R : Val → Sto → Prop} {p : Pat} {c : Str}
theorem ws_retN (z : Wp (f ρ S) fun v S1 => Sd (isX v = none) (R v S1)) : Ws (sRetN f ρ S) N R := by
  obtain ⟨v, S1, e, q⟩ := z
  unfold sRetN
  rw [e]
  dsimp only
  rw [q.1]
  exact ⟨q.2⟩
theorem ws_asgX (z : Wp (f ρ S) fun v S1 => Xs v (Bn (p.bind v ρ) fun ρ1 => N ρ1 S1) (R v S1)) : Ws (sAsgX p f ρ S) N R := by
  obtain ⟨v, S1, e, q⟩ := z
  unfold sAsgX
  rw [e]
  dsimp only
  rcases q with ⟨hx, ρ1, hb, q⟩ | ⟨c, vs, hx, q⟩
  · rw [hx]
    dsimp only
    rw [hb]
    exact ⟨q⟩
  · rw [hx]
    exact ⟨q⟩
theorem ws_raise (z : Wp (ga ρ S) fun vs S1 => Sd (vs.length = (xfs c).length) (R (xv c vs) S1)) : Ws (sRaise c ga ρ S) N R := by
  obtain ⟨v, S1, e, q⟩ := z
  unfold sRaise
  rw [e]
  dsimp only
  rw [if_pos q.1]
  exact ⟨q.2⟩
end
end AL
namespace AL
open PySem PySem.Spec PyProof.Rows L2 G Th
variable [TT]
section
variable {K : PySem.W.Frag}
end
section
variable {S : Sto} {Q : Val → Sto → Prop}
end
section
variable {X : Cx} {K : PySem.W.Frag}
noncomputable def gSlA : Val → Option Int → Option Int → Sto → Option (Val × Sto) := fun x lo hi S => match x with
  | .tup vs => some (.tup (cutL vs lo hi), S)
  | _ => gSl x lo hi S
def rSlB (K : PySem.W.Frag) : V → Option Int → Option Int → Hp → VK → Prop := fun x lo hi H Q => L2.rSlA K x lo hi H Q ∨ AL.rSlA K x lo hi H Q
theorem sl_B : SlR X (rSlB X.K) := sl_tupA.or sl_A
theorem cut_whole {α : Type} {vs : List α} {lo hi : Option Int} (h : HT.sIx vs.length 0 lo = 0 ∧ HT.sIx vs.length vs.length hi = vs.length) : cutL vs lo hi = vs := by
  unfold cutL
  rw [h.1, h.2, List.drop_zero, Nat.sub_zero, List.take_of_length_le (Nat.le_refl _)]
theorem oSlA : SlA K (rSlB K) gSlA := by
  intro m S H x lo hi v S' u Q R ru e q
  cases x with
  | tup vs =>
    simp only [gSlA] at e
    cases e
    cases ru with
    | tup ha ra =>
      refine .inl ⟨_, _, rfl, ha.sq, fun hw => ?_, fun hw => newTup R (ra.cut lo hi) q⟩
      rw [ra.len] at hw
      rw [cut_whole hw] at q
      exact q m _ H (.refl _ _) R (.tup ha ra)
  | _ => exact .inr (oSl m S H _ lo hi v S' u Q R ru e q)
theorem vSlA {S : Sto} {Q : Val → Sto → Prop} {x : Val} {vs : List Val} {lo hi : Option Int} (hx : x = .tup vs) (q : Q (.tup (cutL vs lo hi)) S) : Wp (gSlA x lo hi S) Q := by
  subst hx
  exact ⟨_, _, rfl, q⟩
end
theorem ws_cut' {r : Res} {N N' : Rho → Sto → Prop} {R R' : Val → Sto → Prop} (h : Ws r N' R') (i : ∀ ρ S, N' ρ S → N ρ S) (j : ∀ v S, R' v S → R v S) : Ws r N R := by
  obtain ⟨h⟩ := h
  constructor
  cases r with
  | nx ρ S => exact i ρ S h
  | rt v S => exact j v S h
  | stuck => exact h
  | bk ρ S => exact h
  | ct ρ S => exact h
end AL
namespace AL
open PySem PySem.Spec PyProof.Rows L2 G Th
variable [TT]
section
variable {X : Cx} {K : PySem.W.Frag}
end
end AL
namespace Od
open PySem PySem.Spec PyProof.Rows L2 SeqAt
end Od
namespace AL
open PySem PySem.Spec PyProof.Rows L2 G Th Od
variable [TT]
section
variable {X : Cx} {K : PySem.W.Frag}
end
end AL
namespace K62
open PySem PySem.Spec PyProof.Rows L2 G Th AL
open K57 (feedL_ feedL_B drawL_ drawL_B endsL_ endsL_B)

noncomputable def ring_from_B : SF := (sSeq (sAsg (.nm 2) (eLst (aCons (eV 1) aNil)))
    (sSeq (sWhile (eT (eB gLe (eCall gLen (aCons (eV 2) aNil)) (eCall gLen (aCons (eV 0) aNil)))) (sSeq (sAsg (.nm 3) (eGet1 (eV 0) (eB gIxA (eV 2) (eU gNeg (eC (.int 1))))))
    (sSeq (sIf (eT (eB gIs (eV 3) (eC .non))) (sRet (eC .non)) sNil)
    (sSeq (sIf (eT (eB gEq (eV 3) (eV 1))) (sRet (eCall gTuple (aCons (eV 2) aNil))) sNil)
    (sExpr (eMt isL gApp (eV 2) (aCons (eV 3) aNil)))))))
    (sRet (eC .non))))
noncomputable def ring_from_ : FA := runF 4 ring_from_B
noncomputable def follow_ring_B : SF := (sSeq (sAsg (.nm 1) (eDc (.tp [(.nm 2), (.nm 3)]) (iSeq (eV 0)) bYes (eV 2) (eV 3) [2, 3]))
    (sSeq (sFor (.tp [(.nm 2), (.nm 3)]) (iSeq (eV 0)) (sSeq (sAsg (.nm 4) (eDef ring_from_ 2 (aCons (eV 1) (aCons (eV 2) aNil))))
    (sIf (eT (eB gIsN (eV 4) (eC .non))) (sRet (eV 4)) sNil)))
    (sRet (eC .non))))
noncomputable def follow_ring_ : FA := runF 5 follow_ring_B
end K62
namespace K65
open PySem PySem.Spec PyProof.Rows L2 G Th AL
open K57 (feedL_ feedL_B drawL_ drawL_B endsL_ endsL_B)
open K60 (farL_ farL_B)
end K65
namespace AL
open PySem PySem.Spec PyProof.Rows L2 G Th
variable [TT]
section
variable {X : Cx} {pos : Pos} {es : List Expr} {e : Expr} {f : EF}
end
end AL
namespace AL
open PySem PySem.Spec PyProof.Rows L2 G Th
variable [TT]
section
variable {pg : Program} {wd : World} {ar : Around} {X0 : Value → Shared → Prop} {t0 : Shared}

theorem adj_rev (n : Nat) : Builtin.Slice.sliceAdjust none none (-1) (n : Int) = ((n : Int) - 1, -1) := rfl
theorem pla_rev (n : Nat) : Builtin.Slice.slicePlaces ((n : Int) - 1) (-1) (-1) = n := by
  have neg : ¬ (-1 : Int) > 0 := by decide
  have one : (- -1 : Int) = 1 := by decide
  simp only [Builtin.Slice.slicePlaces, neg, if_false, one, Int.ediv_one]
  split <;> omega
theorem fm_congr {f g : Nat → Option Value} : ∀ (l : List Nat), (∀ x ∈ l, f x = g x) → l.filterMap f = l.filterMap g
  | [], _ => rfl
  | a :: l, h => by rw [List.filterMap_cons, List.filterMap_cons, h a (by simp), fm_congr l fun x hx => h x (List.mem_cons_of_mem _ hx)]
theorem pick_rev (xs : Array Value) : ((List.range xs.size).filterMap fun (m : Nat) => xs[(((xs.size : Int) - 1) + (m : Int) * (-1)).toNat]?).toArray = xs.toList.reverse.toArray := by
  have e : (List.range xs.size).filterMap (fun (m : Nat) => xs[(((xs.size : Int) - 1) + (m : Int) * (-1)).toNat]?) = ((List.range xs.size).map fun k => xs.size - 1 - k).filterMap (xs[·]?) := by
    rw [List.filterMap_map]
    refine fm_congr _ fun m hm => ?_
    have := List.mem_range.mp hm
    show _ = xs[xs.size - 1 - m]?
    congr 1
    omega
  rw [e, PySem.W.krv_range, List.filterMap_reverse, PySem.W.krv_all]

theorem app_rev {sl : Addr} {v1 v2 v3 : Value} {n : Nat} {Q : Int × Int × Nat → Shared → Prop} (hs : t0.heap.IsSliceOf sl v1 v2 v3) (q1 : IsPart v1 none) (q2 : IsPart v2 none) (q3 : IsPart v3 (some (-1))) (h : Q ((n : Int) - 1, -1, n) t0) :
    wpAny (model pg wd) ar (Builtin.Slice.sliceApplied (.ref sl) (pure (n : Int))) Q X0 t0 := by
  obtain ⟨so, g1, _, g3⟩ := id hs
  simp only [Builtin.Slice.sliceApplied, Builtin.Slice.sliceFields]
  have fin : wpAny (model pg wd) ar (pure ((n : Int) - 1, (-1 : Int), Builtin.Slice.slicePlaces ((n : Int) - 1) (-1) (-1)) : Sem (Int × Int × Nat)) Q X0 t0 := by rw [pla_rev]; exact wpAny_pure h
  have mid : wpAny (model pg wd) ar (match Builtin.Slice.sliceAdjust none none (-1) (n : Int) with | (a, b) => (pure (a, (-1 : Int), Builtin.Slice.slicePlaces a b (-1)) : Sem (Int × Int × Nat))) Q X0 t0 := by rw [adj_rev n]; exact fin
  refine wpAny_bind (wpAny_bind (wpAny_field g1 g3 (x := v1) rfl (wpAny_bind (wpAny_field g1 g3 (x := v2) rfl (wpAny_bind (wpAny_field g1 g3 (x := v3) rfl (wpAny_pure (wpAny_bind (HT.slicePart_ q3 ?_)))))))))
  show wpAny _ _ (if ((-1 : Int) == 0) = true then _ else _) _ _ t0
  rw [if_neg (by decide)]
  exact wpAny_bind (HT.slicePart_ q1 (wpAny_bind (HT.slicePart_ q2 (wpAny_bind (wpAny_pure mid)))))

theorem tup_rev {tt sl : Addr} {its : Array Value} {v1 v2 v3 : Value} {Q : Value → Shared → Prop} (ht : IsTup t0.heap tt its) (hs : t0.heap.IsSliceOf sl v1 v2 v3) (q1 : IsPart v1 none) (q2 : IsPart v2 none) (q3 : IsPart v3 (some (-1)))
    (h : Q (.ref t0.heap.objs.size) { t0 with heap := t0.heap.push { cls := .type "tuple", data := .seq its.toList.reverse.toArray } }) (room : its.size ≤ sizeLine) : wpAny (model pg wd) ar (getItem (.ref tt) (.ref sl)) Q X0 t0 := by
  have fits : sizeOk (.seq its.toList.reverse.toArray) := show its.toList.reverse.toArray.size ≤ sizeLine by rw [List.size_toArray, List.length_reverse, Array.length_toList]; exact room
  obtain ⟨so, g1, g2, _⟩ := id hs
  have ty : t0.TypeIs (.ref sl) "slice" := ⟨so, g1, g2⟩
  have ends : ¬ ((((its.size : Int) - 1) == 0 && (-1 : Int) == 1 && its.size == its.size) = true) := fun q => absurd ((Bool.and_eq_true_iff.mp ((Bool.and_eq_true_iff.mp q).1)).2) (by decide)
  unfold getItem; (try with_reducible refine wpAny_holding ?_); (first | refine wpAny_bind (wpAny_pure ?_) | skip)
  refine wpAny_bind (wpAny_sequenceKey ht.typeIs (by decide) (wpAny_bind (wpAny_callSpecial?_slot (name := Str.ofString "__getitem__") ht.typeIs PyProof.Rows.slot_tuple_getitem (wpAny_call_entry PyProof.Rows.slot_tuple_getitem ht.typeIs PyProof.Rows.entry_tuple_getitem ?_ (PyProof.Rows.args_tuple_getitem _ _)))))
  show wpAny _ _ (Builtin.Tuple.tupleItemsOf (.ref tt) >>= _) _ _ t0
  refine wpAny_bind (PyProof.Rows.tupleItemsOf_ ht (wpAny_bind (wpAny_typeOf ty ?_)))
  rw [if_pos (by decide)]
  refine wpAny_bind (app_rev hs q1 q2 q3 ?_)
  show wpAny _ _ (if (((its.size : Int) - 1) == 0 && (-1 : Int) == 1 && its.size == its.size) = true then _ else _) _ _ t0
  rw [if_neg ends, pick_rev]
  first | exact wpAny_bind (m := Builtin.Tuple.tupleExact _) (wpAny_newObj_type (wpAny_pure ⟨_, rfl, wpAny_pure h⟩) fits) | exact wpAny_bind (m := Builtin.Tuple.tupleExact _) (wpAny_newObj_type (wpAny_bind (wpAny_pure (wpAny_pure ⟨_, rfl, wpAny_pure h⟩))) fits) | exact wpAny_bind (wpAny_bind (m := Builtin.Tuple.tupleExact _) (wpAny_newObj_type (wpAny_pure (wpAny_pure ⟨_, rfl, wpAny_pure h⟩)) fits)) | exact wpAny_bind (wpAny_bind (m := Builtin.Tuple.tupleExact _) (wpAny_newObj_type (wpAny_pure ⟨_, rfl, wpAny_pure h⟩) fits))
end
section
variable {X : Cx} {K : PySem.W.Frag} {pos : Pos} {e : Expr} {f : EF}
def tRevT (K : PySem.W.Frag) (te : TE) : TE := fun σ H Q => te σ H fun x H1 => ∃ a xs, x = .ref a ∧ SqT K H1 a xs ∧ ∀ p, H1 p = none → Q (.ref p) (upd H1 p (.tup xs.reverse))
theorem pe_revT {te : TE} {k : Nat} {p1 p2 p3 : Pos} (he : PE X e te) : PE X (.Subscript e (.Slice none none (some (.UnaryOp .USub (.Constant (.int 1) k p1) p2)) p3) pos) (tRevT X.K te) := by
  constructor
  intro ps st si hp Q inv h
  refine Subscript_ (thn (he.run ps st si hp _ inv h) ?_)
  rintro v s1 ⟨x, H1, i1, r1, a, xs, rfl, hx, q⟩
  cases r1
  have minus : PO X (some (.UnaryOp .USub (.Constant (.int 1) k p1) p2)) _ := po_some (pe_un un_neg pe_int)
  refine wpAny_Slice (thn (po_none.run ps s1 si H1 (fun o K' => o = none ∧ K' = H1) i1 ⟨rfl, rfl⟩) ?_)
  rintro v1 s2 ⟨_, _, i2, c1, rfl, rfl⟩
  refine thn (po_none.run ps s2 si _ (fun o K' => o = none ∧ K' = _) i2 ⟨rfl, rfl⟩) ?_
  rintro v2 s3 ⟨_, _, i3, c2, rfl, rfl⟩
  refine thn (minus.run ps s3 si _ (fun o K' => o = some (-1) ∧ K' = _) i3 ⟨1, rfl, -1, rfl, rfl, rfl⟩) ?_
  rintro v3 s4 ⟨_, _, i4, c3, rfl, rfl⟩
  have i5 := i4.kept (h' := s4.heap.push { cls := .type "slice", data := .fields #[v1, v2, v3] }) (t' := s4.toks) fun b ob z => Heap.get?_push_of_some _ z
  obtain ⟨its, rv, tp, room⟩ := i5.tuple hx
  have ln := rv.length
  refine tail_any (ops := [.ref a, .ref s4.heap.objs.size]) tp.typeIs PyProof.Rows.slot_tuple_getitem.lookup (tup_rev tp (Heap.IsSliceOf.new _ v1 v2 v3) c1 c2 c3 ?_ (by rw [List.size_toArray]; omega)) (by with_unfolding_all rfl)
  have lay := i5.laid (h' := (s4.heap.push { cls := .type "slice", data := .fields #[v1, v2, v3] }).push { cls := .type "tuple", data := .seq its.reverse.toArray }) (t' := s4.toks) (o := .tup xs.reverse) (fun b ob z => Heap.get?_push_of_some _ z) (Nat.le_refl _) ⟨by rw [List.length_reverse]; exact room, _, rv.reverse, IsTup.new _ _⟩
  exact ⟨.ref _, _, lay, rfl, q _ (i5.hok.fresh (Nat.le_refl _))⟩
def gRevT : Val → Sto → Option (Val × Sto) := fun x S => match x with
  | .tup vs => some (.tup vs.reverse, S)
  | _ => none
theorem arevT {k : Nat} {p1 p2 p3 : Pos} (he : AE X e f) : AE X (.Subscript e (.Slice none none (some (.UnaryOp .USub (.Constant (.int 1) k p1) p2)) p3) pos) (eU gRevT f) := by
  refine pe_w (pe_revT he) fun σ H Q h => ?_
  obtain ⟨m, ρ, S, v, S', R, r, e, q⟩ := h
  obtain ⟨⟨x1, S1⟩, e1, e⟩ := Option.bind_eq_some_iff.mp e
  cases x1 with
  | tup vs =>
    cases e
    refine ⟨m, ρ, S, .tup vs, S1, R, r, e1, fun m1 u H1 E1 R1 r1 => ?_⟩
    cases r1 with
    | tup ha ra => exact ⟨_, _, rfl, ha.sq, newTup R1 ra.rev fun m2 z H2 E2 R2 r2 => q m2 z H2 (E1.trans E2) R2 r2⟩
  | non => cases e
  | bl _ => cases e
  | int _ => cases e
  | str _ => cases e
  | ref _ => cases e
  | scr _ => cases e
  | lam _ _ _ _ _ => cases e
  | exc _ _ _ _ => cases e
  | ptu _ => cases e
theorem vRevT {S : Sto} {Q : Val → Sto → Prop} {x : Val} {vs : List Val} (hx : x = .tup vs) (q : Q (.tup vs.reverse) S) : Wp (gRevT x S) Q := by
  subst hx
  exact ⟨_, _, rfl, q⟩

def gAddT : Val → Val → Sto → Option (Val × Sto) := fun x y S => match x, y with
  | .tup a, .tup b => if a.length + b.length ≤ sizeLine then some (.tup (a ++ b), S) else none
  | x, y => gAdd x y S
def rAddT (K : PySem.W.Frag) : R2 := fun x y H Q => rCatA K x y H Q ∨ rAddA K x y H Q
theorem op_addT : OpR X (binaryOp .Add) (rAddT X.K) := op_catA.or op_addA
theorem oAddT : OpA K (rAddT K) gAddT := by
  intro m S H x y v S' u w Q R ru rw_ e q
  unfold gAddT at e
  split at e
  · next a b =>
    split at e
    · next h =>
      cases e
      cases ru with
      | tup ha ra =>
        rename_i ad xs
        cases rw_ with
        | tup hb rb =>
          rename_i bd ys
          have l1 := ra.len
          have l2 := rb.len
          refine .inl ⟨ad, bd, xs, ys, rfl, rfl, ha.sq, hb.sq, by omega, fun z => ?_, fun z1 z => ?_, fun z1 z2 p hp => ?_⟩
          · subst z
            have : a = [] := by
              cases a with
              | nil => rfl
              | cons _ _ => simp at l1
            subst this
            exact q m _ H (.refl _ _) R (.tup hb rb)
          · subst z
            have : b = [] := by
              cases b with
              | nil => rfl
              | cons _ _ => simp at l2
            subst this
            rw [List.append_nil] at q
            exact q m _ H (.refl _ _) R (.tup ha ra)
          · obtain ⟨R2, E2⟩ := R.tmp (o := .tup (xs ++ ys)) hp
            exact q m _ _ E2 R2 (.tup (.inl upd_same) ((ra.app rb).kp (E2.kp R)))
    · cases e
  · exact .inr (oAdd m S H _ _ v S' u w Q R ru rw_ e q)
theorem vAddT {S : Sto} {Q : Val → Sto → Prop} {x y : Val} {a b : List Val} (hx : x = .tup a) (hy : y = .tup b) (hl : a.length + b.length ≤ 1000000) (q : Q (.tup (a ++ b)) S) : Wp (gAddT x y S) Q := by
  subst hx hy
  exact ⟨_, _, if_pos (mill hl), q⟩
end
end AL
namespace K67
open PySem PySem.Spec PyProof.Rows L2 G Th AL
open K57 (feedL_ feedL_B drawL_ drawL_B endsL_ endsL_B)

open K62 (ring_from_ ring_from_B follow_ring_ follow_ring_B)

end K67
namespace AL
open PySem PySem.Spec PyProof.Rows L2 G Th
variable [TT]

def thenX (y : Val) (S : Sto) (h : Val → Sto → Option (Val × Sto)) : Option (Val × Sto) := match isX y with
  | some _ => some (y, S)
  | none => match h y S with
    | some (v, S') => (match isX v with | none => some (v, S') | some _ => none)
    | none => none
def eTup1X (f1 f : EF) : EF := fun ρ S => (f1 ρ S).bind fun p => (f ρ p.2).bind fun q => thenX q.1 q.2 fun y S => some (.tup [p.1, y], S)
theorem thenX_cases {y v : Val} {S S' : Sto} {h : Val → Sto → Option (Val × Sto)} (e : thenX y S h = some (v, S')) : ((∃ c vs, isX y = some (c, vs)) ∧ v = y ∧ S' = S) ∨ (isX y = none ∧ h y S = some (v, S') ∧ isX v = none) := by
  unfold thenX at e
  split at e
  · next cv hx =>
    cases e
    exact .inl ⟨⟨cv.1, cv.2, hx⟩, rfl, rfl⟩
  · next hx =>
    split at e
    · next v1 S1 e1 =>
      split at e
      · next hv => cases e; exact .inr ⟨hx, e1, hv⟩
      · cases e
    · cases e
section
variable {X : Cx} {W : WX} {e e1 e2 : Expr} {f f1 f2 : EF} {pos : Pos}
theorem atup1X {k : Nat} (h1 : AE X e1 f1) (h : AEX X W e f) (hs : PA X [e1, e] (tCons (tF X.K f1) (tCons (tFx X.K X.mg W f) tNil))) : AEX X W (.Tuple [e1, e] k pos) (eTup1X f1 f) := by
  refine pe_w (pe_tup hs) fun σ H Q z => ?_
  obtain ⟨m, ρ, S, v, S', R, r, ee, q⟩ := z
  obtain ⟨⟨x, S1⟩, a1, ee⟩ := Option.bind_eq_some_iff.mp ee
  obtain ⟨⟨y, S2⟩, a2, ee⟩ := Option.bind_eq_some_iff.mp ee
  refine ⟨m, ρ, S, x, S1, R, r, a1, fun m1 u1 H1 E1 R1 r1 => ⟨m1, ρ, S1, y, S2, R1, r.kp (E1.kp R), a2, ?_⟩⟩
  rcases thenX_cases ee with ⟨⟨c, vs, hx⟩, rfl, rfl⟩ | ⟨hx, ev, hv⟩
  · exact (PX.yes hx).mpr fun m2 H2 cls d E2 R2 x2 => (PX.yes hx).mp q m2 H2 cls d (E1.trans E2) R2 x2
  · cases ev
    refine (PX.no hx).mpr fun m2 u2 H2 E2 R2 r2 => ⟨by show 2 ≤ sizeLine; decide, fun p hp => ?_⟩
    obtain ⟨R3, E3⟩ := R2.tmp (o := .tup [u1, u2]) hp
    exact (PX.no hv).mp q m2 _ _ ((E1.trans E2).trans E3) R3 (.tup (.inl upd_same) (.cons ((r1.kp (E2.kp R1)).kp (E3.kp R2)) (.cons (r2.kp (E3.kp R2)) .nil)))
end
section
variable {ρ : Rho} {S : Sto} {Q : Val → Sto → Prop} {f f1 f2 : EF}
theorem wThen {y : Val} {h : Val → Sto → Option (Val × Sto)} (z : Xs y (Wp (h y S) fun v S' => isX v = none ∧ Q v S') (Q y S)) : Wp (thenX y S h) Q := by
  rcases z with ⟨hx, v, S', e, hv, q⟩ | ⟨c, vs, hx, q⟩
  · exact ⟨v, S', by unfold thenX; rw [hx]; simp only [e, hv], q⟩
  · exact ⟨y, S, by unfold thenX; rw [hx], q⟩
theorem wTup1X (z : Wp (f1 ρ S) fun x S1 => Wp (f ρ S1) fun y S2 => Xs y (isX (.tup [x, y]) = none ∧ Q (.tup [x, y]) S2) (Q y S2)) : Wp (eTup1X f1 f ρ S) Q := by
  obtain ⟨x, S1, e1, y, S2, e2, z⟩ := z
  unfold eTup1X
  rw [e1, Option.bind_some, e2, Option.bind_some]
  refine wThen ?_
  rcases z with ⟨hx, z⟩ | ⟨c, vs, hx, z⟩
  · exact .inl ⟨hx, _, _, rfl, z⟩
  · exact .inr ⟨c, vs, hx, z⟩
end
end AL
namespace AL
open PySem PySem.Spec PyProof.Rows L2 G Th
variable [TT]
def unp : Val → Val
  | .ptu vs => .tup vs
  | v => v
theorem VR.unp {K : PySem.W.Frag} {H : Hp} {m : List Addr} {u : V} {v : Val} (r : VR K H m u v) : VR K H m u (unp v) := by
  cases r with
  | ptu e d q => exact .tup (.inr (.inr ⟨_, e⟩)) q
  | non => exact .non
  | bl b => exact .bl _
  | int i => exact .int _
  | str x => exact .str _
  | tup h q => exact .tup h q
  | ref h => exact .ref h
  | scr h => exact .scr h
  | lam h q => exact .lam h q
  | exc h l q => exact .exc h l q

def eUnp (f : EF) : EF := fun ρ S => (f ρ S).map fun p => (unp p.1, p.2)

def gTupP : List Val → Sto → Option (Val × Sto) := fun xs S => match xs with
  | [.ref n] => match S[n]? with
    | some (.lst vs) => some (.ptu vs, S)
    | _ => none
  | _ => none

def gDictP : List Val → Sto → Option (Val × Sto) := fun xs S => match xs with
  | [.ptu vs] => match pairsK vs with
    | some kvs => some (.ref S.length, S ++ [.dic (mergeA [] kvs)])
    | none => none
  | _ => none
section
variable {X : Cx} {K : PySem.W.Frag} {es : List Expr} {ga : AF} {pos : Pos} {f : EF} {e : Expr}
theorem aUnp (h : AE X e f) : AE X e (eUnp f) := pe_w h fun σ H Q ⟨m, ρ, S, v, S', R, r, e, q⟩ => by
  obtain ⟨⟨x, S1⟩, e1, e⟩ := Option.map_eq_some_iff.mp e
  cases e
  exact ⟨m, ρ, S, x, S1, R, r, e1, fun m1 u H1 E1 R1 r1 => q m1 u H1 E1 R1 r1.unp⟩
omit [TT] in
theorem call_tupleP : CallR X (.type "tuple") (fun xs H Q => ∃ p ys, xs = [.ref p] ∧ SqL X.K H p ys ∧ ∀ l o, H l = none → o.dict = none → Q (.ref l) (upd H l (.frz o (.tup ys)))) := by
  intro pins s σ H xs us Q I r h
  obtain ⟨p, ys, rfl, hq, q⟩ := h
  obtain ⟨u, rfl, rx⟩ := vals1 r
  cases rx
  obtain ⟨its, r', pl, hz⟩ := I.list hq
  have hlen := r'.length
  refine call_tuple_list pl.isList (fun h' kp => ?_) (by simp only [List.size_toArray] <;> omega)
  have I1 : Inv X pins σ H { s with heap := h' } := I.kept (t' := s.toks) kp
  have I2 : Inv X pins σ (upd H h'.objs.size (.frz { cls := .type "tuple", data := .seq its.toArray } (.tup ys))) { s with heap := h'.push { cls := .type "tuple", data := .seq its.toArray } } :=
    I1.laid (t' := s.toks) (fun b o e => Heap.get?_push_of_some _ e) (Nat.le_refl _) (show ObjOk X.prog X.w _ _ _ (.frz _ (.tup ys)) from ⟨Heap.get?_push_size _ rfl, hz, its, r', IsTup.new _ _⟩)
  exact ⟨.ref h'.objs.size, _, I2, rfl, q _ _ (I1.hok.fresh (Nat.le_refl _)) rfl⟩
theorem cTupP : CaA K (fun xs H Q => ∃ p ys, xs = [.ref p] ∧ SqL K H p ys ∧ ∀ l o, H l = none → o.dict = none → Q (.ref l) (upd H l (.frz o (.tup ys)))) gTupP := by
  intro m S H xs v S' us Q R ru e q
  unfold gTupP at e
  split at e
  · split at e
    · next vs en =>
      cases e
      obtain ⟨u, rfl, r1⟩ := ru.one_of
      cases r1 with
      | ref ha =>
        obtain ⟨xs, hx, rx⟩ := R.ob _ _ _ en ha
        refine ⟨_, _, rfl, SqL.of hx, fun l o hl hd => ?_⟩
        obtain ⟨R2, E2⟩ := R.tmp (o := .frz o (.tup xs)) hl
        exact q m _ _ E2 R2 (.ptu upd_same hd (rx.kp (E2.kp R)))
    · cases e
  · cases e
omit [TT] in
theorem pairs_ofU {pins : List (Addr × Obj)} {σ : L2.St} {H : Hp} {s : Shared} (I : Inv X pins σ H s) : ∀ {ps : List Addr} {kvs : List (Key × V)}, Paired (fun p kv => SqT X.K H p [kV kv.1, kv.2]) ps kvs →
    ∃ (prs : List (Key × Value)) (vv : List (Value × Value)), KV kvs prs ∧ prs.length = ps.length ∧ vv.length = ps.length ∧ ∀ (j : Nat) (k v : Value), vv[j]? = some (k, v) → ∃ (b : Addr) (q : Key × Value), ps[j]? = some b ∧ prs[j]? = some q ∧ q.2 = v ∧ IsTup s.heap b #[k, v] ∧ keyIs q.1 k = true
  | _, _, .nil => ⟨[], [], .nil, rfl, rfl, fun j k v e => by simp at e⟩
  | _, _, .cons (a := p) (b := kv) h t => by
    obtain ⟨prs, vv, r, hl, hl2, hp⟩ := pairs_ofU I t
    obtain ⟨its, rv, ht, _⟩ := I.tuple h
    obtain ⟨u, y, ei, ru, ry⟩ := vals2 rv
    subst ei
    refine ⟨(kv.1, y) :: prs, (u, y) :: vv, .cons ⟨rfl, ry⟩ r, by rw [List.length_cons, List.length_cons, hl], by rw [List.length_cons, List.length_cons, hl2], fun j k v e => ?_⟩
    cases j with
    | zero =>
      have e' : (u, y) = (k, v) := Option.some.inj e
      cases e'
      exact ⟨p, _, rfl, rfl, rfl, ht, kV_is (P := X.prog) (w := X.w) ru⟩
    | succ j =>
      obtain ⟨b, q, e1, e2, e3⟩ := hp j k v (by simpa using e)
      exact ⟨b, q, by simpa using e1, by simpa using e2, e3⟩
def rDictP : List V → Hp → VK → Prop := fun xs H Q => ∃ (a : Addr) (o : Obj) (ps : List Addr) (kvs : List (Key × V)), xs = [.ref a] ∧ H a = some (.frz o (.tup (ps.map V.ref))) ∧ o.dict = none ∧ Paired (fun p kv => SqT K H p [kV kv.1, kv.2]) ps kvs ∧
    ∀ p, H p = none → Q (.ref p) (upd H p (.dK (mergeK [] kvs)))
omit [TT] in
theorem call_dictU (hcalm : X.calm = true) : CallR X (.type "dict") (rDictP (K := X.K)) := by
  intro pins s σ H xs us Q I r q
  obtain ⟨a, o, ps, kvs, ex, ha, hod, hp, q⟩ := q
  subst ex
  obtain ⟨u, eu, rx⟩ := vals1 r
  subst eu
  cases rx
  obtain ⟨ho, hz, its, rv, ob, e, hc, n, hdat⟩ := I.hok a _ ha
  rw [ho] at e
  cases e
  have ei := refs_at rv
  subst ei
  rw [List.length_map] at hz
  obtain ⟨prs, vv, rel, hl, hl2, hpr⟩ := pairs_ofU I hp
  refine PySem.call_dict_pairs (knd := mixKind X.prog X.w) (kvs := prs) (PairArg.tuple a (ps.map Value.ref).toArray (fun j => (ps[j]?).getD 0) vv) (I.ok.hd hcalm) ⟨⟨o, n, ho, hc, hod, hdat⟩, by simp [hl2], fun j k v e => ?_⟩ ⟨by rw [hl, hl2], fun i k v e => ?_⟩ (by rw [hl2]; exact hz) fun h' tk hd' k => ?_
  · obtain ⟨b, q', e1, e2, e3, e4, e5⟩ := hpr j k v e
    have eb : (ps[j]?).getD 0 = b := by rw [e1]; rfl
    refine ⟨by simp [e1], .inl ?_⟩
    show s.heap.IsTuple ((ps[j]?).getD 0) #[k, v]
    rw [eb]
    obtain ⟨o1, g1, g2, g3, g4⟩ := e4
    exact ⟨o1, g1, g2, g3, g4⟩
  · obtain ⟨b, q', e1, e2, e3, e4, e5⟩ := hpr i k v e
    exact ⟨q'.1, by rw [e2, ← e3], e5⟩
  · have hm : (s.heap.objs.size == sysModules) = false := beq_eq_false_iff_ne.mpr (Nat.ne_of_gt I.big)
    have hlen : (mergeK [] kvs).length ≤ sizeLine := by
      refine Nat.le_trans (length_mergeK kvs []) ?_
      rw [List.length_nil, Nat.zero_add, rel.length, hl]
      exact hz
    exact ⟨.ref s.heap.objs.size, upd H s.heap.objs.size (.dK (mergeK [] kvs)), I.laid (t' := tk) (fun b o e => k b o (by simp) e) (Nat.le_refl _) (show ObjOk X.prog X.w _ _ _ (.dK (mergeK [] kvs)) from ⟨hlen, hm, merged [] prs, KV.merge rel .nil, hd'⟩), rfl, q _ (I.hok.fresh (Nat.le_refl _))⟩
theorem cDictP : CaA K (rDictP (K := K)) gDictP := by
  intro m S H xs v S' us Q R ru e q
  unfold gDictP at e
  split at e
  · split at e
    · next vs kvs ek =>
      cases e
      obtain ⟨u, rfl, r1⟩ := ru.one_of
      cases r1 with
      | ptu ha hd rx =>
        obtain ⟨ps, ys, rfl, hp, hk⟩ := pairsK_ok _ _ _ rx ek
        exact ⟨_, _, ps, ys, rfl, ha, hd, hp, newDic R (hk.merge .nil) q⟩
    · cases e
  · cases e
end
section
variable {ρ : Rho} {S : Sto} {f : EF} {ga : AF} {Q : Val → Sto → Prop} {x : Val}
theorem wUnp (h : Wp (f ρ S) fun v S1 => Q (unp v) S1) : Wp (eUnp f ρ S) Q := by
  obtain ⟨v, S1, e, q⟩ := h
  exact ⟨unp v, S1, by unfold eUnp; rw [e]; rfl, q⟩
theorem vTupP {n : Nat} {vs : List Val} (hx : x = .ref n) (h : S[n]? = some (.lst vs)) (q : Q (.ptu vs) S) : Wp (gTupP [x] S) Q := by subst hx; exact ⟨_, S, by simp only [gTupP, h], q⟩
theorem vDictP {vs : List Val} {kvs : List (Key × Val)} (hx : x = .ptu vs) (hk : pairsK vs = some kvs) (q : Nw S (.dic (mergeA [] kvs)) Q) : Wp (gDictP [x] S) Q := by subst hx; exact ⟨_, _, by simp only [gDictP, hk], q.use⟩
end
end AL
namespace K63
open PySem PySem.Spec PyProof.Rows L2 G Th AL
open K57 (feedL_ feedL_B drawL_ drawL_B endsL_ endsL_B)
open K62 (ring_from_ ring_from_B follow_ring_ follow_ring_B)

noncomputable def pairsL_B : SF := (sSeq (sAsg (.nm 1) (eLst (aCons (eC (.str "a")) (aCons (eC (.str "ab")) (aCons (eC (.str "b")) (aCons (eC (.str "c")) (aCons (eC (.str "d")) (aCons (eC (.str "yy")) (aCons (eC (.str "z")) (aCons (eC (.str "zzzzzzzz")) aNil))))))))))
    (sSeq (sAsg (.nm 2) (eCall gSortedG (aCons (eLc (.nm 5) (iRg1 (aCons (eDef drawL_ 2 (aCons (eV 0) (aCons (eC (.int 9)) aNil))) aNil)) bYes (eMt isL gPop (eV 1) (aCons (eDef drawL_ 2 (aCons (eV 0) (aCons (eCall gLen (aCons (eV 1) aNil)) aNil))) aNil)) [5]) aNil)))
    (sSeq (sAsg (.nm 3) (eLc (.nm 4) (iSeq (eV 2)) bYes (eTup (aCons (eV 4) (aCons (eB gIxA (eB gAdd (eV 2) (eLst (aCons (eC (.str "out")) aNil))) (eDef drawL_ 2 (aCons (eV 0) (aCons (eB gAdd (eCall gLen (aCons (eV 2) aNil)) (eC (.int 1))) aNil)))) aNil))) [4]))
    (sRet (eCall gTupP (aCons (eLc (.nm 6) (iSeq (eV 3)) (eT (eB gGt (eDef drawL_ 2 (aCons (eV 0) (aCons (eC (.int 7)) aNil))) (eC (.int 0)))) (eV 6) [6]) aNil))))))
noncomputable def pairsL_ : FA := runF 7 pairsL_B
noncomputable def ringL_B : SF := (sSeq (sAsg (.nm 1) (eCall gDictP (aCons (eV 0) aNil)))
    (sSeq (sFor (.tp [(.nm 2), (.nm 3)]) (iSeq (eUnp (eV 0))) (sSeq (sAsg (.nm 4) (eLst (aCons (eV 2) aNil)))
    (sSeq (sWhile (eT (eB (gIn true) (eGet2 (eV 1) (eB gIxA (eV 4) (eU gNeg (eC (.int 1)))) (eV 2)) (eV 4))) (sExpr (eMt isL gApp (eV 4) (aCons (eB gIxA (eV 1) (eB gIxA (eV 4) (eU gNeg (eC (.int 1))))) aNil))))
    (sIf (bAnd (eT (eB (gIn false) (eB gIxA (eV 4) (eU gNeg (eC (.int 1)))) (eV 1))) (eT (eB gEq (eB gIxA (eV 1) (eB gIxA (eV 4) (eU gNeg (eC (.int 1))))) (eV 2)))) (sRet (eCall gTuple (aCons (eV 4) aNil))) sNil))))
    (sRet (eC .non))))
noncomputable def ringL_ : FA := runF 5 ringL_B
end K63
namespace AL
open PySem PySem.Spec PyProof.Rows L2 G Th
variable [TT]
section
variable {X : Cx} {K : PySem.W.Frag}
end
end AL
namespace K19
open PySem PySem.Spec PyProof.Rows L2 G Th AL
open K37 (common_divisor_ common_divisor_B ratio_ ratio_B less_ less_B parted_ parted_B drift_of_ drift_of_B moves_into_ moves_into_B history_moves_ history_moves_B)
end K19
namespace K24
open PySem PySem.Spec PyProof.Rows L2 G Th AL
open K37 (common_divisor_ common_divisor_B ratio_ ratio_B added_ added_B less_ less_B parted_ parted_B is_below_ is_below_B drift_of_ drift_of_B moves_into_ moves_into_B history_moves_ history_moves_B)

end K24
namespace K30
open PySem PySem.Spec PyProof.Rows L2 G Th AL
open K37 (common_divisor_ common_divisor_B ratio_ ratio_B added_ added_B less_ less_B parted_ parted_B is_below_ is_below_B greatest_of_ greatest_of_B drift_of_ drift_of_B moves_into_ moves_into_B history_moves_ history_moves_B)


end K30
namespace AL
open PySem PySem.Spec PyProof.Rows L2 G Th
variable [TT]
section
variable {K : PySem.W.Frag} {S : Sto} {Q : Val → Sto → Prop}
end
end AL
namespace K26
open PySem PySem.Spec PyProof.Rows L2 G Th AL
open K37 (common_divisor_ common_divisor_B ratio_ ratio_B less_ less_B parted_ parted_B drift_of_ drift_of_B moves_into_ moves_into_B history_moves_ history_moves_B)


end K26
namespace G
open PySem PySem.Spec PyProof.Rows L2 LamX
end G
namespace G
open PySem PySem.Spec PyProof.Rows L2 LamX
theorem fly_up {B h h' : Heap} {l : List Env} {e : Addr} {Z : Obj → Prop} (x : HandSPX.FlyingZ B l e Z h) (k : ∀ b o, h.get? b = some o → h'.get? b = some o) : HandSPX.FlyingZ B l e Z h' := by
  obtain ⟨st, nb, ff, oe, vs, T, oT, ts, q1, q2, q3, q4, q5, q6, q7, q8⟩ := x
  exact ⟨fun b o e => k b o (st b o e), nb, ff.of_keeps fun b o e _ => ⟨o, k b o e, rfl⟩, oe, vs, T, oT, ts, k _ _ q1, q2, q3, q4, q5, q6, k _ _ q7, q8⟩

def TestsY (X : Cx) (test : Expr) (ok : Value → Prop) : Prop := ∀ (a : Addr) (pn : List (Addr × Obj)) (σ : L2.St) (H : Hp) (s : Shared) (cls : Value) (Q : Bool → Shared → Prop) (E E' : Value → Shared → Prop),
  Inv (X.suite a pn) [] σ H s → PySem.W.Looks (model X.prog X.w) s.heap (typeOf (.ref a)) cls → ok cls → (∀ h', (∀ b o, s.heap.get? b = some o → h'.get? b = some o) → Q true { s with heap := h' }) →
    wpAny (model X.prog X.w) (X.A.mark (some (.ref a))) (eval test X.env) (fun c s₁ => wpAny (model X.prog X.w) (X.A.mark (some (.ref a))) (excMatches (.ref a) c) Q E' s₁) E s
def wFst (ok : Value → Prop) (i : Nat) (ts : Addr → Value → Option Addr → TS) (D : Ends) : WX := fun cls d σ H => ok cls ∧ ∀ a, H a = none →
  ts a cls d { nx := fun σ' H' => D.nx (σ'.set i none) H', rt := D.rt, bk := fun σ' H' => D.bk (σ'.set i none) H', ct := fun σ' H' => D.ct (σ'.set i none) H' } (σ.set i (some (.ref a))) H
theorem ps_try_fst {X : Cx} {n : Str} {i : Nat} {test : Expr} {body suite : List Stmt} {b₀ : Stmt} {more : List ExceptHandler} {pos pos' : Pos} {tb : WX → TS} {ts : Addr → Value → Option Addr → TS} {ok : Value → Prop}
    (hs : X.stack = X.env :: X.outer) (hf : X.env.frame = some X.env.locals) (hN : X.N.Nodup) (hi : X.N[i]? = some n) (hln : X.env.kindOf n = some .local) (ht : TestsY X test ok)
    (hb : ∀ (W : WX) (pn : List (Addr × Obj)) (xe : Value → Shared → Prop), Takes (X.tr pn xe) W → PassesOwn (model X.prog X.w) X.A X.env xe → PSs (X.tr pn xe) body (tb W))
    (hsu : ∀ (a : Addr) (oe : Obj) (cls : Value) (d : Option Addr) (pn : List (Addr × Obj)), Zc cls d oe → (∃ vs, oe.data = .fields vs) → PSs (X.suite a ((a, oe) :: pn)) (b₀ :: suite) (ts a cls d)) :
    PS X (.Try body (.ExceptHandler (some test) (some n) (b₀ :: suite) pos' :: more) [] [] pos) (fun D σ H => tb (wFst ok i ts D) D σ H) := by
  constructor
  intro pins s σ H D I hyp
  have okX := I.ok
  have fr : X.A.frames = some (X.env :: X.outer) := by rw [okX.frames, hs]
  refine wpAny_Try_except (wpAny_mono ((hb (wFst ok i ts D) (X.pn ++ pins) (fun e s₁ => wpAny (model X.prog X.w) X.A (noteFrame e X.env) (fun _ s₂ => wpAny (model X.prog X.w) X.A (setFlight e none) (fun _ s₃ =>
    wpAny (model X.prog X.w) X.A (handleBy e X.env (.ExceptHandler (some test) (some n) (b₀ :: suite) pos' :: more)) (SP X pins D) X.xe s₃) X.xe s₂) X.xe s₁) ?_ PassesOwn.looking).run [] s σ H D (I.toTry _) hyp) ?_ fun e s1 z => z)
  · rintro u s' ⟨a, B, sI, pins', σ', H', cls, d, rfl, J0, nb, up, sky, na, os, ag, yes, sui⟩
    have J : Inv X pins σ' H' sI := J0.ofTry okX
    show wpAny (model X.prog X.w) X.A (noteFrame (.ref a) X.env) _ _ _
    refine Sky.land Zc.steady fr hf (by rw [← hs]; exact sky) fun h3 fly up3 => ?_
    have J3 : Inv X pins σ' H' { s' with heap := h3 } := J.landed nb fly.1 (up.trans up3) os ag
    obtain ⟨oe, vs, at3, z3, dat3⟩ := fly.there
    have far : a ∉ frs (X.env :: X.outer) := by
      intro hm
      obtain ⟨_, o', e', hnf⟩ := fly.2.2.1.mem hm
      rw [at3] at e'
      cases e'
      exact hnf _ dat3
    have nL : a ≠ X.env.locals := fun z => far (List.mem_filterMap.mpr ⟨X.env, List.mem_cons_self, by rw [hf, z]⟩)
    have nF : a ∉ X.fs := by
      intro hm
      obtain ⟨e, he, q⟩ := List.mem_filterMap.mp hm
      exact far (List.mem_filterMap.mpr ⟨e, List.mem_cons_of_mem _ he, q⟩)
    refine wpAny_handleBy_cons (codeAny_handlers_test (ht a _ σ' H' { s' with heap := h3 } cls _ _ _ (J3.suite at3 dat3 na nL nF) (fun A Q E s k q => wpAny_typeOf_ref (k _ _ at3) (by rw [z3.1]; exact q)) yes ?_)) (by intro q; cases q)
    intro h4 k4
    refine codeAny_handlers_suite_as (HandSPX.lands_againZ (fly_up fly k4) fun h5 fly5 up5 => ?_)
    have J5 : Inv X pins σ' H' { s' with heap := h5 } := J.landed nb fly5.1 (((up.trans up3).trans (.of_keeps k4)).trans up5) os ag
    obtain ⟨oe5, vs5, at5, z5, dat5⟩ := fly5.there
    refine store_ok (X := X.suite a ((a, oe5) :: (X.pn ++ pins))) (v := .ref a) (J5.suite at5 dat5 na nL nF) hN hi (.inl hln) rfl (fun s6 S6 => ?_) (.inr hln)
    refine wpAny_mono ((hsu a oe5 cls d (X.pn ++ pins) z5 ⟨_, dat5⟩).run [] s6 _ H' _ S6 (sui a na)) ?_ fun _ _ z => False.elim z
    intro f s7 q
    have fin : ∀ {σ7 : L2.St} {H7 : Hp} {Q : Shared → Prop}, Inv (X.suite a ((a, oe5) :: (X.pn ++ pins))) [] σ7 H7 s7 → (∀ s8, Inv X pins (σ7.set i none) H7 s8 → Q s8) →
        wpAny (model X.prog X.w) X.A (do bindName X.env n .none; unbindBehindTheSuite X.env n pos') (fun _ s8 => Q s8) X.xe s7 := fun S7 hq => gone_ok (S7.unsuite okX) hN hi hln hq
    match f, q with
    | .next, ⟨σ7, H7, S7, q7⟩ => exact fin S7 fun s8 J8 => ⟨_, _, J8, q7⟩
    | .brk, ⟨σ7, H7, S7, q7⟩ => exact fin S7 fun s8 J8 => ⟨_, _, J8, q7⟩
    | .cont, ⟨σ7, H7, S7, q7⟩ => exact fin S7 fun s8 J8 => ⟨_, _, J8, q7⟩
    | .ret u, ⟨v7, σ7, H7, S7, r7, q7⟩ => exact fin S7 fun s8 J8 => ⟨_, _, _, J8, r7, q7⟩
  · intro f s1 q
    match f, q with
    | .next, ⟨σ', H', J, q⟩ => exact wpAny_execs_nil ⟨σ', H', J.ofTry okX, q⟩
    | .brk, ⟨σ', H', J, q⟩ => exact ⟨σ', H', J.ofTry okX, q⟩
    | .cont, ⟨σ', H', J, q⟩ => exact ⟨σ', H', J.ofTry okX, q⟩
    | .ret u, ⟨v, σ', H', J, r, q⟩ => exact ⟨v, σ', H', J.ofTry okX, r, q⟩
theorem tests_two {X : Cx} {x1 x2 : Str} {c1 c2 : Value} {p1 p2 tpos : Pos} {kk : Nat} (h1 : Names X x1 c1) (h2 : Names X x2 c2) : TestsY X (.Tuple [.Name x1 p1, .Name x2 p2] kk tpos) (fun cls => PySem.W.exmAny X.K cls [c1, c2] = some true) := by
  intro a pn σ H s cls Q E E' I LT yes q
  have nm : ∀ {x : Str} {c : Value} {p : Pos} {Q : Value → Shared → Prop} {E : Value → Shared → Prop}, Names X x c → Q c s → wpAny (model X.prog X.w) (X.A.mark (some (.ref a))) (eval (.Name x p) X.env) Q E s := by
    intro x c p Q E hc z
    obtain ⟨hg, hdbg, hm | ⟨hm, hv, hnn⟩⟩ := hc
    · exact ld_glob (X := X.suite a pn) I hg hm z hdbg
    · exact ld_blt (X := X.suite a pn) I hg hm hv z hnn hdbg
  refine wpAny_Tuple (wpAny_items_cons (nm h1 (wpAny_items_cons (nm h2 (wpAny_items_nil ⟨by size_fits, ?_⟩)))))
  have up : ∀ b o, s.heap.get? b = some o → (s.heap.push { cls := .type "tuple", data := .seq [c1, c2].toArray }).get? b = some o := fun _ _ z => Heap.get?_push_of_some _ z
  exact (PySem.W.exm_tup2 (M := model X.prog X.w) (I.kIn.keeps up) (LT.keeps up) (Heap.get?_push_size s.heap rfl) yes).here (q _ up)
end G
namespace AL
open PySem PySem.Spec PyProof.Rows L2 G Th LamX
variable [TT]
end AL
namespace AL
open PySem PySem.Spec PyProof.Rows L2 G Th LamX
variable [TT]

def ClsV (mg : Str → Option Value) (C : Str) (v : V) : Prop := (∃ A, mg C = some (.ref A) ∧ v = .ref A) ∨ (mg C = none ∧ ∃ T, bootBuiltins C = some (.type T) ∧ v = .ty T)
def vOf : V → Value
  | .ref a => .ref a
  | .ty n => .type n
  | _ => .none
inductive ClsVs (mg : Str → Option Value) : List Str → List V → Prop
  | nil : ClsVs mg [] []
  | cons {C : Str} {v : V} {Cs : List Str} {vs : List V} : ClsV mg C v → ClsVs mg Cs vs → ClsVs mg (C :: Cs) (v :: vs)

structure KI (K : PySem.W.Frag) (mg : Str → Option Value) (c C : Str) (b : Bool) : Prop where
  ex : ∃ (D : Addr) (v : V), mg c = some (.ref D) ∧ ClsV mg C v ∧ PySem.W.kitOne K (.ref D) (vOf v) = some b
structure KTu (K : PySem.W.Frag) (mg : Str → Option Value) (c : Str) (Cs : List Str) (b : Bool) : Prop where
  ex : ∃ (D : Addr) (vs : List V), mg c = some (.ref D) ∧ ClsVs mg Cs vs ∧ PySem.W.kitAny K (.ref D) (vs.map vOf) = some b

structure KnE (K : PySem.W.Frag) (mg : Str → Option Value) (c : Str) : Prop where
  ex : ∃ D : Addr, mg c = some (.ref D) ∧ PySem.W.findIn K (.ref D) "__getattribute__" = some (some (.builtin "BaseException.__getattribute__")) ∧ PySem.W.findIn K (.ref D) "__getattr__" = some none ∧ PySem.W.subIn K (.ref D) (.type "BaseException") = some true ∧ PySem.W.hasDictIn K D = true ∧
    PySem.W.findIn K (.ref D) "__class__" = some (some (.builtin "object.__class__")) ∧ PySem.W.specialIn K (.builtin "object.__class__") "__get__" = some (some (.builtin "getset_descriptor.__get__")) ∧ PySem.W.takesIn K (.builtin "object.__class__") = some true ∧ PySem.W.mroIn K D (.type "object") = some true ∧
    ∀ n ∈ xfs c, PySem.W.findIn K (.ref D) n = some none
theorem ClsV.rel {mg : Str → Option Value} {C : Str} {v : V} (h : ClsV mg C v) {u : Value} (r : RelV v u) : u = vOf v := by
  rcases h with ⟨A, _, rfl⟩ | ⟨_, T, _, rfl⟩ <;> exact r
theorem ClsVs.rel {mg : Str → Option Value} : ∀ {Cs : List Str} {vs : List V} {us : List Value}, ClsVs mg Cs vs → Vals vs us → us = vs.map vOf
  | _, _, _, .nil, r => by cases r; rfl
  | _, _, _, .cons h t, r => by
    cases r with
    | cons a b => rw [h.rel a, t.rel b]; rfl
section
variable {X : Cx} {a D dd : Addr} {oe : Obj} {pn : List (Addr × Obj)}
def rIsX (K : PySem.W.Frag) (D a dd : Addr) : List V → Hp → VK → Prop := fun xs H Q => ∃ (c : V) (b : Bool), xs = [.ref a, c] ∧ (∃ fs, H dd = some (.xd fs)) ∧
  ((∃ cv, (∀ u, RelV c u → u = cv) ∧ PySem.W.kitOne K (.ref D) cv = some b) ∨ ∃ (p : Addr) (ys : List V) (cvs : List Value), c = .ref p ∧ H p = some (.tup ys) ∧ (∀ us, Vals ys us → us = cvs) ∧ PySem.W.kitAny K (.ref D) cvs = some b) ∧ Q (.bl b) H
open Classical in
noncomputable def eIsE (i : Nat) (xv : Val) (b : Bool) : EF := fun ρ S => if ρ[i]? = some (some xv) then some (.bl b, S) else none
open Classical in
noncomputable def eXf (i : Nat) (xv : Val) (v : Option Val) : EF := fun ρ S => if ρ[i]? = some (some xv) then v.map (·, S) else none
variable {c e : Str} {i : Nat} {vs : List Val} {p p1 p2 pos : Pos}
theorem pe_cls {C : Str} {v : V} (h : ClsV X.mg C v) (hg : Gl X C) (hn : C ≠ "__name__" := by decide) (hd : (C == ("__debug__" : Str)) = false := by decide) : PE X (.Name C pos) (tC v) := by
  rcases h with ⟨A, hm, rfl⟩ | ⟨hm, T, hv, rfl⟩
  · exact pe_glob hg hm rfl hd
  · exact pe_bltn hg hm hv rfl hn hd
def PAc (X : Cx) (es : List Expr) (Cs : List Str) : Prop := ∀ vs, ClsVs X.mg Cs vs → PA X es (fun _ H Q => Q vs H)
theorem pac_nil : PAc X [] [] := fun vs h => by
  cases h
  exact pa_w pa_nil fun σ H Q z => z
theorem pac_cons {C : Str} {Cs : List Str} {es : List Expr} (r : PAc X es Cs) (hg : Gl X C) (hs : starEach (.Name C pos :: es) X.env = (false, eval (.Name C pos) X.env) :: starEach es X.env := by rfl) (hn : C ≠ "__name__" := by decide) (hd : (C == ("__debug__" : Str)) = false := by decide) : PAc X (.Name C pos :: es) (C :: Cs) := fun vs h => by
  cases h with
  | cons a b => exact pa_w (pa_cons (pe_cls a hg hn hd) (r _ b) hs) fun σ H Q z => z
end
def clrR (i : Nat) : Res → Res
  | .nx ρ S => .nx (ρ.set i none) S
  | .bk ρ S => .bk (ρ.set i none) S
  | .ct ρ S => .ct (ρ.set i none) S
  | r => r
open Classical in
noncomputable def sTryE (cs : List Str) (i : Nat) (g : SF) (h : Str → List Val → Val → SF) : SF := fun ρ S => match g ρ S with
  | .rt v S' => match isX v with
    | none => .rt v S'
    | some (c, vs) => if z : (c ∈ cs ∧ vs.length = (xfs c).length) ∧ ∃ r, ∀ xv, clrR i (h c vs xv (ρ.set i (some xv)) S') = r then z.2.choose else .stuck
  | r => r
theorem us_of {K : PySem.W.Frag} {H : Hp} {m : List Addr} {f : Str → Option V} : ∀ {ns : List Str} {vs : List Val}, vs.length = ns.length → (∀ (i : Nat) (n : Str) (v : Val), ns[i]? = some n → vs[i]? = some v → ∃ u, f n = some u ∧ VR K H m u v) →
    ∃ us, VRs K H m us vs ∧ ∀ (i : Nat) (n : Str) (u : V), ns[i]? = some n → us[i]? = some u → f n = some u
  | [], [], _, _ => ⟨[], .nil, fun i n u h => by simp at h⟩
  | [], _ :: _, h, _ => by simp at h
  | _ :: _, [], h, _ => by simp at h
  | n :: ns, v :: vs, hl, h => by
    obtain ⟨us, h1, h2⟩ := us_of (ns := ns) (vs := vs) (by simpa using hl) fun i n v a b => h (i + 1) n v a b
    obtain ⟨u, h3, h4⟩ := h 0 n v rfl rfl
    refine ⟨u :: us, .cons h4 h1, fun i n' u' a b => ?_⟩
    cases i with
    | zero => cases a; cases b; exact h3
    | succ i => exact h2 i n' u' a b
theorem Post.clr {K : PySem.W.Frag} {m : List Addr} {H : Hp} {D : Ends} {r : Res} {i : Nat} (h : Post K m H D (clrR i r)) :
    Post K m H { nx := fun σ' H' => D.nx (σ'.set i none) H', rt := D.rt, bk := fun σ' H' => D.bk (σ'.set i none) H', ct := fun σ' H' => D.ct (σ'.set i none) H' } r := by
  cases r with
  | stuck => exact h
  | nx ρ S => exact fun m' σ' H' E R q => h m' _ H' E R (q.unset i none)
  | rt v S => exact h
  | bk ρ S => exact fun m' σ' H' E R q => h m' _ H' E R (q.unset i none)
  | ct ρ S => exact fun m' σ' H' E R q => h m' _ H' E R (q.unset i none)
theorem astryE {X : Cx} {n : Str} {i : Nat} {test : Expr} {st b₀ : Stmt} {suite : List Stmt} {more : List ExceptHandler} {pos pos' : Pos} {g : SF} {h : Str → List Val → Val → SF} {cs : List Str} {ok : Value → Prop}
    (hs : X.stack = X.env :: X.outer) (hf : X.env.frame = some X.env.locals) (hN : X.N.Nodup) (hi : X.N[i]? = some n) (hln : X.env.kindOf n = some .local) (ht : TestsY X test ok) (hok : ∀ c ∈ cs, ∃ D, X.mg c = some (.ref D) ∧ ok (.ref D))
    (hb : ∀ (W : WX) (pn : List (Addr × Obj)) (xe : Value → Shared → Prop), Takes (X.tr pn xe) W → AXw (X.tr pn xe) W st g)
    (hsu : ∀ (a : Addr) (oe : Obj) (D dd : Addr) (pn : List (Addr × Obj)) (c : Str) (vs : List Val), c ∈ cs → X.mg c = some (.ref D) → Zc (.ref D) (some dd) oe → (∃ vs, oe.data = .fields vs) → ASs (X.suite a ((a, oe) :: pn)) (b₀ :: suite) (h c vs (.exc a dd c vs))) :
    AS X (.Try [st] (.ExceptHandler (some test) (some n) (b₀ :: suite) pos' :: more) [] [] pos) (sTryE cs i g h) := by
  refine ps_w (ps_try_fst (ts := fun a cls d D σ H => ∃ c vs dd, c ∈ cs ∧ X.mg c = some cls ∧ d = some dd ∧ tS X.K (h c vs (.exc a dd c vs)) D σ H) (tb := fun W => tXs X.K X.mg W g) hs hf hN hi hln ht (fun W pn xe tk _ => pss_one (hb W pn xe tk)) ?_) fun D σ H z => ?_
  · intro a oe cls d pn hz hd
    refine ⟨fun pins s σ H D I q => ?_⟩
    obtain ⟨c, vs, dd, hc, hm, rfl, q⟩ := q
    obtain ⟨C, hC, _⟩ := hok c hc
    rw [hC] at hm
    cases hm
    exact (hsu a oe C dd pn c vs hc hC hz hd).run pins s σ H D I q
  · obtain ⟨m, ρ, S, R, r, q⟩ := z
    refine ⟨m, ρ, S, R, r, ?_⟩
    unfold sTryE at q
    cases e : g ρ S with
    | nx ρ1 S1 => rw [e] at q; exact q
    | stuck => rw [e] at q; exact q
    | bk ρ1 S1 => rw [e] at q; exact q
    | ct ρ1 S1 => rw [e] at q; exact q
    | rt v S1 =>
      rw [e] at q
      show PX _ _ _ _ _ _ _ _
      dsimp only at q
      cases hx : isX v with
      | none =>
        rw [hx] at q
        exact (PX.no hx).mpr q
      | some cv =>
        obtain ⟨c, vs⟩ := cv
        rw [hx] at q
        dsimp only at q
        split at q
        · next z =>
          obtain ⟨C, hC, hy⟩ := hok c z.1.1
          refine (PX.yes hx).mpr fun m1 H1 cls1 d E1 R1 x1 => ?_
          have hcl := x1.cl
          rw [hC] at hcl
          cases hcl
          obtain ⟨dd, fs, rfl, hdd, hfl⟩ := x1.fl
          obtain ⟨us, ru, hlk⟩ := us_of z.1.2 hfl
          refine ⟨hy, fun a _ => ⟨c, vs, dd, z.1.1, hC, rfl, m1, ρ.set i (some (.exc a dd c vs)), S1, R1, (r.kp (E1.kp R)).set (.exc hdd hlk ru) i, ?_⟩⟩
          refine Post.clr ?_
          rw [z.2.choose_spec (.exc a dd c vs)]
          exact q.ext E1
        · exact q.elim
section
variable {ρ : Rho} {S : Sto} {N : Rho → Sto → Prop} {R : Val → Sto → Prop} {Q : Val → Sto → Prop} {g : SF} {h : Str → List Val → Val → SF} {cs : List Str} {i : Nat} {fb : EF}
omit [TT] in
theorem ws_tryE (z : Ws (g ρ S) N fun v S' => (isX v = none ∧ R v S') ∨ ∃ c vs r, isX v = some (c, vs) ∧ c ∈ cs ∧ vs.length = (xfs c).length ∧ (∀ xv, clrR i (h c vs xv (ρ.set i (some xv)) S') = r) ∧ Ws r N R) : Ws (sTryE cs i g h ρ S) N R := by
  obtain ⟨z⟩ := z
  unfold sTryE
  cases e : g ρ S with
  | nx ρ1 S1 => rw [e] at z; exact ⟨z⟩
  | stuck => rw [e] at z; exact z.elim
  | bk ρ1 S1 => rw [e] at z; exact z.elim
  | ct ρ1 S1 => rw [e] at z; exact z.elim
  | rt v S1 =>
    rw [e] at z
    dsimp only
    rcases z with ⟨hx, z⟩ | ⟨c, vs, r, hx, hc, hl, hr, z⟩
    · rw [hx]
      exact ⟨z⟩
    · rw [hx]
      dsimp only
      have zz : (c ∈ cs ∧ vs.length = (xfs c).length) ∧ ∃ r, ∀ xv, clrR i (h c vs xv (ρ.set i (some xv)) S1) = r := ⟨⟨hc, hl⟩, r, hr⟩
      rw [dif_pos zz]
      have : zz.2.choose = r := (zz.2.choose_spec .non).symm.trans (hr .non)
      rw [this]
      exact z
omit [TT] in
theorem wIsE {xv : Val} {b : Bool} (h : ρ[i]? = some (some xv)) (q : Q (.bl b) S) : Wp (eIsE i xv b ρ S) Q := ⟨_, _, if_pos h, q⟩
omit [TT] in
theorem wXf {xv v : Val} (h : ρ[i]? = some (some xv)) (q : Q v S) : Wp (eXf i xv (some v) ρ S) Q := ⟨_, _, if_pos h, q⟩
end
end AL
namespace AL
open PySem PySem.Spec PyProof.Rows L2 G Th LamX
variable [TT]
theorem bools_eq : ∀ {bs : List Bool} {us : List Value}, Vals (bs.map V.bl) us → us = bs.map Value.bool
  | [], us, r => by cases r; rfl
  | b :: bs, us, r => by
    cases r with
    | cons a t =>
      have a : _ = Value.bool b := a
      rw [a, bools_eq t]
      rfl
def rCntB (K : PySem.W.Frag) : V → List V → Hp → VK → Prop := fun x xs H Q => ∃ (p : Addr) (bs : List Bool) (k : Bool), x = .ref p ∧ xs = [.bl k] ∧ SqL K H p (bs.map V.bl) ∧ Q (.int (bs.count k : Nat)) H
theorem mt_lcountB {X : Cx} : MtR X "list.count" (rCntB X.K) := by
  intro pins s σ H x xs v us Q I rx rxs h
  obtain ⟨p, bs, k, rfl, rfl, hs, q⟩ := h
  obtain rfl : v = Value.ref p := rx
  obtain ⟨u, rfl, ru⟩ := rxs.one
  obtain rfl : u = Value.bool k := ru
  obtain ⟨its, rv, ⟨⟨cls, dd, data, sl⟩, n, ho, hc, hdn, hd⟩, hlen⟩ := I.list hs
  simp only at hc hd
  subst hc hd
  have e := bools_eq rv
  subst e
  have cnt : (bs.map Value.bool).countP (isBoolOf k) = bs.count k := by
    clear hs hlen rv ho q hdn
    induction bs with
    | nil => rfl
    | cons b bs ih => rw [List.map_cons, List.countP_cons, List.count_cons, ih]; rfl
  refine call_meets PySem.F.slot_list_count ⟨_, ho, rfl⟩ PySem.F.entry_list_count (PySem.F.args_list_count_2 _ _) (SeqAt.list_countAt p (bs.map Value.bool).toArray n dd sl (.bool k) (isBoolOf k)) ⟨ho, fun y hy => ?_, ?_⟩
  · obtain ⟨b, _, rfl⟩ := List.mem_map.mp (show y ∈ bs.map Value.bool by simpa using hy)
    exact PySem.SeqAt.EqAt.bool_bool b k
  · rw [show (bs.map Value.bool).toArray.toList = bs.map Value.bool from rfl, cnt]
    exact ⟨.int (bs.count k : Nat), H, I.tok _, ⟨_, rfl⟩, q⟩
def gCntB : Val → List Val → Sto → Option (Val × Sto) := fun x xs S => match x, xs with
  | .ref n, [.bl k] => match S[n]? with
    | some (.lst vs) => (blsOf vs).map fun bs => (.int (bs.count k : Nat), S)
    | _ => none
  | _, _ => none
theorem VRs.bls {K : PySem.W.Frag} {H : Hp} {m : List Addr} : ∀ {us : List V} {bs : List Bool}, VRs K H m us (bs.map Val.bl) → us = bs.map V.bl
  | _, [], r => by cases r; rfl
  | _, b :: bs, r => by
    cases r with
    | cons a t =>
      cases a
      rw [VRs.bls t]
      rfl
theorem mCntB {K : PySem.W.Frag} : MtA K (rCntB K) gCntB := by
  intro m S H x xs v S' u us Q R ru rus e q
  unfold gCntB at e
  split at e
  · next n k =>
    split at e
    · next vs en =>
      obtain ⟨bs, h1, h2⟩ := Option.map_eq_some_iff.mp e
      cases h2
      cases ru with
      | ref ha =>
        obtain ⟨y, rfl, r1⟩ := rus.one_of
        cases r1
        obtain ⟨zs, hz, rz⟩ := R.ob _ _ _ en ha
        have rz : VRs K H m zs vs := rz
        rw [bls_eq h1] at rz
        rw [rz.bls] at hz
        exact ⟨_, bs, k, rfl, rfl, SqL.of hz, q m _ H (.refl _ _) R (.int _)⟩
    · cases e
  · cases e

def eNo : EF := fun _ _ => none
theorem aeNo {X : Cx} {e : Expr} : AE X e eNo := ⟨fun pins s σ H Q I h => by
  obtain ⟨_, _, _, _, _, _, _, z, _⟩ := h
  cases z⟩
omit [TT] in
theorem vCntB {S : Sto} {n : Nat} {k : Bool} {bs : List Bool} {Q : Val → Sto → Prop} (h : S[n]? = some (.lst (bs.map Val.bl))) (q : Q (.int (bs.count k : Nat)) S) : Wp (gCntB (.ref n) [.bl k] S) Q := ⟨_, _, by simp only [gCntB, h, bls_map, Option.map_some], q⟩
end AL
namespace K22
open PySem PySem.Spec PyProof.Rows L2 G Th AL
open K37 (common_divisor_ common_divisor_B ratio_ ratio_B less_ less_B parted_ parted_B drift_of_ drift_of_B moves_into_ moves_into_B history_moves_ history_moves_B)



end K22
namespace K28
open PySem PySem.Spec PyProof.Rows L2 G Th AL
open K37 (common_divisor_ common_divisor_B ratio_ ratio_B less_ less_B parted_ parted_B drift_of_ drift_of_B moves_into_ moves_into_B history_moves_ history_moves_B)




end K28
namespace AL
open PySem PySem.Spec PyProof.Rows L2 G Th

end AL
namespace K23
open PySem PySem.Spec PyProof.Rows L2 G Th AL
open K37 (common_divisor_ common_divisor_B ratio_ ratio_B less_ less_B parted_ parted_B drift_of_ drift_of_B moves_into_ moves_into_B history_moves_ history_moves_B)




end K23
namespace K08
open PySem PySem.Spec PyProof.Rows L2 G Th AL
open K37
end K08
namespace AL
open PySem PySem.Spec PyProof.Rows L2 G Th
variable [TT]

end AL
namespace K10
open PySem PySem.Spec PyProof.Rows L2 G Th AL
open K37 (common_divisor_ common_divisor_B ratio_ ratio_B less_ less_B parted_ parted_B drift_of_ drift_of_B moves_into_ moves_into_B history_moves_ history_moves_B)

end K10
namespace K33
open PySem PySem.Spec PyProof.Rows L2 G Th AL
open K37 (common_divisor_ common_divisor_B ratio_ ratio_B added_ added_B added_told_ added_told_B less_ less_B parted_ parted_B is_below_ is_below_B drift_of_ drift_of_B moves_into_ moves_into_B history_moves_ history_moves_B)





end K33
namespace K34
open PySem PySem.Spec PyProof.Rows L2 G Th AL
open K37 (common_divisor_ common_divisor_B ratio_ ratio_B added_ added_B added_told_ added_told_B less_ less_B parted_ parted_B is_below_ is_below_B greatest_of_ greatest_of_B drift_of_ drift_of_B moves_into_ moves_into_B history_moves_ history_moves_B)









end K34
namespace AL
open PySem PySem.Spec PyProof.Rows L2 G
variable [TT]

end AL
namespace K25
open PySem PySem.Spec PyProof.Rows L2 G Th AL
open K37 (common_divisor_ common_divisor_B ratio_ ratio_B added_ added_B less_ less_B parted_ parted_B is_below_ is_below_B drift_of_ drift_of_B moves_into_ moves_into_B history_moves_ history_moves_B)





end K25
namespace K47
open PySem PySem.Spec PyProof.Rows L2 G Th AL
open K37 (common_divisor_ common_divisor_B ratio_ ratio_B added_ added_B added_told_ added_told_B less_ less_B parted_ parted_B is_below_ is_below_B least_of_ least_of_B greatest_of_ greatest_of_B drift_of_ drift_of_B moves_into_ moves_into_B history_moves_ history_moves_B moved_end_ moved_end_B ends_told_ ends_told_B kept_pair_ kept_pair_B kept_pairs_ kept_pairs_B)
end K47
namespace K48
open PySem PySem.Spec PyProof.Rows L2 G Th AL
open K37 (common_divisor_ common_divisor_B is_below_ is_below_B least_of_ least_of_B greatest_of_ greatest_of_B)

end K48
namespace K39
open PySem PySem.Spec PyProof.Rows L2 G Th AL
open K37 (common_divisor_ common_divisor_B ratio_ ratio_B added_ added_B added_told_ added_told_B less_ less_B parted_ parted_B is_below_ is_below_B least_of_ least_of_B greatest_of_ greatest_of_B drift_of_ drift_of_B moves_into_ moves_into_B history_moves_ history_moves_B moved_end_ moved_end_B ends_told_ ends_told_B kept_pair_ kept_pair_B kept_pairs_ kept_pairs_B)

end K39
namespace K49
open PySem PySem.Spec PyProof.Rows L2 G Th AL
open K37
end K49
namespace K52
open PySem PySem.Spec PyProof.Rows L2 G Th AL
open K37
open K49
noncomputable def far_from_B : SF := (sSeq (sAsg (.tp [(.nm 2), (.nm 3)]) (eV 0))
    (sSeq (sIf (bOr (eT (eB gIs (eV 2) (eC .non))) (eT (eB gIs (eV 3) (eC .non)))) (sRet (eC .non)) sNil)
    (sRet (eDef greatest_of_ 1 (aCons (eLst (aCons (eDef less_ 2 (aCons (eV 1) (aCons (eV 2) aNil))) (aCons (eDef less_ 2 (aCons (eV 3) (aCons (eV 1) aNil))) aNil))) aNil)))))
noncomputable def far_from_ : FA := runF 4 far_from_B
noncomputable def far_off_B : SF := (sRet (eCall gTuple (aCons (eLc (.tp [(.nm 2), (.nm 3)]) (iZp (aCons (eDef kept_pairs_ 1 (aCons (eV 0) aNil)) (aCons (eV 1) aNil))) bYes (eDef far_from_ 2 (aCons (eV 2) (aCons (eV 3) aNil))) [2, 3]) aNil)))
noncomputable def far_off_ : FA := runF 4 far_off_B
end K52
namespace K51
open PySem PySem.Spec PyProof.Rows L2 G Th AL
open K37
open K49
open K52
end K51
namespace AL
open PySem PySem.Spec PyProof.Rows L2 G Th
variable [TT]
section
variable {X : Cx} {K : PySem.W.Frag}
end
end AL
namespace AL
open PySem PySem.Spec PyProof.Rows L2 G
variable [TT]
theorem def_none {P : Program} {w : World} {K : PySem.W.Frag} {mg : Str → Option Value} {base : Heap} {x qual : Str} {st : Stmt} {f : Addr} {fd : FuncData} {ps : List Str} {k : Nat}
    (F : Fun K x qual st f fd) (hb : Binds K fd ps []) (hm : mg x = some (.ref f)) : Def P w K mg base k x ps (fun _ _ => none) :=
  ⟨f, fd, ⟨fun _ _ _ _ h => h.1, fun _ _ _ _ _ _ _ _ _ _ _ _ _ _ h => by
    obtain ⟨_, _, _, _, _, _, _, _, e, _⟩ := h
    cases e⟩, hb, hm, F.kp⟩
end AL
namespace K50
open PySem PySem.Spec PyProof.Rows L2 G Th AL
open K37 (common_divisor_ common_divisor_B ratio_ ratio_B added_ added_B added_told_ added_told_B less_ less_B parted_ parted_B is_below_ is_below_B least_of_ least_of_B greatest_of_ greatest_of_B drift_of_ drift_of_B moves_into_ moves_into_B history_moves_ history_moves_B moved_end_ moved_end_B ends_told_ ends_told_B kept_pair_ kept_pair_B kept_pairs_ kept_pairs_B)



end K50
namespace K40
open PySem PySem.Spec PyProof.Rows L2 G Th AL
open K37 (common_divisor_ common_divisor_B ratio_ ratio_B added_ added_B added_told_ added_told_B less_ less_B parted_ parted_B is_below_ is_below_B least_of_ least_of_B greatest_of_ greatest_of_B drift_of_ drift_of_B moves_into_ moves_into_B history_moves_ history_moves_B moved_end_ moved_end_B ends_told_ ends_told_B kept_pair_ kept_pair_B kept_pairs_ kept_pairs_B)



end K40
namespace AL
open PySem PySem.Spec PyProof.Rows L2 G Th
end AL
namespace Od
open PySem PySem.Spec PyProof.Rows L2 SeqAt
end Od
namespace AL
open PySem PySem.Spec PyProof.Rows L2 G Th Od
variable [TT]
section
variable {X : Cx} {K : PySem.W.Frag}
end
end AL
namespace AL
open PySem PySem.Spec PyProof.Rows L2 G Th
end AL
namespace AL
open PySem PySem.Spec PyProof.Rows L2 G Th
section
variable [TT] {X : Cx} {K : PySem.W.Frag}
end
section
variable {ρ : Rho} {S : Sto}
variable {x y : Val} {i j : Str} {Q : Val → Sto → Prop}
end
end AL
namespace K55
open PySem PySem.Spec PyProof.Rows L2 G Th AL
open K57 (feedL_ feedL_B drawL_ drawL_B endsL_ endsL_B)
noncomputable def bentL_B (rc : FA) : SF := (sSeq (sIf (bAnd (eT (eU (gIsi "tuple") (eV 1))) (bAnd (eT (eB gNe (eV 1) (eTup aNil))) (eT (eB gGt (eDef drawL_ 2 (aCons (eV 0) (aCons (eC (.int 8)) aNil))) (eC (.int 0)))))) (sSeq (sPar [3, 4] (aCons (eDef drawL_ 2 (aCons (eV 0) (aCons (eCall gLen (aCons (eV 1) aNil)) aNil))) (aCons (eDef drawL_ 2 (aCons (eV 0) (aCons (eC (.int 8)) aNil))) aNil)))
    (sSeq (sAsg (.nm 2) (eLst (aCons (eB gAddT (eSl gSlA (eV 1) oN (oS (eV 3))) (eSl gSlA (eV 1) (oS (eB gAddT (eV 3) (eC (.int 1)))) oN)) (aCons (eB gAddT (eB gAddT (eSl gSlA (eV 1) oN (oS (eV 3))) (eSl gSlA (eV 1) (oS (eV 3)) (oS (eB gAddT (eV 3) (eC (.int 1)))))) (eSl gSlA (eV 1) (oS (eV 3)) oN)) (aCons (eU gRevT (eV 1)) (aCons (eCall gList (aCons (eV 1) aNil)) aNil))))))
    (sSeq (sIf (eT (eB gLt (eV 4) (eC (.int 4)))) (sRet (eB gIxA (eV 2) (eV 4))) sNil)
    (sRet (eB gAddT (eB gAddT (eSl gSlA (eV 1) oN (oS (eV 3))) (eTup (aCons (eDef rc 2 (aCons (eV 0) (aCons (eB gIxA (eV 1) (eV 3)) aNil))) aNil))) (eSl gSlA (eV 1) (oS (eB gAddT (eV 3) (eC (.int 1)))) oN)))))) sNil)
    (sSeq (sIf (bAnd (eT (eU (gIsi "int") (eV 1))) (bAnd (bNot (eT (eU (gIsi "bool") (eV 1)))) (eT (eB gGt (eDef drawL_ 2 (aCons (eV 0) (aCons (eC (.int 3)) aNil))) (eC (.int 0)))))) (sRet (eB gAddT (eV 1) (eB gIxA (eLst (aCons (eC (.int 1)) (aCons (eU gNeg (eC (.int 1))) (aCons (eC (.int 3)) aNil)))) (eDef drawL_ 2 (aCons (eV 0) (aCons (eC (.int 3)) aNil)))))) sNil)
    (sRet (eB gIxA (eLst (aCons (eC .non) (aCons (eC (.str "")) (aCons (eC (.str "a")) (aCons (eC (.str "zzz")) (aCons (eC (.int 0)) (aCons (eU gNeg (eC (.int 1))) (aCons (eC (.bl true)) (aCons (eC (.bl false)) (aCons (eB gPow (eC (.int 10)) (eC (.int 59))) (aCons (eTup aNil) (aCons (eLst aNil) (aCons (eTup (aCons (eC (.str "a")) (aCons (eC (.str "b")) aNil))) (aCons (eC (.str "toolongword")) aNil)))))))))))))) (eDef drawL_ 2 (aCons (eV 0) (aCons (eC (.int 13)) aNil)))))))
noncomputable def bentL_n : Nat → FA
  | 0 => fun _ _ => none
  | k + 1 => runF 5 (bentL_B (bentL_n k))
noncomputable def bentL_ : FA := bentL_n 8
end K55
namespace AL
open PySem PySem.Spec PyProof.Rows L2 G Th Od
variable [TT]
def pdW (p : Str × Str) : PyData := .tuple [.str p.1, .str p.2]
def vW (p : Str × Str) : Val := .tup [.str p.1, .str p.2]
def okW (p : Str × Str) : Bool := PyData.strOk p.1 && PyData.strOk p.2 && decide (p.1.cps.size ≤ 70) && decide (p.2.cps.size ≤ 70)
def wprs : List Val → Option (List (Str × Str))
  | [] => some []
  | .tup [.str a, .str b] :: vs => (wprs vs).map fun r => (a, b) :: r
  | _ => none
omit [TT] in
theorem wprs_map : ∀ ws : List (Str × Str), wprs (ws.map vW) = some ws
  | [] => rfl
  | p :: ws => by
    show ((wprs (ws.map vW)).map fun r => (p.1, p.2) :: r) = _
    rw [wprs_map ws]
    rfl
omit [TT] in
theorem wprs_eq : ∀ {vs : List Val} {ws : List (Str × Str)}, wprs vs = some ws → vs = ws.map vW
  | [], _, h => by cases h; rfl
  | v :: vs, ws, h => by
    unfold wprs at h
    split at h
    · next e => cases e
    · next a b vs' e =>
      cases e
      obtain ⟨r, h1, h2⟩ := Option.map_eq_some_iff.mp h
      subst h2
      rw [wprs_eq h1]
      rfl
    · cases h
section
variable {X : Cx} {K : PySem.W.Frag}
omit [TT] in
theorem same_pdW (p q : Str × Str) : same (pdW q) (pdW p) = decide (p = q) := by
  obtain ⟨a, b⟩ := p
  obtain ⟨c, d⟩ := q
  rw [Bool.eq_iff_iff]
  simp only [pdW, same, sameAll, Bool.and_true, Bool.and_eq_true, beq_iff_eq, decide_eq_true_eq, Prod.mk.injEq]
  exact ⟨fun h => ⟨h.1.symm, h.2.symm⟩, fun h => ⟨h.1.symm, h.2.symm⟩⟩
omit [TT] in
theorem count_nn (d : PyData) : ∀ ws : List PyData, 0 ≤ countIn d ws
  | [] => Int.le_refl 0
  | q :: ws => by
    have ih := count_nn d ws
    simp only [countIn]
    split <;> omega
omit [TT] in
theorem count_pdW (p : Str × Str) : ∀ ws : List (Str × Str), countIn (pdW p) (ws.map pdW) ≠ 0 ↔ p ∈ ws
  | [] => by simp [countIn]
  | q :: ws => by
    have ih := count_pdW p ws
    have nn := count_nn (pdW p) (ws.map pdW)
    rw [List.map_cons, List.mem_cons]
    simp only [countIn, same_pdW]
    by_cases c : p = q
    · simp only [c, decide_true, if_true, true_or, iff_true]
      rw [c] at nn
      omega
    · simp only [c, decide_false, Bool.false_eq_true, if_false, false_or]
      rw [Int.zero_add]
      exact ih
def rInW (K : PySem.W.Frag) (neg : Bool) : R2 := fun x y H Q => ∃ (p : Str × Str) (ws : List (Str × Str)), Dp K H x (pdW p) ∧ Dp K H y (.tuple (ws.map pdW)) ∧ okW p = true ∧ (ws.all okW = true ∧ ws.length ≤ 100) ∧ Q (.bl (if neg then !decide (p ∈ ws) else decide (p ∈ ws))) H
omit [TT] in
theorem lay_pdW {p : Str × Str} (h : okW p = true) : (pdW p).canLay0 = true := by
  unfold okW at h
  simp only [Bool.and_eq_true] at h
  show (PyData.strOk p.1 && (PyData.strOk p.2 && true)) = true
  rw [h.1.1.1, h.1.1.2]
  rfl
omit [TT] in
theorem wt_pdW {p : Str × Str} (h : okW p = true) : (pdW p).weight ≤ 200 := by
  unfold okW at h
  simp only [Bool.and_eq_true, decide_eq_true_eq] at h
  simp only [pdW, PyData.weight, PyData.weightAll]
  omega
omit [TT] in
theorem wts_pdW : ∀ {ws : List (Str × Str)}, ws.all okW = true → PyData.weightAll (ws.map pdW) ≤ 201 * ws.length
  | [], _ => by simp [PyData.weightAll]
  | p :: ws, h => by
    rw [List.all_cons, Bool.and_eq_true] at h
    have h1 := wts_pdW h.2
    have h2 := wt_pdW h.1
    simp only [List.map_cons, PyData.weightAll, List.length_cons]
    omega
omit [TT] in
theorem lays_pdW : ∀ {ws : List (Str × Str)}, ws.all okW = true → PyData.canLayAll0 (ws.map pdW) = true ∧ PyData.depthAll (ws.map pdW) ≤ 3
  | [], _ => ⟨rfl, by simp [PyData.depthAll]⟩
  | p :: ws, h => by
    rw [List.all_cons, Bool.and_eq_true] at h
    obtain ⟨h1, h2⟩ := lays_pdW h.2
    refine ⟨?_, ?_⟩
    · show ((pdW p).canLay0 && PyData.canLayAll0 (ws.map pdW)) = true
      rw [lay_pdW h.1, h1]
      rfl
    · have : (pdW p).depth ≤ 3 := by simp [pdW, PyData.depth, PyData.depthAll]
      simp only [List.map_cons, PyData.depthAll]
      omega
theorem op_notInW (hu : X.A.units + 65 < cLine) : OpR X (compareOp .NotIn) (rInW X.K true) := by
  intro pins s σ H x y v u Q I rx ry h
  obtain ⟨p, ws, h1, h2, h3, h4, q⟩ := h
  obtain ⟨as, r1⟩ := Dp.reads I _ _ _ h1 rx
  obtain ⟨bs, r2⟩ := Dp.reads I _ _ _ h2 ry
  obtain ⟨l1, l2⟩ := lays_pdW h4.1
  have w1 := wt_pdW h3
  have w2 := wts_pdW h4.1
  have w3 := h4.2
  refine notIn_tuple_dataS r2 r1 ?_ ?_ hu (fun y hy => ?_) ⟨.bl _, H, I, rfl, ?_⟩
  · show (PyData.canLayAll0 (ws.map pdW) && decide ((PyData.tuple (ws.map pdW)).depth ≤ 64) && decide ((PyData.tuple (ws.map pdW)).weight ≤ 2 ^ 20)) = true
    rw [l1, decide_eq_true (by simp only [PyData.depth]; omega), decide_eq_true (by simp only [PyData.weight]; omega)]
    rfl
  · show ((pdW p).canLay0 && decide ((pdW p).depth ≤ 64) && decide ((pdW p).weight ≤ 2 ^ 20)) = true
    rw [lay_pdW h3, decide_eq_true (Nat.le_trans w1 (by decide))]
    rfl
  · obtain ⟨q, _, rfl⟩ := List.mem_map.mp hy
    rfl
  · rw [decide_eq_decide.mpr (count_pdW p ws)]
    exact q
def gInW (neg : Bool) : Val → Val → Sto → Option (Val × Sto) := fun x y S => match x, y with
  | .tup [.str a, .str b], .tup vs => match wprs vs with
    | some ws => if okW (a, b) = true ∧ (ws.all okW = true ∧ ws.length ≤ 100) then some (.bl (if neg then !decide ((a, b) ∈ ws) else decide ((a, b) ∈ ws)), S) else none
    | none => none
  | _, _ => none
omit [TT] in
theorem dVs_W : ∀ ws : List (Str × Str), dVs (ws.map vW) = ws.map pdW
  | [] => rfl
  | p :: ws => by
    show dV (vW p) :: dVs (ws.map vW) = _
    rw [dVs_W ws]
    rfl
omit [TT] in
theorem pure_W : ∀ ws : List (Str × Str), pureVs (ws.map vW) = true
  | [] => rfl
  | p :: ws => by
    show (pureV (vW p) && pureVs (ws.map vW)) = true
    rw [pure_W ws]
    rfl
theorem oInW {neg : Bool} : OpA K (rInW K neg) (gInW neg) := by
  intro m S H x y v S' u w Q R ru rw_ e q
  unfold gInW at e
  split at e
  · next a b vs =>
    split at e
    · next ws e1 =>
      split at e
      · next hc =>
        cases e
        have e2 := wprs_eq e1
        subst e2
        refine ⟨(a, b), ws, dV_dp (.tup [.str a, .str b]) _ ru rfl, ?_, hc.1, hc.2, q m _ H (.refl _ _) R (.bl _)⟩
        have := dV_dp (.tup (ws.map vW)) _ rw_ (by rw [pureV]; exact pure_W ws)
        rw [dV, dVs_W] at this
        exact this
      · cases e
    · cases e
  · cases e
theorem vInW {S : Sto} {Q : Val → Sto → Prop} {neg : Bool} {x y : Val} {p : Str × Str} {ws : List (Str × Str)} (hx : x = vW p) (hy : y = .tup (ws.map vW)) (h1 : okW p = true) (h2 : ∀ w ∈ ws, okW w = true) (hl : ws.length ≤ 100) (q : Q (.bl (if neg then !decide (p ∈ ws) else decide (p ∈ ws))) S) : Wp (gInW neg x y S) Q := by
  subst hx hy
  refine ⟨_, S, ?_, q⟩
  obtain ⟨a, b⟩ := p
  show gInW neg (.tup [.str a, .str b]) (.tup (ws.map vW)) S = _
  unfold gInW
  simp only [wprs_map]
  exact if_pos ⟨h1, List.all_eq_true.mpr h2, hl⟩
end
end AL
namespace AL
open PySem PySem.Spec PyProof.Rows L2 G Th LamX
variable [TT]
section
variable {X : Cx} {a D dd : Addr} {oe : Obj}
theorem call_isP {c : Str} (C : KnE X.K X.mg c) (hm : X.mg c = some (.ref D)) (hz : Zc (.ref D) (some dd) oe) (hf : ∃ vs, oe.data = .fields vs) (hp : (a, oe) ∈ X.pn) : CallR X (.builtin "isinstance") (rIsX X.K D a dd) := by
  obtain ⟨D', hm', k1, k2, k3, k4, k5, k6, k7, k8, _⟩ := C.ex
  rw [hm] at hm'
  cases hm'
  intro pins s σ H xs us Q I r h
  obtain ⟨cv0, b, rfl, ⟨fs, hdd⟩, alt, q⟩ := h
  obtain ⟨u1, u2, rfl, r1, r2⟩ : ∃ u1 u2, us = [u1, u2] ∧ RelV (.ref a) u1 ∧ RelV cv0 u2 := by
    cases r with
    | cons x y =>
      cases y with
      | cons y z =>
        cases z
        exact ⟨_, _, rfl, x, y⟩
  obtain rfl : u1 = Value.ref a := r1
  obtain ⟨at_, _⟩ := I.pin (a, oe) (List.mem_append_left _ hp)
  obtain ⟨vs, dat⟩ := hf
  obtain ⟨mA, hns, _⟩ := (show ObjOk X.prog X.w H s.heap dd (.xd fs) from I.hok dd _ hdd)
  obtain ⟨od, ho, _⟩ := lookIn_ns hns
  have J : PySem.W.InstAt s.heap a oe D (some od) := ⟨at_, hz.1, by unfold PySem.W.notCls; rw [dat] <;> rfl, by rw [hz.2]; exact ho⟩
  have cl : (PySem.W.clsIn X.K D).isSome = true := by
    obtain ⟨cd, hc, _⟩ := PySem.W.any_some k4
    rw [hc]
    rfl
  have kx := PySem.W.kitx_exc (K := X.K) (x := a) (ox := oe) (od := some od) cl k1 k2 k3 k5 k6 k7 k8
  rcases alt with ⟨cv, hcv, e⟩ | ⟨p, ys, cvs, rfl, hp, hys, e⟩
  · have := hcv _ r2
    subst this
    exact PySem.W.kia_one kx I.kIn J e (fun z => nomatch z) fun tk => ⟨.bl b, H, I.kept (t' := tk) fun _ _ z => z, rfl, q⟩
  · obtain rfl : u2 = Value.ref p := r2
    obtain ⟨_, its, rv, ot, o1, o2, o3, o4⟩ := (show ObjOk X.prog X.w H s.heap p (.tup ys) from I.hok p _ hp)
    have := hys _ rv
    subst this
    obtain ⟨oc, od', oda, osl⟩ := ot
    dsimp only at o2 o3 o4
    subst o2
    first
      | (subst o3; exact PySem.W.kia_tup kx I.kIn J o1 e (fun z => nomatch z) fun tk => ⟨.bl b, H, I.kept (t' := tk) fun _ _ z => z, rfl, q⟩)
      | (obtain ⟨n, rfl⟩ := o3; exact PySem.W.kia_tup kx I.kIn J o1 e (fun z => nomatch z) fun tk => ⟨.bl b, H, I.kept (t' := tk) fun _ _ z => z, rfl, q⟩)
      | (subst o4; exact PySem.W.kia_tup kx I.kIn J o1 e (fun z => nomatch z) fun tk => ⟨.bl b, H, I.kept (t' := tk) fun _ _ z => z, rfl, q⟩)
theorem pe_xfP {C : Addr} {cls : Value} {d : Option Addr} {e : Expr} {te : TE} {pos : Pos} {n : Str} (T : XfC X.K C) (hno : PySem.W.findIn X.K (.ref C) n = some none)
    (hz : Zc cls d oe) (hf : ∃ vs, oe.data = .fields vs) (hp : (a, oe) ∈ X.pn) (he : PE X e te) (hb : attributeBase e n X.env (eval e X.env) = eval e X.env := by rfl) :
    PE X (.Attribute e n pos) (tXf a cls d C n te) := by
  refine ⟨fun pins s σ H Q I h => ?_⟩
  refine attr_of hb (thn (he.run pins s σ H _ I h) fun u s1 hh => ?_)
  obtain ⟨x, H1, I1, rx, ex, ec, dd, fs, v, ed, ea, l, q⟩ := hh
  subst ex
  obtain rfl : u = Value.ref a := rx
  subst ec
  subst ed
  obtain ⟨ha, _⟩ := I1.pin (a, oe) (List.mem_append_left _ hp)
  obtain ⟨vs, hd⟩ := hf
  obtain ⟨mA, hns, hr⟩ := (show ObjOk X.prog X.w H1 s1.heap dd (.xd fs) from I1.hok dd _ ea)
  obtain ⟨od, ho, hl⟩ := lookIn_ns hns
  obtain ⟨u, hu, ru⟩ := RelO.some_of (v := v) (o := mA n) (by rw [← l]; exact hr n)
  have J : PySem.W.InstAt s1.heap a oe C (some od) := ⟨ha, hz.1, by unfold PySem.W.notCls; rw [hd] <;> rfl, by rw [hz.2]; exact ho⟩
  exact HandSPX.exc_get I1.kIn J T.ga T.gg T.exC (PySem.W.findObj_own T.hdC hno rfl (by rw [hl, hu])) (handed_of ru) ⟨v, H1, I1.tok _, ru, q⟩
variable {c e : Str} {i : Nat} {vs : List Val} {p p1 p2 pos : Pos}
theorem aisEP {C : Str} {b : Bool} (k : KI X.K X.mg c C b) (kc : KnE X.K X.mg c) (hm : X.mg c = some (.ref D)) (hz : Zc (.ref D) (some dd) oe) (hf : ∃ vs, oe.data = .fields vs)
    (hg : Gl X "isinstance") (hi : X.mg "isinstance" = none) (hN : X.N[i]? = some e) (hv : Vis X.env.scope e) (hgC : Gl X C) (hp : (a, oe) ∈ X.pn := by exact List.mem_cons_self) (hd : (e == ("__debug__" : Str)) = false := by decide) (hcd : (e == ("__classdict__" : Str)) = false := by decide) (hnC : C ≠ "__name__" := by decide) (hdC : (C == ("__debug__" : Str)) = false := by decide)
    (hs : starEach [.Name e p1, .Name C p2] X.env = (false, eval (.Name e p1) X.env) :: starEach [.Name C p2] X.env := by rfl) (hpl : (backTo pos (starEach [.Name C p2] X.env)).any (·.1) = false := by rfl) :
    AE X (.Call (.Name "isinstance" p) [.Name e p1, .Name C p2] [] pos) (eIsE i (.exc a dd c vs) b) := by
  obtain ⟨D', v, hm', hv', e1⟩ := k.ex
  rw [hm] at hm'
  cases hm'
  have h2 : PE X (.Name C p2) (tC v) := pe_cls hv' hgC hnC hdC
  have h1 : PE X (.Name e p1) _ := pe_var (i := i) hN hv hd hcd
  refine pe_w (pe_callB (call_isP kc hm hz hf hp) hg hi (by decide +kernel) (pa_cons h1 (pa_cons h2 pa_nil) hs) (by decide) (by decide) hs hpl) fun σ H Q h => ?_
  obtain ⟨m, ρ, S, w, S', R, r, ee, q⟩ := h
  unfold eIsE at ee
  split at ee
  · next h0 =>
    cases ee
    obtain ⟨u, hu, ru⟩ := r.at_ i _ h0
    cases ru with
    | exc hdd hl rv => exact ⟨_, hu, v, b, rfl, ⟨_, hdd⟩, .inl ⟨vOf v, fun u => hv'.rel, e1⟩, q m _ H (.refl _ _) R (.bl b)⟩
  · cases ee
theorem aisEnP {Cs : List Str} {es : List Expr} {b : Bool} {kk : Nat} {p3 : Pos} (k : KTu X.K X.mg c Cs b) (kc : KnE X.K X.mg c) (hm : X.mg c = some (.ref D)) (hz : Zc (.ref D) (some dd) oe) (hf : ∃ vs, oe.data = .fields vs)
    (hg : Gl X "isinstance") (hi : X.mg "isinstance" = none) (hN : X.N[i]? = some e) (hv : Vis X.env.scope e) (hes : PAc X es Cs) (hp : (a, oe) ∈ X.pn := by exact List.mem_cons_self) (hd : (e == ("__debug__" : Str)) = false := by decide) (hcd : (e == ("__classdict__" : Str)) = false := by decide) (hl : Cs.length ≤ 1000 := by decide)
    (hs : starEach [.Name e p1, .Tuple es kk p3] X.env = (false, eval (.Name e p1) X.env) :: starEach [.Tuple es kk p3] X.env := by rfl) (hs2 : starEach [.Tuple es kk p3] X.env = (false, eval (.Tuple es kk p3) X.env) :: starEach [] X.env := by rfl) (hpl : (backTo pos (starEach [.Tuple es kk p3] X.env)).any (·.1) = false := by rfl) :
    AE X (.Call (.Name "isinstance" p) [.Name e p1, .Tuple es kk p3] [] pos) (eIsE i (.exc a dd c vs) b) := by
  obtain ⟨D', ws, hm', hv', e1⟩ := k.ex
  rw [hm] at hm'
  cases hm'
  have h2 : PE X (.Tuple es kk p3) _ := pe_tup (hes ws hv')
  have h1 : PE X (.Name e p1) _ := pe_var (i := i) hN hv hd hcd
  have len : ∀ {Cs : List Str} {ws : List V}, ClsVs X.mg Cs ws → ws.length = Cs.length := by
    intro Cs ws h
    induction h with
    | nil => rfl
    | cons _ _ ih => rw [List.length_cons, List.length_cons, ih]
  refine pe_w (pe_callB (call_isP kc hm hz hf hp) hg hi (by decide +kernel) (pa_cons h1 (pa_cons h2 pa_nil hs2) hs) (by decide) (by decide) hs hpl) fun σ H Q h => ?_
  obtain ⟨m, ρ, S, w, S', R, r, ee, q⟩ := h
  unfold eIsE at ee
  split at ee
  · next h0 =>
    cases ee
    obtain ⟨u, hu, ru⟩ := r.at_ i _ h0
    cases ru with
    | exc hdd hl' rv =>
      refine ⟨_, hu, ?_, fun tp htp => ?_⟩
      · rw [len hv']
        exact Nat.le_trans hl (by decide)
      · obtain ⟨R2, E2⟩ := R.tmp (o := .tup ws) htp
        refine ⟨.ref tp, b, rfl, ⟨_, (E2.kp R).xd _ _ hdd⟩, .inr ⟨tp, ws, _, rfl, upd_same, fun us => hv'.rel, e1⟩, q m _ _ E2 R2 (.bl b)⟩
  · cases ee
theorem axfP {j : Nat} {n : Str} {v : Option Val} (kc : KnE X.K X.mg c) (hm : X.mg c = some (.ref D)) (hz : Zc (.ref D) (some dd) oe) (hf : ∃ vs, oe.data = .fields vs) (hN : X.N[i]? = some e) (hv : Vis X.env.scope e) (hn : (xfs c)[j]? = some n) (hj : vs[j]? = v)
    (hp : (a, oe) ∈ X.pn := by exact List.mem_cons_self) (hd : (e == ("__debug__" : Str)) = false := by decide) (hcd : (e == ("__classdict__" : Str)) = false := by decide) (hb : attributeBase (.Name e p1) n X.env (eval (.Name e p1) X.env) = eval (.Name e p1) X.env := by rfl) :
    AE X (.Attribute (.Name e p1) n pos) (eXf i (.exc a dd c vs) v) := by
  obtain ⟨D', hm', k1, k2, k3, k4, _, _, _, _, k9⟩ := kc.ex
  rw [hm] at hm'
  cases hm'
  have h1 : PE X (.Name e p1) _ := pe_var (i := i) hN hv hd hcd
  refine pe_w (pe_xfP ⟨k1, k2, k3, k4⟩ (k9 n (List.mem_of_getElem? hn)) hz hf hp h1 hb) fun σ H Q h => ?_
  obtain ⟨m, ρ, S, w, S', R, r, ee, q⟩ := h
  unfold eXf at ee
  split at ee
  · next h0 =>
    obtain ⟨u, hu, ru⟩ := r.at_ i _ h0
    rw [← hj] at ee
    cases hvj : vs[j]? with
    | none => rw [hvj] at ee; cases ee
    | some vj =>
      rw [hvj] at ee
      cases ee
      cases ru with
      | exc hdd hl rv =>
        obtain ⟨uj, h1, h2⟩ := rv.get hvj
        exact ⟨_, hu, rfl, rfl, dd, _, uj, rfl, hdd, hl j n uj hn h1, q m _ H (.refl _ _) R h2⟩
  · cases ee
end

abbrev cxE (P : Program) (w : World) (K : PySem.W.Frag) (mg : Str → Option Value) (base : Heap) (N : List Str) (qual : Str) (scope : Scope) (f : Addr) (cd : Value) (A : Around) (outer : List Env) (s : Shared) (H : Hp) (a : Addr) (oe : Obj) : Cx :=
  L2H.cxH CX0 P w K mg base N qual scope f cd (A.mark (some (.ref a))) outer s H E0 (a, oe)

structure DefE (P : Program) (w : World) (K : PySem.W.Frag) (mg : Str → Option Value) (base : Heap) (k : Nat) (x : Str) (n : Nat) (c : Str) (B : List Val → Val → SF) : Prop where
  ex : ∃ (g : Addr) (st : Stmt) (fd : FuncData) (Ng : List Str) (y : Str), Fun K x x st g fd ∧ mg x = some (.ref g) ∧ L2.Binds K fd [y] [] ∧ FnScope Ng [y] (defScope st) ∧ Ng.length = n ∧
    ∀ (vs : List Val) (cdv : Value) (A : Around) (outer : List Env) (s : Shared) (H : Hp) (a D dd : Addr) (oe : Obj), A.guards = some [] → Room k (A.deeper (envOfC x (defScope st) s.heap.objs.size g cdv)) →
      mg c = some (.ref D) → Zc (.ref D) (some dd) oe → (∃ vs, oe.data = .fields vs) →
      ASs (cxE P w K mg base Ng x (defScope st) g cdv A outer s H a oe) (defBody st) (B vs (.exc a dd c vs))
open Classical in
noncomputable def eCalE (i : Nat) (xv : Val) (n : Nat) (B : SF) : EF := fun ρ S => if ρ[i]? = some (some xv) then runF n B [xv] S else none
theorem acalE {X : Cx} {a D dd : Addr} {oe : Obj} {pn : List (Addr × Obj)} {k n i : Nat} {x e c : Str} {vs : List Val} {B : List Val → Val → SF} {p p1 pos : Pos} (DE : DefE X.prog X.w X.K X.mg X.base k x n c B) (hgu : X.A.guards = some []) (hr : Room (k + 1) X.A) (hg : Gl X x)
    (hm : X.mg c = some (.ref D)) (hz : Zc (.ref D) (some dd) oe) (hf : ∃ vs, oe.data = .fields vs) (hN : X.N[i]? = some e) (hv : Vis X.env.scope e) (hd : (e == ("__debug__" : Str)) = false := by decide) (hcd : (e == ("__classdict__" : Str)) = false := by decide) (hdb : (x == ("__debug__" : Str)) = false := by decide)
    (hs : starEach [.Name e p1] X.env = (false, eval (.Name e p1) X.env) :: starEach [] X.env := by rfl) (hpl : (backTo pos (starEach [] X.env)).any (·.1) = false := by rfl) :
    AE (X.suite a ((a, oe) :: pn)) (.Call (.Name x p) [.Name e p1] [] pos) (eCalE i (.exc a dd c vs) n (B vs (.exc a dd c vs))) := by
  obtain ⟨g, st, fd, Ng, y, F, hmx, hb, Sg, hn, hB⟩ := DE.ex
  have hk := F.kp
  obtain ⟨oc, od, kV, doc, pm, an, cdv, ct, osl, rfl, lk, hcd'⟩ := F.ex
  subst hn
  have h1 : PE (X.suite a ((a, oe) :: pn)) (.Name e p1) _ := pe_var (X := X.suite a ((a, oe) :: pn)) (i := i) hN hv hd hcd
  constructor
  intro pins s σ H Q I h
  obtain ⟨m, ρ, S, v, S', R, r, ee, q⟩ := h
  unfold eCalE at ee
  split at ee
  rotate_left
  · cases ee
  next h0 =>
  obtain ⟨u0, hu0, ru0⟩ := r.at_ i _ h0
  obtain rfl : u0 = .ref a := by cases ru0; rfl
  refine wpAny_Call_Name_kw (ld_glob I hg hmx ?_ hdb)
  refine PySem.W.callWith_K (h₀ := X.base) I.ok.mod.kin hk (thn ((pa_cons h1 pa_nil hs).run pos pins s σ H (fun us H1 => us = [.ref a] ∧ H1 = H) I ⟨.ref a, hu0, rfl, rfl⟩) fun us s1 z => ?_) hs hpl
  obtain ⟨ws, H1, I1, rv, rfl, rfl⟩ := z
  refine ⟨I1.kIn, ?_⟩
  have P1 := I1.pin (a, oe) (List.mem_append_left _ List.mem_cons_self)
  have hpin : L2H.PinOk X.stack H1 s1 (a, oe) := ⟨P1.1, P1.2.1, fun hm => (List.mem_cons.mp (I1.stkSub a hm)).elim P1.2.2.1 P1.2.2.2.1, P1.2.2.2.2⟩
  have e0 := I1.env0
  have up : ∀ b o, X.base.get? b = some o → s1.heap.get? b = some o := fun b o e => (e0.bs b o e).1
  have KX : X.K.In s1.heap := e0.mod.kin.keeps up
  have b1 := hb s1 us I1.kIn (by rw [List.append_nil, ← rv.length]; rfl)
  rw [List.append_nil] at b1
  show wpAny _ _ (call (.ref g) us) _ _ _
  refine wpAny_call (codeAny_mono (R := CR CX0 X.stack X.prog X.w H1 s1 Q E0) ?_ ?_)
  · refine codeAny_call_function hr.depth (KX _ _ lk) rfl Sg.co Sg.gen rfl (PySem.W.codeRec_of KX hcd') (b1 _ _ _ _ ?_)
    refine wpAny_newFunctionEnv_cells Sg.kind ?_ ?_
    · rintro ⟨n, v⟩ hy
      cases Sg.par n (List.of_mem_zip hy).1 with
      | inl q => exact .inl q
      | inr q => exact .inr ⟨q, PySem.W.cellsFrom_some _ _ _ (.inl q)⟩
    · rintro env rfl s2 x2
      refine ⟨(e0.mod.nolimit.keeps up).keeps x2.toInCall.keep, codeAny_func ?_⟩
      have J := L2H.inv_startH (CX := CX0) (E := E0) (cd := cdv) Sg hpin e0 rfl rv x2
      have hq : tS X.K (B vs (.exc a dd c vs)) { nx := fun _ H' => Q .non H', rt := Q } (L2.start Ng [.ref a]) H1 := by
        refine ⟨m, _, S, R, rho_start (vs := [.exc a dd c vs]) Ng (.cons ru0 .nil), ?_⟩
        unfold runF at ee
        split at ee
        · next v' S1 e1 =>
          cases ee
          rw [e1]
          exact q
        · next v' S1 e1 =>
          cases ee
          rw [e1]
          exact fun m' σ' H' E' R' r' => q m' .non H' E' R' .non
        · cases ee
      refine wpAny_mono ((hB vs cdv X.A X.stack s1 H1 a D dd oe hgu (hr.deeper _) hm hz hf).run [] s2 (L2.start Ng [.ref a]) H1 _ J hq) ?_ (fun e s' hs => hs)
      intro fl s' hs
      match fl, hs with
      | .ret u, ⟨v, σ', H', J, rv, q⟩ => exact ⟨v, H', J.os, J.bare, J.base, J.hok, rv, q⟩
      | .next, ⟨σ', H', J, q⟩ => exact ⟨.non, H', J.os, J.bare, J.base, J.hok, rfl, q⟩
      | .brk, ⟨_, _, _, q⟩ => exact False.elim q
      | .cont, ⟨_, _, _, q⟩ => exact False.elim q
  · intro res s' cc
    match res, cc with
    | .error _, cc => exact False.elim cc
    | .ok (.ret _), cc => exact I1.after cc
    | .ok .next, cc => exact False.elim cc
    | .ok .brk, cc => exact False.elim cc
    | .ok .cont, cc => exact False.elim cc

theorem defe_mk {P : Program} {w : World} {K : PySem.W.Frag} {mg : Str → Option Value} {base : Heap} {k : Nat} {x y c : Str} {n : Nat} {B : List Val → Val → SF} {g : Addr} {st : Stmt} {fd : FuncData} {Ng : List Str}
    (F : Fun K x x st g fd) (Sg : FnScope Ng [y] (defScope st)) (hb : L2.Binds K fd [y] []) (hm : mg x = some (.ref g))
    (body : ∀ (vs : List Val) (cdv : Value) (A : Around) (outer : List Env) (s : Shared) (H : Hp) (a D dd : Addr) (oe : Obj), A.guards = some [] → Room k (A.deeper (envOfC x (defScope st) s.heap.objs.size g cdv)) →
      mg c = some (.ref D) → Zc (.ref D) (some dd) oe → (∃ vs, oe.data = .fields vs) →
      ASs (cxE P w K mg base Ng x (defScope st) g cdv A outer s H a oe) (defBody st) (B vs (.exc a dd c vs))) (hn : Ng.length = n := by rfl) : DefE P w K mg base k x n c B :=
  ⟨g, st, fd, Ng, y, F, hm, hb, Sg, hn, body⟩
omit [TT] in
theorem hu_e {k : Nat} {A : Around} {env : Env} {h : Option Value} (hr : Room k (A.deeper env)) : ((A.mark h).deeper env).units + 1 < cLine := by
  have z : (A.deeper env).units + 1 < cLine := hu_of hr
  exact z
end AL
namespace K64
open PySem PySem.Spec PyProof.Rows L2 G Th AL
open K57 (feedL_ feedL_B drawL_ drawL_B)
open K62 (ring_from_ ring_from_B follow_ring_ follow_ring_B)
open K63 (pairsL_ pairsL_B ringL_ ringL_B)
open K55 (bentL_ bentL_B bentL_n)
noncomputable def lets_follow_ring_B : SF := (sSeq (sIf (bOr (bNot (eT (eU (gIsi "tuple") (eV 1)))) (bOr (eT (eB gEq (eCall gLen (aCons (eV 1) aNil)) (eC (.int 0)))) (bNot (eT (eCall gAll (aCons (eLc (.nm 3) (iSeq (eV 1)) bYes (eU (gIsi "str") (eV 3)) [3]) aNil)))))) (sRaise "NoPaper" (aCons (eC (.str "shape")) (aCons (eU gNeg (eC (.int 1))) aNil))) sNil)
    (sSeq (sFor (.tp [(.nm 2), (.nm 3)]) (iEn (aCons (eV 1) aNil)) (sIf (eT (eB (gIn false) (eV 3) (eSl gSlA (eV 1) oN (oS (eV 2))))) (sRaise "NoPaper" (aCons (eC (.str "twice")) (aCons (eV 2) aNil))) sNil))
    (sSeq (sFor (.tp [(.nm 2), (.nm 3)]) (iEn (aCons (eV 1) aNil)) (sIf (eT (eB (gInW true) (eTup (aCons (eV 3) (aCons (eB gIxA (eV 1) (eB gMod (eB gAdd (eV 2) (eC (.int 1))) (eCall gLen (aCons (eV 1) aNil)))) aNil))) (eV 0))) (sRaise "NoPaper" (aCons (eC (.str "follows")) (aCons (eV 2) aNil))) sNil))
    (sRetN (eCall gLen (aCons (eV 1) aNil))))))
noncomputable def lets_follow_ring_ : FA := runF 4 lets_follow_ring_B
noncomputable def wordL_S_NoPaper (vs : List Val) (xv : Val) : SF := (sSeq (sAsg (.nm 1) (eLst (aCons (eIsE 0 xv true) (aCons (eIsE 0 xv false) (aCons (eIsE 0 xv false) aNil)))))
    (sSeq (sIf (bOr (eT (eB gNe (eMt isL gCntB (eV 1) (aCons (eC (.bl true)) aNil)) (eC (.int 1)))) (eT (eIsE 0 xv false))) (sRet (eTup (aCons (eC (.str "odd")) aNil))) sNil)
    (sSeq (sIf (bOr (eT (eB gNe (eIsE 0 xv true) (eB gIxA (eV 1) (eC (.int 0))))) (eT (eB gEq (eIsE 0 xv false) (eB gIxA (eV 1) (eC (.int 0)))))) (sRet (eTup (aCons (eC (.str "odd")) aNil))) sNil)
    (sSeq (sIf (bOr (eT (eB gNe (eIsE 0 xv true) (eB gIxA (eV 1) (eC (.int 0))))) (eT (eB gEq (eIsE 0 xv false) (eB gIxA (eV 1) (eC (.int 0)))))) (sRet (eTup (aCons (eC (.str "odd")) aNil))) sNil)
    (sSeq (sIf (eT (eB gIxA (eV 1) (eC (.int 0)))) (sRet (eTup (aCons (eC (.str "paper")) (aCons (eXf 0 xv vs[0]?) (aCons (eXf 0 xv vs[1]?) aNil))))) sNil)
    (sRet (eIf (eT (eB gIxA (eV 1) (eC (.int 1)))) (eTup (aCons (eC (.str "house")) (aCons eNo aNil))) (eTup (aCons (eC (.str "link")) (aCons eNo aNil))))))))))
noncomputable def oughtL_B : SF := (sSeq (sIf (bOr (bNot (eT (eU (gIsi "tuple") (eV 1)))) (bOr (eT (eB gEq (eV 1) (eTup aNil))) (eT (eB gNe (eLc (.nm 4) (iSeq (eV 1)) (bNot (eT (eU (gIsi "str") (eV 4)))) (eV 4) [4]) (eLst aNil))))) (sRet (eTup (aCons (eC (.str "paper")) (aCons (eC (.str "shape")) (aCons (eU gNeg (eC (.int 1))) aNil))))) sNil)
    (sSeq (sFor (.nm 2) (iRg1 (aCons (eCall gLen (aCons (eV 1) aNil)) aNil)) (sIf (eT (eB (gIn false) (eB gIxA (eV 1) (eV 2)) (eSl gSlA (eV 1) oN (oS (eV 2))))) (sRet (eTup (aCons (eC (.str "paper")) (aCons (eC (.str "twice")) (aCons (eV 2) aNil))))) sNil))
    (sSeq (sAsg (.nm 3) (eCall gDictP (aCons (eV 0) aNil)))
    (sSeq (sFor (.nm 2) (iRg1 (aCons (eCall gLen (aCons (eV 1) aNil)) aNil)) (sIf (bOr (eT (eB (gIn true) (eB gIxA (eV 1) (eV 2)) (eV 3))) (eT (eB gNe (eB gIxA (eV 3) (eB gIxA (eV 1) (eV 2))) (eB gIxA (eV 1) (eB gMod (eB gAdd (eV 2) (eC (.int 1))) (eCall gLen (aCons (eV 1) aNil))))))) (sRet (eTup (aCons (eC (.str "paper")) (aCons (eC (.str "follows")) (aCons (eV 2) aNil))))) sNil))
    (sRet (eTup (aCons (eC (.str "told")) (aCons (eCall gLen (aCons (eV 1) aNil)) aNil))))))))
noncomputable def oughtL_ : FA := runF 5 oughtL_B
noncomputable def saidL_S_NoPaper (vs : List Val) (xv : Val) : SF := (sAsg (.nm 2) (eCalE 3 xv 2 (wordL_S_NoPaper vs xv)))
noncomputable def saidL_H (c : Str) (vs : List Val) (xv : Val) : SF := if c = "NoPaper" then saidL_S_NoPaper vs xv else sStuck
noncomputable def saidL_B : SF := (sSeq (sAsg (.nm 2) (eTup (aCons (eC (.str "odd")) aNil)))
    (sSeq (sTryE ["NoPaper"] 3 (sAsgX (.nm 2) (eTup1X (eC (.str "told")) (eDef lets_follow_ring_ 2 (aCons (eUnp (eV 0)) (aCons (eV 1) aNil))))) saidL_H)
    (sRet (eV 2))))
noncomputable def saidL_ : FA := runF 4 saidL_B
noncomputable def law_B : SF := (sSeq (sAsg (.nm 1) (eDef feedL_ 1 (aCons (eV 0) aNil)))
    (sSeq (sAsg (.nm 2) (eLst (aCons (eC .non) (aCons (eTup aNil) (aCons (eTup (aCons (eC (.str "a")) aNil)) (aCons (eLst (aCons (eC (.str "a")) aNil)) (aCons (eC (.str "a")) (aCons (eTup (aCons (eC (.str "a")) (aCons (eC (.int 1)) aNil))) (aCons (eTup (aCons (eC (.str "a")) (aCons (eC (.str "a")) aNil))) (aCons (eTup (aCons (eTup aNil) aNil)) aNil))))))))))
    (sSeq (sFor (.nm 3) (iRg1 (aCons (eC (.int 8)) aNil)) (sSeq (sPar [9, 10] (aCons (eDef pairsL_ 1 (aCons (eV 1) aNil)) (aCons (eCall gList (aCons (eV 2) aNil)) aNil)))
    (sSeq (sAsg (.nm 4) (eB gAdd (eLc (.nm 14) (iSeq (eUnp (eV 9))) bYes (eB gIxA (eV 14) (eC (.int 0))) [14]) (eLst (aCons (eC (.str "a")) aNil))))
    (sSeq (sAsg (.nm 5) (eDef ringL_ 1 (aCons (eV 9) aNil)))
    (sSeq (sIf (eT (eB gIsN (eV 5) (eC .non))) (sSeq (sAsg (.nm 11) (eDef drawL_ 2 (aCons (eV 1) (aCons (eCall gLen (aCons (eV 5) aNil)) aNil))))
    (sSeq (sAsg (.nm 10) (eB gAdd (eV 10) (eLst (aCons (eV 5) (aCons (eB gAddT (eSl gSlA (eV 5) (oS (eV 11)) oN) (eSl gSlA (eV 5) oN (oS (eV 11)))) (aCons (eU gRevT (eV 5)) (aCons (eSl gSlA (eV 5) (oS (eC (.int 1))) oN) (aCons (eB gAddT (eV 5) (eSl gSlA (eV 5) oN (oS (eC (.int 1))))) aNil))))))))
    (sAsg (.nm 10) (eB gAdd (eV 10) (eLst (aCons (eDef bentL_ 2 (aCons (eV 1) (aCons (eV 5) aNil))) (aCons (eDef bentL_ 2 (aCons (eV 1) (aCons (eB gAddT (eV 5) (eSl gSlA (eV 5) oN (oS (eC (.int 1))))) aNil))) aNil))))))) sNil)
    (sSeq (sFor (.nm 6) (iRg1 (aCons (eC (.int 4)) aNil)) (sExpr (eMt isL gApp (eV 10) (aCons (eCall gTuple (aCons (eLc (.nm 15) (iRg1 (aCons (eDef drawL_ 2 (aCons (eV 1) (aCons (eC (.int 4)) aNil))) aNil)) bYes (eB gIxA (eV 4) (eDef drawL_ 2 (aCons (eV 1) (aCons (eCall gLen (aCons (eV 4) aNil)) aNil)))) [15]) aNil)) aNil))))
    (sSeq (sFor (.nm 7) (iSeq (eV 10)) (sSeq (sPar [12, 13] (aCons (eCall gRepr (aCons (eTup (aCons (eUnp (eV 9)) (aCons (eV 7) aNil))) aNil)) (aCons (eDef oughtL_ 2 (aCons (eV 9) (aCons (eV 7) aNil))) aNil)))
    (sSeq (sIf (bOr (eT (eB gNe (eCall gRepr (aCons (eDef saidL_ 2 (aCons (eV 9) (aCons (eV 7) aNil))) aNil)) (eCall gRepr (aCons (eV 13) aNil)))) (eT (eB gNe (eCall gRepr (aCons (eTup (aCons (eUnp (eV 9)) (aCons (eV 7) aNil))) aNil)) (eV 12)))) (sRet (eC (.bl false))) sNil)
    (sIf (bAnd (eT (eB gEq (eB gIxA (eV 13) (eC (.int 0))) (eC (.str "told")))) (eT (eB gIs (eDef follow_ring_ 1 (aCons (eUnp (eV 9)) aNil)) (eC .non)))) (sRet (eC (.bl false))) sNil))))
    (sFor (.nm 8) (iSeq (eV 4)) (sIf (bAnd (eT (eB gIs (eV 5) (eC .non))) (eT (eB gEq (eB gIxA (eDef saidL_ 2 (aCons (eV 9) (aCons (eTup (aCons (eV 8) aNil)) aNil))) (eC (.int 0))) (eC (.str "told"))))) (sRet (eC (.bl false))) sNil)))))))))
    (sRet (eC (.bl true))))))
noncomputable def law_ : FA := runF 16 law_B
end K64
namespace K64
open PySem PySem.Spec PyProof.Rows L2 G Th AL
open K57 (feedL_ feedL_B drawL_ drawL_B)
open K62 (ring_from_ ring_from_B follow_ring_ follow_ring_B)
open K63 (pairsL_ pairsL_B ringL_ ringL_B)
open K55 (bentL_ bentL_B bentL_n)
def topS (i : Nat) : Stmt := PySem.Challenge.pw_ledclocks_k64_follow_rings_judged.main.body.getD i (.Pass ⟨0, 0, 0, 0⟩)
section
variable {P : Program} {w : World} {K : PySem.W.Frag} {mg : Str → Option Value} {base : Heap}
def ss_i_NoPaper : {s : Stmt // (clsB (topS 3)).getD 0 (.Pass ⟨0, 0, 0, 0⟩) = s} := by
  refine ⟨?l, ?h⟩
  case h =>
    conv => lhs; whnf
abbrev st_i_NoPaper : Stmt := ss_i_NoPaper.1
theorem sc_i_NoPaper : FnScope ["self", "word", "at"] ["self", "word", "at"] (defScope st_i_NoPaper) := ⟨rfl, rfl, rfl, by decide +kernel, rfl, by decide +kernel, by decide +kernel⟩
theorem kn_NoPaper {C fI : Addr} {fd : FuncData} (T : OexC K C) (iC : PySem.W.findIn K (.ref C) "__init__" = some (some (.ref fI))) (tI : PySem.W.typeIn K (.ref fI) = some (.type "function")) (hm : mg "NoPaper" = some (.ref C)) (F : Fun K "__init__" "NoPaper.__init__" st_i_NoPaper fI fd) (hb : Binds K fd ["self", "word", "at"] []) (n0 : PySem.W.findIn K (.ref C) "word" = some none) (n1 : PySem.W.findIn K (.ref C) "at" = some none) : KnX P w K mg base "NoPaper" :=
  ⟨C, fI, fd, T, iC, tI, hm, .inr ⟨"word", "at", rfl, by decide, init2 F sc_i_NoPaper T n0 n1 rfl (by first | exact Or.inl rfl | exact Or.inr (Or.inl rfl) | exact Or.inr (Or.inr rfl)) (by first | exact Or.inl rfl | exact Or.inr (Or.inl rfl) | exact Or.inr (Or.inr rfl)) (by first | exact Or.inl rfl | exact Or.inr (Or.inl rfl) | exact Or.inr (Or.inr rfl)) (by decide) (by decide) (by decide) (by decide), hb⟩⟩
def ss_lets_follow_ring_ : {s : Stmt // topS 14 = s} := by
  refine ⟨?l, ?h⟩
  case h =>
    conv => lhs; whnf
abbrev st_lets_follow_ring_ : Stmt := ss_lets_follow_ring_.1
abbrev sc_lets_follow_ring_N : List Str := ["pairs", "thing", "k", "name"]
abbrev sc_lets_follow_ring_S : Scope := defScope st_lets_follow_ring_
theorem sc_lets_follow_ring_ : FnScope ["pairs", "thing", "k", "name"] ["pairs", "thing"] (defScope st_lets_follow_ring_) := ⟨rfl, rfl, rfl, by decide +kernel, rfl, by decide +kernel, by decide +kernel⟩
theorem ok_lets_follow_ring_ {f : Addr} {fd : FuncData} (F : Fun K "lets_follow_ring" "lets_follow_ring" st_lets_follow_ring_ f fd) (hb : Binds K fd ["pairs", "thing"] []) (hm : mg "lets_follow_ring" = some (.ref f)) (x_NoPaper : KnX P w K mg base "NoPaper") (m_enumerate : mg "enumerate" = none) (m_len : mg "len" = none) (m_isinstance : mg "isinstance" = none) (m_tuple : mg "tuple" = none) (m_all : mg "all" = none) (m_str : mg "str" = none) : DefX P w K mg base 3 "lets_follow_ring" ["pairs", "thing"] lets_follow_ring_ :=
  ⟨f, fd, fn_aX F sc_lets_follow_ring_ (g := lets_follow_ring_B) fun cdv A outer s H Ek hg hr tk pw => (xsq (xsi (atw (awo (atn (atv (aisi (by rfl) m_isinstance (by rfl) m_tuple (by decide +kernel) (av 1)))) (awo (atc (op_eqA hr.units) oEq (acb call_lenA cLen (by rfl) m_len PySem.boot_len (aac (av 1) aan)) ai (nomark _)) (awo1 (atn (atv (acb (cr_all rfl) cAll (by rfl) m_all (by decide +kernel) (aac (alc (own := [("name", 3)]) rfl sc_lets_follow_ring_.nd (ais (av 1)) (blkOk_by (own := [("name", 3)]) (N := sc_lets_follow_ring_N) (sc := sc_lets_follow_ring_S) (by decide +kernel)) (by simp [Pat.slots, Pat.slotss]) (fun _ _ _ _ _ => (agn (i := 3) sc_lets_follow_ring_.nd rfl (.inl rfl))) (fun _ _ _ _ _ => ats0) (fun _ _ _ _ _ => (aisi (by rfl) m_isinstance (by rfl) m_str (by decide +kernel) (av 3)))) aan)))))))) (xs1 (asraise tk x_NoPaper (hr.mono (by decide)) rfl (by rfl) (aac astr (aac (aun un_neg oNeg ai) aan)))) xsn)
    (xsq (xsf pw rfl (aie (by rfl) m_enumerate (aac (av 1) aan)) (agt rfl (agl (agn (i := 2) sc_lets_follow_ring_.nd rfl (.inl rfl)) (agl (agn (i := 3) sc_lets_follow_ring_.nd rfl (.inl rfl)) agl0))) (xs1 (xsi (atin (hu_of hr) (av 3) (asl sl_B oSlA (av 1) aon (aos (av 2)))) (xs1 (asraise tk x_NoPaper (hr.mono (by decide)) rfl (by rfl) (aac astr (aac (av 2) aan)))) xsn)))
    (xsq (xsf pw rfl (aie (by rfl) m_enumerate (aac (av 1) aan)) (agt rfl (agl (agn (i := 2) sc_lets_follow_ring_.nd rfl (.inl rfl)) (agl (agn (i := 3) sc_lets_follow_ring_.nd rfl (.inl rfl)) agl0))) (xs1 (xsi (atc (op_notInW (hu65 hr)) oInW (atup (aac (av 3) (aac (aixA (hu_of hr) (av 1) (aop op_modN oMod (aop op_addA oAdd (av 2) ai) (acb call_lenA cLen (by rfl) m_len PySem.boot_len (aac (av 1) aan))) (fun _ _ => rfl) (fun _ _ => rfl)) aan))) (av 0) (by rfl)) (xs1 (asraise tk x_NoPaper (hr.mono (by decide)) rfl (by rfl) (aac astr (aac (av 2) aan)))) xsn)))
    (xs1 (xsr (acb call_lenA cLen (by rfl) m_len PySem.boot_len (aac (av 1) aan))))))), hb, hm, F.kp⟩
def ss_ring_from_ : {s : Stmt // topS 17 = s} := by
  refine ⟨?l, ?h⟩
  case h =>
    conv => lhs; whnf
abbrev st_ring_from_ : Stmt := ss_ring_from_.1
theorem sc_ring_from_ : FnScope ["leads", "name", "ring", "who"] ["leads", "name"] (defScope st_ring_from_) := ⟨rfl, rfl, rfl, by decide +kernel, rfl, by decide +kernel, by decide +kernel⟩
theorem ok_ring_from_ {f : Addr} {fd : FuncData} (F : Fun K "ring_from" "ring_from" st_ring_from_ f fd) (hb : Binds K fd ["leads", "name"] []) (hm : mg "ring_from" = some (.ref f)) (m_len : mg "len" = none) (m_tuple : mg "tuple" = none) : Def P w K mg base 1 "ring_from" ["leads", "name"] ring_from_ :=
  fn_a F sc_ring_from_ hb hm (g := ring_from_B) fun cdv A outer s H E hg hr => (asq (ass (i := 2) sc_ring_from_.nd rfl (.inl rfl) (alst (aac (av 1) aan)))
    (asq (asw PassesOwn.never (atc op_le oLe (acb call_lenA cLen (by rfl) m_len PySem.boot_len (aac (av 2) aan)) (acb call_lenA cLen (by rfl) m_len PySem.boot_len (aac (av 0) aan)) (nomark _)) (asq (ass (i := 3) sc_ring_from_.nd rfl (.inl rfl) (aget1 (hu_of hr) (av 0) (aixA (hu_of hr) (av 2) (aun un_neg oNeg ai) (fun _ _ => rfl) (fun _ _ => rfl)) ⟨rfl, rfl, rfl, rfl⟩))
    (asq (asi (atc op_isN oIs (av 3) an (nomark _)) (as1 (asr an)) asn)
    (asq (asi (atc (op_eqA hr.units) oEq (av 3) (av 1) (nomark _)) (as1 (asr (act call_tuple_of cTuple (by rfl) m_tuple (by decide +kernel) (aac (av 2) aan)))) asn)
    (as1 (asx (am PySem.F.plainAttrs_list PySem.F.slot_list_append PySem.F.type_list_append mt_append mApp tyL (av 2) (aac (av 3) aan))))))))
    (as1 (asr an))))
def ss_follow_ring_ : {s : Stmt // topS 16 = s} := by
  refine ⟨?l, ?h⟩
  case h =>
    conv => lhs; whnf
abbrev st_follow_ring_ : Stmt := ss_follow_ring_.1
abbrev sc_follow_ring_N : List Str := ["pairs", "leads", "name", "who", "ring"]
abbrev sc_follow_ring_S : Scope := defScope st_follow_ring_
theorem sc_follow_ring_ : FnScope ["pairs", "leads", "name", "who", "ring"] ["pairs"] (defScope st_follow_ring_) := ⟨rfl, rfl, rfl, by decide +kernel, rfl, by decide +kernel, by decide +kernel⟩
theorem ok_follow_ring_ {f : Addr} {fd : FuncData} (F : Fun K "follow_ring" "follow_ring" st_follow_ring_ f fd) (hb : Binds K fd ["pairs"] []) (hm : mg "follow_ring" = some (.ref f)) (d_ring_from_ : Def P w K mg base 1 "ring_from" ["leads", "name"] ring_from_) : Def P w K mg base 2 "follow_ring" ["pairs"] follow_ring_ :=
  fn_a F sc_follow_ring_ hb hm (g := follow_ring_B) fun cdv A outer s H E hg hr => (asq (asdc (own := [("name", 2), ("who", 3)]) (i := 1) rfl sc_follow_ring_.nd rfl rfl (sw_dc rfl rfl rfl (by decide +kernel)) (ais (av 0)) (blkOk_by (own := [("name", 2), ("who", 3)]) (N := sc_follow_ring_N) (sc := sc_follow_ring_S) (by decide +kernel)) (by simp [Pat.slots, Pat.slotss]) (fun _ _ _ _ _ => (agt rfl (agl (agn (i := 2) sc_follow_ring_.nd rfl (.inl rfl)) (agl (agn (i := 3) sc_follow_ring_.nd rfl (.inl rfl)) agl0)))) (fun _ _ _ _ _ => ats0) (fun _ _ _ _ _ => (av 2)) (fun _ _ _ _ _ => (av 3)))
    (asq (asf PassesOwn.never rfl (ais (av 0)) (agt rfl (agl (agn (i := 2) sc_follow_ring_.nd rfl (.inl rfl)) (agl (agn (i := 3) sc_follow_ring_.nd rfl (.inl rfl)) agl0))) (asq (ass (i := 4) sc_follow_ring_.nd rfl (.inl rfl) (acd d_ring_from_ hg (hr.mono (by decide)) (by rfl) (aac (av 1) (aac (av 2) aan))))
    (as1 (asi (atc op_notN oIsN (av 4) an (nomark _)) (as1 (asr (av 4))) asn))))
    (as1 (asr an))))
def ss_feedL_ : {s : Stmt // topS 19 = s} := by
  refine ⟨?l, ?h⟩
  case h =>
    conv => lhs; whnf
abbrev st_feedL_ : Stmt := ss_feedL_.1
theorem sc_feedL_ : FnScope ["_law_script"] ["_law_script"] (defScope st_feedL_) := ⟨rfl, rfl, rfl, by decide +kernel, rfl, by decide +kernel, by decide +kernel⟩
theorem ok_feedL_ {f : Addr} {fd : FuncData} (F : Fun K "_law_feed" "_law_feed" st_feedL_ f fd) (hb : Binds K fd ["_law_script"] []) (hm : mg "_law_feed" = some (.ref f)) (m_list : mg "list" = none) : Def P w K mg base 1 "_law_feed" ["_law_script"] feedL_ :=
  fn_a F sc_feedL_ hb hm (g := feedL_B) fun cdv A outer s H E hg hr => (as1 (asr (adsp (adp1 astr (act call_list_of cList (by rfl) m_list (by decide +kernel) (aac (asl sl_A oSl (av 0) aon (aos ai)) aan)) (adp1 astr ai (adp1 astr ai (adp1 astr ai adp0)))))))
def ss_drawL_ : {s : Stmt // topS 20 = s} := by
  refine ⟨?l, ?h⟩
  case h =>
    conv => lhs; whnf
abbrev st_drawL_ : Stmt := ss_drawL_.1
theorem sc_drawL_ : FnScope ["_law_feed_here", "_law_many", "_law_turn", "_law_at", "_law_cell", "_law_mixed", "_law_found"] ["_law_feed_here", "_law_many"] (defScope st_drawL_) := ⟨rfl, rfl, rfl, by decide +kernel, rfl, by decide +kernel, by decide +kernel⟩
theorem ok_drawL_ {f : Addr} {fd : FuncData} (F : Fun K "_law_draw" "_law_draw" st_drawL_ f fd) (hb : Binds K fd ["_law_feed_here", "_law_many"] []) (hm : mg "_law_draw" = some (.ref f)) (m_len : mg "len" = none) : Def P w K mg base 1 "_law_draw" ["_law_feed_here", "_law_many"] drawL_ :=
  fn_a F sc_drawL_ hb hm (g := drawL_B) fun cdv A outer s H E hg hr => (asq (ass (i := 2) sc_drawL_.nd rfl (.inl rfl) (aop op_addA oAdd (aixA (hu_of hr) (av 0) astr (fun _ _ => rfl) (fun _ _ => rfl)) ai))
    (asq (asuA (hu_of hr) (av 2) (av 0) astr)
    (asq (asi (atc op_gt oGt (aixA (hu_of hr) (av 0) astr (fun _ _ => rfl) (fun _ _ => rfl)) ai (nomark _)) (asq (ass (i := 6) sc_drawL_.nd rfl (.inl rfl) (aop op_modN oMod (aixA (hu_of hr) (av 0) astr (fun _ _ => rfl) (fun _ _ => rfl)) (av 1)))
    (asq (asuA (hu_of hr) (aop op_fdivW oDiv (aixA (hu_of hr) (av 0) astr (fun _ _ => rfl) (fun _ _ => rfl)) (av 1)) (av 0) astr)
    (as1 (asr (av 6))))) asn)
    (asq (ass (i := 3) sc_drawL_.nd rfl (.inl rfl) (aixA (hu_of hr) (av 0) astr (fun _ _ => rfl) (fun _ _ => rfl)))
    (asq (asuA (hu_of hr) (aop op_addA oAdd (av 3) ai) (av 0) astr)
    (asq (ass (i := 4) sc_drawL_.nd rfl (.inl rfl) ai)
    (asq (asi (atc (op_neA hr.units) oNe (aixA (hu_of hr) (av 0) astr (fun _ _ => rfl) (fun _ _ => rfl)) (alst aan) (nomark _)) (as1 (ass (i := 4) sc_drawL_.nd rfl (.inl rfl) (aixA (hu_of hr) (aixA (hu_of hr) (av 0) astr (fun _ _ => rfl) (fun _ _ => rfl)) (aop op_modN oMod (av 3) (acb call_lenA cLen (by rfl) m_len PySem.boot_len (aac (aixA (hu_of hr) (av 0) astr (fun _ _ => rfl) (fun _ _ => rfl)) aan))) (fun _ _ => rfl) (fun _ _ => rfl)))) asn)
    (asq (asi (atw (aw (atc op_ge oGe (av 4) (aop op_pow oPow ai ai) (nomark _)) (aw1 (atc op_lt oLt (av 3) (acb call_lenA cLen (by rfl) m_len PySem.boot_len (aac (aixA (hu_of hr) (av 0) astr (fun _ _ => rfl) (fun _ _ => rfl)) aan)) (nomark _))))) (asq (asuA (hu_of hr) (aop op_fdivW oDiv (av 4) (av 1)) (av 0) astr)
    (as1 (asr (aop op_modN oMod (av 4) (av 1))))) asn)
    (asq (ass (i := 5) sc_drawL_.nd rfl (.inl rfl) (aop op_modN oMod (aop op_pow oPow (aop op_addA oAdd (aop op_addA oAdd (aop op_modN oMod (av 4) ai) (aop op_mulW oMul ai (av 2))) ai) ai) ai))
    (asq (ass (i := 5) sc_drawL_.nd rfl (.inl rfl) (aop op_modN oMod (aop op_pow oPow (aop op_addA oAdd (av 5) (aop op_mulW oMul ai (av 2))) ai) ai))
    (as1 (asr (aop op_modN oMod (aop op_fdivW oDiv (av 5) ai) (av 1))))))))))))))
def ss_pairsL_ : {s : Stmt // topS 21 = s} := by
  refine ⟨?l, ?h⟩
  case h =>
    conv => lhs; whnf
abbrev st_pairsL_ : Stmt := ss_pairsL_.1
abbrev sc_pairsL_N : List Str := ["_law_feed_here", "_law_pool", "_law_names", "_law_some", "_law_name", "_law_k", "_law_pair"]
abbrev sc_pairsL_S : Scope := defScope st_pairsL_
theorem sc_pairsL_ : FnScope ["_law_feed_here", "_law_pool", "_law_names", "_law_some", "_law_name", "_law_k", "_law_pair"] ["_law_feed_here"] (defScope st_pairsL_) := ⟨rfl, rfl, rfl, by decide +kernel, rfl, by decide +kernel, by decide +kernel⟩
theorem ok_pairsL_ {f : Addr} {fd : FuncData} (F : Fun K "_law_pairs" "_law_pairs" st_pairsL_ f fd) (hb : Binds K fd ["_law_feed_here"] []) (hm : mg "_law_pairs" = some (.ref f)) (d_drawL_ : Def P w K mg base 1 "_law_draw" ["_law_feed_here", "_law_many"] drawL_) (m_sorted : mg "sorted" = none) (m_tuple : mg "tuple" = none) (m_range : mg "range" = none) (m_len : mg "len" = none) : Def P w K mg base 2 "_law_pairs" ["_law_feed_here"] pairsL_ :=
  fn_a F sc_pairsL_ hb hm (g := pairsL_B) fun cdv A outer s H E hg hr => (asq (ass (i := 1) sc_pairsL_.nd rfl (.inr rfl) (alst (aac astr (aac astr (aac astr (aac astr (aac astr (aac astr (aac astr (aac astr aan))))))))))
    (asq (ass (i := 2) sc_pairsL_.nd rfl (.inr rfl) (acb (call_sortedG rfl hr.units) cSortedG (by rfl) m_sorted (by decide +kernel) (aac (alc (own := [("_law_k", 5)]) rfl sc_pairsL_.nd (air1 (by rfl) m_range (aac (acd d_drawL_ hg (hr.mono (by decide)) (by rfl) (aac (av 0) (aac ai aan))) aan)) (blkOk_by (own := [("_law_k", 5)]) (N := sc_pairsL_N) (sc := sc_pairsL_S) (by decide +kernel)) (by simp [Pat.slots, Pat.slotss]) (fun _ _ _ _ _ => (agn (i := 5) sc_pairsL_.nd rfl (.inl rfl))) (fun _ _ _ _ _ => ats0) (fun _ _ _ _ _ => (am PySem.F.plainAttrs_list PySem.F.slot_list_pop PySem.F.type_list_pop mt_popAt mPop tyL (av 1) (aac (acd d_drawL_ hg (hr.mono (by decide)) (by rfl) (aac (av 0) (aac (acb call_lenA cLen (by rfl) m_len PySem.boot_len (aac (av 1) aan)) aan))) aan)))) aan)))
    (asq (aslc (own := [("_law_name", 4)]) (i := 3) rfl sc_pairsL_.nd rfl rfl (sw_true rfl rfl rfl (by decide +kernel)) (ais (av 2)) (blkOk_by (own := [("_law_name", 4)]) (N := sc_pairsL_N) (sc := sc_pairsL_S) (by decide +kernel)) (by simp [Pat.slots, Pat.slotss]) (fun _ _ _ _ _ => (agn (i := 4) sc_pairsL_.nd rfl (.inl rfl))) (fun _ _ _ _ _ => ats0) (fun _ _ _ _ _ => (atup (aac (av 4) (aac (aixA (hu_of hr) (aop op_addA oAdd (av 2) (alst (aac astr aan))) (acd d_drawL_ hg (hr.mono (by decide)) (by rfl) (aac (av 0) (aac (aop op_addA oAdd (acb call_lenA cLen (by rfl) m_len PySem.boot_len (aac (av 2) aan)) ai) aan))) (fun _ _ => rfl) (fun _ _ => rfl)) aan)))))
    (as1 (asr (act call_tupleP cTupP (by rfl) m_tuple (by decide +kernel) (aac (alc (own := [("_law_pair", 6)]) rfl sc_pairsL_.nd (ais (av 3)) (blkOk_by (own := [("_law_pair", 6)]) (N := sc_pairsL_N) (sc := sc_pairsL_S) (by decide +kernel)) (by simp [Pat.slots, Pat.slotss]) (fun _ _ _ _ _ => (agn (i := 6) sc_pairsL_.nd rfl (.inl rfl))) (fun _ _ _ _ _ => (pts_one (atc op_gt oGt (acd d_drawL_ hg (hr.mono (by decide)) (by rfl) (aac (av 0) (aac ai aan))) ai (nomark _)))) (fun _ _ _ _ _ => (av 6))) aan)))))))
def ss_ringL_ : {s : Stmt // topS 22 = s} := by
  refine ⟨?l, ?h⟩
  case h =>
    conv => lhs; whnf
abbrev st_ringL_ : Stmt := ss_ringL_.1
theorem sc_ringL_ : FnScope ["_law_pairs_here", "_law_leads", "_law_name", "_law_who", "_law_found"] ["_law_pairs_here"] (defScope st_ringL_) := ⟨rfl, rfl, rfl, by decide +kernel, rfl, by decide +kernel, by decide +kernel⟩
theorem ok_ringL_ {f : Addr} {fd : FuncData} (F : Fun K "_law_ring" "_law_ring" st_ringL_ f fd) (hb : Binds K fd ["_law_pairs_here"] []) (hm : mg "_law_ring" = some (.ref f)) (m_dict : mg "dict" = none) (m_tuple : mg "tuple" = none) : Def P w K mg base 1 "_law_ring" ["_law_pairs_here"] ringL_ :=
  fn_a F sc_ringL_ hb hm (g := ringL_B) fun cdv A outer s H E hg hr => (asq (ass (i := 1) sc_ringL_.nd rfl (.inl rfl) (act (call_dictU rfl) cDictP (by rfl) m_dict (by decide +kernel) (aac (av 0) aan)))
    (asq (asf PassesOwn.never rfl (ais (aUnp (av 0))) (agt rfl (agl (agn (i := 2) sc_ringL_.nd rfl (.inl rfl)) (agl (agn (i := 3) sc_ringL_.nd rfl (.inl rfl)) agl0))) (asq (ass (i := 4) sc_ringL_.nd rfl (.inl rfl) (alst (aac (av 2) aan)))
    (asq (asw PassesOwn.never (atnin (hu_of hr) (aget2 (hu_of hr) (av 1) (aixA (hu_of hr) (av 4) (aun un_neg oNeg ai) (fun _ _ => rfl) (fun _ _ => rfl)) (av 2) ⟨rfl, rfl, rfl, rfl⟩) (av 4)) (as1 (asx (am PySem.F.plainAttrs_list PySem.F.slot_list_append PySem.F.type_list_append mt_append mApp tyL (av 4) (aac (aixA (hu_of hr) (av 1) (aixA (hu_of hr) (av 4) (aun un_neg oNeg ai) (fun _ _ => rfl) (fun _ _ => rfl)) (fun _ _ => rfl) (fun _ _ => rfl)) aan)))))
    (as1 (asi (atw (aw (atin (hu_of hr) (aixA (hu_of hr) (av 4) (aun un_neg oNeg ai) (fun _ _ => rfl) (fun _ _ => rfl)) (av 1)) (aw1 (atc (op_eqA hr.units) oEq (aixA (hu_of hr) (av 1) (aixA (hu_of hr) (av 4) (aun un_neg oNeg ai) (fun _ _ => rfl) (fun _ _ => rfl)) (fun _ _ => rfl) (fun _ _ => rfl)) (av 2) (nomark _))))) (as1 (asr (act call_tuple_of cTuple (by rfl) m_tuple (by decide +kernel) (aac (av 4) aan)))) asn)))))
    (as1 (asr an))))
def ss_wordL_ : {s : Stmt // topS 23 = s} := by
  refine ⟨?l, ?h⟩
  case h =>
    conv => lhs; whnf
abbrev st_wordL_ : Stmt := ss_wordL_.1
theorem sc_wordL_ : FnScope ["_law_e", "_law_sorts"] ["_law_e"] (defScope st_wordL_) := ⟨rfl, rfl, rfl, by decide +kernel, rfl, by decide +kernel, by decide +kernel⟩
theorem ok_wordL_NoPaper {f : Addr} {fd : FuncData} (F : Fun K "_law_word" "_law_word" st_wordL_ f fd) (hb : Binds K fd ["_law_e"] []) (hm : mg "_law_word" = some (.ref f)) (ke_NoPaper : KnE K mg "NoPaper") (ki_NoPaper_LookupError : KI K mg "NoPaper" "LookupError" false) (ki_NoPaper_ValueError : KI K mg "NoPaper" "ValueError" true) (ki_NoPaper_LackError : KI K mg "NoPaper" "LackError" false) (ki_NoPaper_ClockError : KI K mg "NoPaper" "ClockError" true) (kt_NoPaper_Lied_NoEvent_NoNumber_NoRow_NoStep_NoText_NoWorld : KTu K mg "NoPaper" ["Lied", "NoEvent", "NoNumber", "NoRow", "NoStep", "NoText", "NoWorld"] false) (ki_NoPaper_NoLink : KI K mg "NoPaper" "NoLink" false) (ki_NoPaper_NoHouse : KI K mg "NoPaper" "NoHouse" false) (ki_NoPaper_NoPaper : KI K mg "NoPaper" "NoPaper" true) (m_isinstance : mg "isinstance" = none) (m_ValueError : mg "ValueError" = none) (m_LookupError : mg "LookupError" = none) : DefE P w K mg base 1 "_law_word" 2 "NoPaper" wordL_S_NoPaper :=
  defe_mk F sc_wordL_ hb hm (fun vs cdv A outer s H a D dd oe hg hr hm hz hf => (asq (ass (i := 1) sc_wordL_.nd rfl (.inl rfl) (alst (aac (aisEP ki_NoPaper_NoPaper ke_NoPaper hm hz hf (by rfl) m_isinstance rfl (by first | exact Or.inl rfl | exact Or.inr (Or.inl rfl) | exact Or.inr (Or.inr rfl)) (by rfl)) (aac (aisEP ki_NoPaper_NoHouse ke_NoPaper hm hz hf (by rfl) m_isinstance rfl (by first | exact Or.inl rfl | exact Or.inr (Or.inl rfl) | exact Or.inr (Or.inr rfl)) (by rfl)) (aac (aisEP ki_NoPaper_NoLink ke_NoPaper hm hz hf (by rfl) m_isinstance rfl (by first | exact Or.inl rfl | exact Or.inr (Or.inl rfl) | exact Or.inr (Or.inr rfl)) (by rfl)) aan)))))
    (asq (asi (atw (awo (atc (op_neA hr.units) oNe (am PySem.F.plainAttrs_list PySem.F.slot_list_count PySem.F.type_list_count mt_lcountB mCntB tyL (av 1) (aac abl aan)) ai (nomark _)) (awo1 (atv (aisEnP kt_NoPaper_Lied_NoEvent_NoNumber_NoRow_NoStep_NoText_NoWorld ke_NoPaper hm hz hf (by rfl) m_isinstance rfl (by first | exact Or.inl rfl | exact Or.inr (Or.inl rfl) | exact Or.inr (Or.inr rfl)) (pac_cons (pac_cons (pac_cons (pac_cons (pac_cons (pac_cons (pac_cons pac_nil (by rfl)) (by rfl)) (by rfl)) (by rfl)) (by rfl)) (by rfl)) (by rfl))))))) (as1 (asr (atup (aac astr aan)))) asn)
    (asq (asi (atw (awo (atc (op_neA hr.units) oNe (aisEP ki_NoPaper_ClockError ke_NoPaper hm hz hf (by rfl) m_isinstance rfl (by first | exact Or.inl rfl | exact Or.inr (Or.inl rfl) | exact Or.inr (Or.inr rfl)) (by rfl)) (aixA (hu_e hr) (av 1) ai (fun _ _ => rfl) (fun _ _ => rfl)) (nomark _)) (awo1 (atc (op_eqA hr.units) oEq (aisEP ki_NoPaper_LackError ke_NoPaper hm hz hf (by rfl) m_isinstance rfl (by first | exact Or.inl rfl | exact Or.inr (Or.inl rfl) | exact Or.inr (Or.inr rfl)) (by rfl)) (aixA (hu_e hr) (av 1) ai (fun _ _ => rfl) (fun _ _ => rfl)) (nomark _))))) (as1 (asr (atup (aac astr aan)))) asn)
    (asq (asi (atw (awo (atc (op_neA hr.units) oNe (aisEP ki_NoPaper_ValueError ke_NoPaper hm hz hf (by rfl) m_isinstance rfl (by first | exact Or.inl rfl | exact Or.inr (Or.inl rfl) | exact Or.inr (Or.inr rfl)) (by rfl)) (aixA (hu_e hr) (av 1) ai (fun _ _ => rfl) (fun _ _ => rfl)) (nomark _)) (awo1 (atc (op_eqA hr.units) oEq (aisEP ki_NoPaper_LookupError ke_NoPaper hm hz hf (by rfl) m_isinstance rfl (by first | exact Or.inl rfl | exact Or.inr (Or.inl rfl) | exact Or.inr (Or.inr rfl)) (by rfl)) (aixA (hu_e hr) (av 1) ai (fun _ _ => rfl) (fun _ _ => rfl)) (nomark _))))) (as1 (asr (atup (aac astr aan)))) asn)
    (asq (asi (atv (aixA (hu_e hr) (av 1) ai (fun _ _ => rfl) (fun _ _ => rfl))) (as1 (asr (atup (aac astr (aac (axfP (j := 0) ke_NoPaper hm hz hf rfl (by first | exact Or.inl rfl | exact Or.inr (Or.inl rfl) | exact Or.inr (Or.inr rfl)) rfl rfl) (aac (axfP (j := 1) ke_NoPaper hm hz hf rfl (by first | exact Or.inl rfl | exact Or.inr (Or.inl rfl) | exact Or.inr (Or.inr rfl)) rfl rfl) aan)))))) asn)
    (as1 (asr (aif (atv (aixA (hu_e hr) (av 1) ai (fun _ _ => rfl) (fun _ _ => rfl))) (atup (aac astr (aac aeNo aan))) (atup (aac astr (aac aeNo aan))))))))))))
def ss_bentL_ : {s : Stmt // topS 24 = s} := by
  refine ⟨?l, ?h⟩
  case h =>
    conv => lhs; whnf
abbrev st_bentL_ : Stmt := ss_bentL_.1
theorem sc_bentL_ : FnScope ["_law_feed_here", "_law_thing", "_law_some", "_law_at", "_law_way"] ["_law_feed_here", "_law_thing"] (defScope st_bentL_) := ⟨rfl, rfl, rfl, by decide +kernel, rfl, by decide +kernel, by decide +kernel⟩
theorem ok_bentL_s {rc : FA} {kk : Nat} {f : Addr} {fd : FuncData} (F : Fun K "_law_bent" "_law_bent" st_bentL_ f fd) (hb : Binds K fd ["_law_feed_here", "_law_thing"] []) (hm : mg "_law_bent" = some (.ref f)) (d_drawL_ : Def P w K mg base 1 "_law_draw" ["_law_feed_here", "_law_many"] drawL_) (m_isinstance : mg "isinstance" = none) (m_tuple : mg "tuple" = none) (m_int : mg "int" = none) (m_list : mg "list" = none) (m_bool : mg "bool" = none) (m_len : mg "len" = none) (d_rc : Def P w K mg base (2 + kk) "_law_bent" ["_law_feed_here", "_law_thing"] rc) : Def P w K mg base (2 + kk + 1) "_law_bent" ["_law_feed_here", "_law_thing"] (runF 5 (bentL_B rc)) :=
  fn_a F sc_bentL_ hb hm (g := bentL_B rc) fun cdv A outer s H E hg hr => (asq (asi (atw (aw (atv (aisi (by rfl) m_isinstance (by rfl) m_tuple (by decide +kernel) (av 1))) (aw (atc (op_neA hr.units) oNe (av 1) (atup aan) (nomark _)) (aw1 (atc op_gt oGt (acd d_drawL_ hg (hr.mono (by omega)) (by rfl) (aac (av 0) (aac ai aan))) ai (nomark _)))))) (asq (asp2' (ps_par (i := 3) (j := 4) (by rfl) sc_bentL_.nd rfl rfl (by decide) rfl rfl (aac (acd d_drawL_ hg (hr.mono (by omega)) (by rfl) (aac (av 0) (aac (acb call_lenA cLen (by rfl) m_len PySem.boot_len (aac (av 1) aan)) aan))) (aac (acd d_drawL_ hg (hr.mono (by omega)) (by rfl) (aac (av 0) (aac ai aan))) aan)) (by rfl)))
    (asq (ass (i := 2) sc_bentL_.nd rfl (.inl rfl) (alst (aac (aop op_addT oAddT (asl sl_B oSlA (av 1) aon (aos (av 3))) (asl sl_B oSlA (av 1) (aos (aop op_addT oAddT (av 3) ai)) aon)) (aac (aop op_addT oAddT (aop op_addT oAddT (asl sl_B oSlA (av 1) aon (aos (av 3))) (asl sl_B oSlA (av 1) (aos (av 3)) (aos (aop op_addT oAddT (av 3) ai)))) (asl sl_B oSlA (av 1) (aos (av 3)) aon)) (aac (arevT (av 1)) (aac (act call_list_of cList (by rfl) m_list (by decide +kernel) (aac (av 1) aan)) aan))))))
    (asq (asi (atc op_lt oLt (av 4) ai (nomark _)) (as1 (asr (aixA (hu_of hr) (av 2) (av 4) (fun _ _ => rfl) (fun _ _ => rfl)))) asn)
    (as1 (asr (aop op_addT oAddT (aop op_addT oAddT (asl sl_B oSlA (av 1) aon (aos (av 3))) (atup (aac (acd d_rc hg (hr.mono (by omega)) (by rfl) (aac (av 0) (aac (aixA (hu_of hr) (av 1) (av 3) (fun _ _ => rfl) (fun _ _ => rfl)) aan))) aan))) (asl sl_B oSlA (av 1) (aos (aop op_addT oAddT (av 3) ai)) aon))))))) asn)
    (asq (asi (atw (aw (atv (aisi (by rfl) m_isinstance (by rfl) m_int (by decide +kernel) (av 1))) (aw (atn (atv (aisi (by rfl) m_isinstance (by rfl) m_bool (by decide +kernel) (av 1)))) (aw1 (atc op_gt oGt (acd d_drawL_ hg (hr.mono (by omega)) (by rfl) (aac (av 0) (aac ai aan))) ai (nomark _)))))) (as1 (asr (aop op_addT oAddT (av 1) (aixA (hu_of hr) (alst (aac ai (aac (aun un_neg oNeg ai) (aac ai aan)))) (acd d_drawL_ hg (hr.mono (by omega)) (by rfl) (aac (av 0) (aac ai aan))) (fun _ _ => rfl) (fun _ _ => rfl))))) asn)
    (as1 (asr (aixA (hu_of hr) (alst (aac an (aac astr (aac astr (aac astr (aac ai (aac (aun un_neg oNeg ai) (aac abl (aac abl (aac (aop op_pow oPow ai ai) (aac (atup aan) (aac (alst aan) (aac (atup (aac astr (aac astr aan))) (aac astr aan)))))))))))))) (acd d_drawL_ hg (hr.mono (by omega)) (by rfl) (aac (av 0) (aac ai aan))) (fun _ _ => rfl) (fun _ _ => rfl))))))
theorem ok_bentL_ {f : Addr} {fd : FuncData} (F : Fun K "_law_bent" "_law_bent" st_bentL_ f fd) (hb : Binds K fd ["_law_feed_here", "_law_thing"] []) (hm : mg "_law_bent" = some (.ref f)) (d_drawL_ : Def P w K mg base 1 "_law_draw" ["_law_feed_here", "_law_many"] drawL_) (m_isinstance : mg "isinstance" = none) (m_tuple : mg "tuple" = none) (m_int : mg "int" = none) (m_list : mg "list" = none) (m_bool : mg "bool" = none) (m_len : mg "len" = none) : Def P w K mg base 10 "_law_bent" ["_law_feed_here", "_law_thing"] bentL_ := by
  have z : ∀ k, Def P w K mg base (2 + k) "_law_bent" ["_law_feed_here", "_law_thing"] (bentL_n k) := fun k => by
    induction k with
    | zero => exact def_none F hb hm
    | succ k ih => exact ok_bentL_s F hb hm d_drawL_ m_isinstance m_tuple m_int m_list m_bool m_len ih
  exact z 8
def ss_oughtL_ : {s : Stmt // topS 25 = s} := by
  refine ⟨?l, ?h⟩
  case h =>
    conv => lhs; whnf
abbrev st_oughtL_ : Stmt := ss_oughtL_.1
abbrev sc_oughtL_N : List Str := ["_law_pairs_here", "_law_thing", "_law_k", "_law_leads", "_law_one"]
abbrev sc_oughtL_S : Scope := defScope st_oughtL_
theorem sc_oughtL_ : FnScope ["_law_pairs_here", "_law_thing", "_law_k", "_law_leads", "_law_one"] ["_law_pairs_here", "_law_thing"] (defScope st_oughtL_) := ⟨rfl, rfl, rfl, by decide +kernel, rfl, by decide +kernel, by decide +kernel⟩
theorem ok_oughtL_ {f : Addr} {fd : FuncData} (F : Fun K "_law_ought" "_law_ought" st_oughtL_ f fd) (hb : Binds K fd ["_law_pairs_here", "_law_thing"] []) (hm : mg "_law_ought" = some (.ref f)) (m_range : mg "range" = none) (m_dict : mg "dict" = none) (m_len : mg "len" = none) (m_isinstance : mg "isinstance" = none) (m_tuple : mg "tuple" = none) (m_str : mg "str" = none) : Def P w K mg base 1 "_law_ought" ["_law_pairs_here", "_law_thing"] oughtL_ :=
  fn_a F sc_oughtL_ hb hm (g := oughtL_B) fun cdv A outer s H E hg hr => (asq (asi (atw (awo (atn (atv (aisi (by rfl) m_isinstance (by rfl) m_tuple (by decide +kernel) (av 1)))) (awo (atc (op_eqA hr.units) oEq (av 1) (atup aan) (nomark _)) (awo1 (atc (op_neA hr.units) oNe (alc (own := [("_law_one", 4)]) rfl sc_oughtL_.nd (ais (av 1)) (blkOk_by (own := [("_law_one", 4)]) (N := sc_oughtL_N) (sc := sc_oughtL_S) (by decide +kernel)) (by simp [Pat.slots, Pat.slotss]) (fun _ _ _ _ _ => (agn (i := 4) sc_oughtL_.nd rfl (.inl rfl))) (fun _ _ _ _ _ => (pts_one (atn (atv (aisi (by rfl) m_isinstance (by rfl) m_str (by decide +kernel) (av 4)))))) (fun _ _ _ _ _ => (av 4))) (alst aan) (nomark _)))))) (as1 (asr (atup (aac astr (aac astr (aac (aun un_neg oNeg ai) aan)))))) asn)
    (asq (asf PassesOwn.never rfl (air1 (by rfl) m_range (aac (acb call_lenA cLen (by rfl) m_len PySem.boot_len (aac (av 1) aan)) aan)) (agn (i := 2) sc_oughtL_.nd rfl (.inl rfl)) (as1 (asi (atin (hu_of hr) (aixA (hu_of hr) (av 1) (av 2) (fun _ _ => rfl) (fun _ _ => rfl)) (asl sl_B oSlA (av 1) aon (aos (av 2)))) (as1 (asr (atup (aac astr (aac astr (aac (av 2) aan)))))) asn)))
    (asq (ass (i := 3) sc_oughtL_.nd rfl (.inl rfl) (act (call_dictU rfl) cDictP (by rfl) m_dict (by decide +kernel) (aac (av 0) aan)))
    (asq (asf PassesOwn.never rfl (air1 (by rfl) m_range (aac (acb call_lenA cLen (by rfl) m_len PySem.boot_len (aac (av 1) aan)) aan)) (agn (i := 2) sc_oughtL_.nd rfl (.inl rfl)) (as1 (asi (atw (awo (atnin (hu_of hr) (aixA (hu_of hr) (av 1) (av 2) (fun _ _ => rfl) (fun _ _ => rfl)) (av 3)) (awo1 (atc (op_neA hr.units) oNe (aixA (hu_of hr) (av 3) (aixA (hu_of hr) (av 1) (av 2) (fun _ _ => rfl) (fun _ _ => rfl)) (fun _ _ => rfl) (fun _ _ => rfl)) (aixA (hu_of hr) (av 1) (aop op_modN oMod (aop op_addA oAdd (av 2) ai) (acb call_lenA cLen (by rfl) m_len PySem.boot_len (aac (av 1) aan))) (fun _ _ => rfl) (fun _ _ => rfl)) (nomark _))))) (as1 (asr (atup (aac astr (aac astr (aac (av 2) aan)))))) asn)))
    (as1 (asr (atup (aac astr (aac (acb call_lenA cLen (by rfl) m_len PySem.boot_len (aac (av 1) aan)) aan)))))))))
def ss_saidL_ : {s : Stmt // topS 26 = s} := by
  refine ⟨?l, ?h⟩
  case h =>
    conv => lhs; whnf
abbrev st_saidL_ : Stmt := ss_saidL_.1
theorem sc_saidL_ : FnScope ["_law_pairs_here", "_law_thing", "_law_found", "_law_e"] ["_law_pairs_here", "_law_thing"] (defScope st_saidL_) := ⟨rfl, rfl, rfl, by decide +kernel, rfl, by decide +kernel, by decide +kernel⟩
theorem ok_saidL_ {f : Addr} {fd : FuncData} (F : Fun K "_law_said" "_law_said" st_saidL_ f fd) (hb : Binds K fd ["_law_pairs_here", "_law_thing"] []) (hm : mg "_law_said" = some (.ref f)) (e_wordL_NoPaper : DefE P w K mg base 1 "_law_word" 2 "NoPaper" wordL_S_NoPaper) (d_lets_follow_ring_ : DefX P w K mg base 3 "lets_follow_ring" ["pairs", "thing"] lets_follow_ring_) {v_ClockError : Value} (cl_ClockError : mg "ClockError" = some v_ClockError) {v_LackError : Value} (cl_LackError : mg "LackError" = some v_LackError) (hx_NoPaper : ∃ D, mg "NoPaper" = some (.ref D) ∧ PySem.W.exmAny K (.ref D) [v_ClockError, v_LackError] = some true) (ke_NoPaper : KnE K mg "NoPaper") : Def P w K mg base 4 "_law_said" ["_law_pairs_here", "_law_thing"] saidL_ :=
  fn_a F sc_saidL_ hb hm (g := saidL_B) fun cdv A outer s H E hg hr => (asq (ass (i := 2) sc_saidL_.nd rfl (.inl rfl) (atup (aac astr aan)))
    (asq (astryE rfl rfl sc_saidL_.nd rfl rfl (tests_two ⟨by rfl, by decide, .inl cl_ClockError⟩ ⟨by rfl, by decide, .inl cl_LackError⟩) (fun c hc => by
    simp only [List.mem_cons, List.not_mem_nil, or_false] at hc; rcases hc with rfl
    · exact hx_NoPaper) (fun W pn xe tk => (xss (i := 2) sc_saidL_.nd rfl (.inl rfl) (atup1X astr (acdX d_lets_follow_ring_ hg (hr.mono (by decide)) (by rfl) tk (aac (aUnp (av 0)) (aac (av 1) aan))) (pa_cons astr (pa_cons (acdX d_lets_follow_ring_ hg (hr.mono (by decide)) (by rfl) tk (aac (aUnp (av 0)) (aac (av 1) aan))) pa_nil))))) (fun a oe D dd pn c vs hc hm hz hf => by
    simp only [List.mem_cons, List.not_mem_nil, or_false] at hc; rcases hc with rfl
    · unfold saidL_H; rw [if_pos rfl]; exact (as1 (ass (i := 2) sc_saidL_.nd rfl (.inl rfl) (acalE (k := 1) e_wordL_NoPaper hg (hr.mono (by decide)) (by rfl) hm hz hf rfl (by first | exact Or.inl rfl | exact Or.inr (Or.inl rfl) | exact Or.inr (Or.inr rfl)))))))
    (as1 (asr (av 2)))))
def ss_law_ : {s : Stmt // topS 27 = s} := by
  refine ⟨?l, ?h⟩
  case h =>
    conv => lhs; whnf
abbrev st_law_ : Stmt := ss_law_.1
abbrev sc_law_N : List Str := ["_law_script", "_law_feed_here", "_law_odd", "_law_lap", "_law_names", "_law_ring_here", "_law_k", "_law_thing", "_law_name", "_law_pairs_here", "_law_things", "_law_at", "_law_kept", "_law_ought_here", "_law_pair", "_law_j"]
abbrev sc_law_S : Scope := defScope st_law_
theorem sc_law_ : FnScope ["_law_script", "_law_feed_here", "_law_odd", "_law_lap", "_law_names", "_law_ring_here", "_law_k", "_law_thing", "_law_name", "_law_pairs_here", "_law_things", "_law_at", "_law_kept", "_law_ought_here", "_law_pair", "_law_j"] ["_law_script"] (defScope st_law_) := ⟨rfl, rfl, rfl, by decide +kernel, rfl, by decide +kernel, by decide +kernel⟩
theorem ok_law_ {f : Addr} {fd : FuncData} (F : Fun K "law" "law" st_law_ f fd) (d_feedL_ : Def P w K mg base 1 "_law_feed" ["_law_script"] feedL_) (d_ringL_ : Def P w K mg base 1 "_law_ring" ["_law_pairs_here"] ringL_) (d_pairsL_ : Def P w K mg base 2 "_law_pairs" ["_law_feed_here"] pairsL_) (d_drawL_ : Def P w K mg base 1 "_law_draw" ["_law_feed_here", "_law_many"] drawL_) (d_oughtL_ : Def P w K mg base 1 "_law_ought" ["_law_pairs_here", "_law_thing"] oughtL_) (d_bentL_ : Def P w K mg base 10 "_law_bent" ["_law_feed_here", "_law_thing"] bentL_) (d_follow_ring_ : Def P w K mg base 2 "follow_ring" ["pairs"] follow_ring_) (d_saidL_ : Def P w K mg base 4 "_law_said" ["_law_pairs_here", "_law_thing"] saidL_) (m_range : mg "range" = none) (m_list : mg "list" = none) (m_len : mg "len" = none) (m_tuple : mg "tuple" = none) (m_repr : mg "repr" = none) : FnG P w K mg base 11 f fd ["_law_script"] (spA K 1 law_) :=
  fn_aG F sc_law_ (g := law_B) fun cdv A outer s H E hg hr => (asq (ass (i := 1) sc_law_.nd rfl (.inr rfl) (acd d_feedL_ hg (hr.mono (by decide)) (by rfl) (aac (av 0) aan)))
    (asq (ass (i := 2) sc_law_.nd rfl (.inl rfl) (alst (aac an (aac (atup aan) (aac (atup (aac astr aan)) (aac (alst (aac astr aan)) (aac astr (aac (atup (aac astr (aac ai aan))) (aac (atup (aac astr (aac astr aan))) (aac (atup (aac (atup aan) aan)) aan))))))))))
    (asq (asf PassesOwn.never rfl (air1 (by rfl) m_range (aac ai aan)) (agn (i := 3) sc_law_.nd rfl (.inl rfl)) (asq (asp2' (ps_par (i := 9) (j := 10) (by rfl) sc_law_.nd rfl rfl (by decide) rfl rfl (aac (acd d_pairsL_ hg (hr.mono (by decide)) (by rfl) (aac (av 1) aan)) (aac (act call_list_of cList (by rfl) m_list (by decide +kernel) (aac (av 2) aan)) aan)) (by rfl)))
    (asq (ass (i := 4) sc_law_.nd rfl (.inr rfl) (aop op_addA oAdd (alc (own := [("_law_pair", 14)]) rfl sc_law_.nd (ais (aUnp (av 9))) (blkOk_by (own := [("_law_pair", 14)]) (N := sc_law_N) (sc := sc_law_S) (by decide +kernel)) (by simp [Pat.slots, Pat.slotss]) (fun _ _ _ _ _ => (agn (i := 14) sc_law_.nd rfl (.inl rfl))) (fun _ _ _ _ _ => ats0) (fun _ _ _ _ _ => (aixA (hu_of hr) (av 14) ai (fun _ _ => rfl) (fun _ _ => rfl)))) (alst (aac astr aan))))
    (asq (ass (i := 5) sc_law_.nd rfl (.inl rfl) (acd d_ringL_ hg (hr.mono (by decide)) (by rfl) (aac (av 9) aan)))
    (asq (asi (atc op_notN oIsN (av 5) an (nomark _)) (asq (ass (i := 11) sc_law_.nd rfl (.inl rfl) (acd d_drawL_ hg (hr.mono (by decide)) (by rfl) (aac (av 1) (aac (acb call_lenA cLen (by rfl) m_len PySem.boot_len (aac (av 5) aan)) aan))))
    (asq (ass (i := 10) sc_law_.nd rfl (.inl rfl) (aop op_addA oAdd (av 10) (alst (aac (av 5) (aac (aop op_addT oAddT (asl sl_B oSlA (av 5) (aos (av 11)) aon) (asl sl_B oSlA (av 5) aon (aos (av 11)))) (aac (arevT (av 5)) (aac (asl sl_B oSlA (av 5) (aos ai) aon) (aac (aop op_addT oAddT (av 5) (asl sl_B oSlA (av 5) aon (aos ai))) aan))))))))
    (as1 (ass (i := 10) sc_law_.nd rfl (.inl rfl) (aop op_addA oAdd (av 10) (alst (aac (acd d_bentL_ hg (hr.mono (by decide)) (by rfl) (aac (av 1) (aac (av 5) aan))) (aac (acd d_bentL_ hg (hr.mono (by decide)) (by rfl) (aac (av 1) (aac (aop op_addT oAddT (av 5) (asl sl_B oSlA (av 5) aon (aos ai))) aan))) aan)))))))) asn)
    (asq (asf PassesOwn.never rfl (air1 (by rfl) m_range (aac ai aan)) (agn (i := 6) sc_law_.nd rfl (.inl rfl)) (as1 (asx (am PySem.F.plainAttrs_list PySem.F.slot_list_append PySem.F.type_list_append mt_append mApp tyL (av 10) (aac (act call_tuple_of cTuple (by rfl) m_tuple (by decide +kernel) (aac (alc (own := [("_law_j", 15)]) rfl sc_law_.nd (air1 (by rfl) m_range (aac (acd d_drawL_ hg (hr.mono (by decide)) (by rfl) (aac (av 1) (aac ai aan))) aan)) (blkOk_by (own := [("_law_j", 15)]) (N := sc_law_N) (sc := sc_law_S) (by decide +kernel)) (by simp [Pat.slots, Pat.slotss]) (fun _ _ _ _ _ => (agn (i := 15) sc_law_.nd rfl (.inl rfl))) (fun _ _ _ _ _ => ats0) (fun _ _ _ _ _ => (aixA (hu_of hr) (av 4) (acd d_drawL_ hg (hr.mono (by decide)) (by rfl) (aac (av 1) (aac (acb call_lenA cLen (by rfl) m_len PySem.boot_len (aac (av 4) aan)) aan))) (fun _ _ => rfl) (fun _ _ => rfl)))) aan)) aan)))))
    (asq (asf PassesOwn.never rfl (ais (av 10)) (agn (i := 7) sc_law_.nd rfl (.inl rfl)) (asq (asp2' (ps_par (i := 12) (j := 13) (by rfl) sc_law_.nd rfl rfl (by decide) rfl rfl (aac (acb (call_reprA hg hr.units) cRepr (by rfl) m_repr boot_repr (aac (atup (aac (aUnp (av 9)) (aac (av 7) aan))) aan)) (aac (acd d_oughtL_ hg (hr.mono (by decide)) (by rfl) (aac (av 9) (aac (av 7) aan))) aan)) (by rfl)))
    (asq (asi (atw (awo (atc (op_neA hr.units) oNe (acb (call_reprA hg hr.units) cRepr (by rfl) m_repr boot_repr (aac (acd d_saidL_ hg (hr.mono (by decide)) (by rfl) (aac (av 9) (aac (av 7) aan))) aan)) (acb (call_reprA hg hr.units) cRepr (by rfl) m_repr boot_repr (aac (av 13) aan)) (nomark _)) (awo1 (atc (op_neA hr.units) oNe (acb (call_reprA hg hr.units) cRepr (by rfl) m_repr boot_repr (aac (atup (aac (aUnp (av 9)) (aac (av 7) aan))) aan)) (av 12) (nomark _))))) (as1 (asr abl)) asn)
    (as1 (asi (atw (aw (atc (op_eqA hr.units) oEq (aixA (hu_of hr) (av 13) ai (fun _ _ => rfl) (fun _ _ => rfl)) astr (nomark _)) (aw1 (atc op_isN oIs (acd d_follow_ring_ hg (hr.mono (by decide)) (by rfl) (aac (aUnp (av 9)) aan)) an (nomark _))))) (as1 (asr abl)) asn)))))
    (as1 (asf PassesOwn.never rfl (ais (av 4)) (agn (i := 8) sc_law_.nd rfl (.inl rfl)) (as1 (asi (atw (aw (atc op_isN oIs (av 5) an (nomark _)) (aw1 (atc (op_eqA hr.units) oEq (aixA (hu_of hr) (acd d_saidL_ hg (hr.mono (by decide)) (by rfl) (aac (av 9) (aac (atup (aac (av 8) aan)) aan))) ai (fun _ _ => rfl) (fun _ _ => rfl)) astr (nomark _))))) (as1 (asr abl)) asn)))))))))))
    (as1 (asr abl)))))
end
end K64
namespace Fr

def mk (a b : Int) : Int × Int :=
  if b < 0 then ((-a) / ((Int.gcd a b : Nat) : Int), (-b) / ((Int.gcd a b : Nat) : Int)) else (a / ((Int.gcd a b : Nat) : Int), b / ((Int.gcd a b : Nat) : Int))
theorem gcd_pos {a b : Int} (h : b ≠ 0) : 0 < Int.gcd a b := Int.gcd_pos_of_ne_zero_right a h
theorem core {a b : Int} (h : 0 < b) : ∃ x y : Int, a / ((Int.gcd a b : Nat) : Int) = x ∧ b / ((Int.gcd a b : Nat) : Int) = y ∧ a = x * ((Int.gcd a b : Nat) : Int) ∧ b = y * ((Int.gcd a b : Nat) : Int) ∧ 0 < y ∧ Int.gcd x y = 1 := by
  have g0 : 0 < Int.gcd a b := gcd_pos (by omega)
  have gi : (0 : Int) < ((Int.gcd a b : Nat) : Int) := by omega
  have ea : a / ((Int.gcd a b : Nat) : Int) * ((Int.gcd a b : Nat) : Int) = a := Int.ediv_mul_cancel (Int.gcd_dvd_left ..)
  have eb : b / ((Int.gcd a b : Nat) : Int) * ((Int.gcd a b : Nat) : Int) = b := Int.ediv_mul_cancel (Int.gcd_dvd_right ..)
  refine ⟨_, _, rfl, rfl, ea.symm, eb.symm, ?_, ?_⟩
  · have : 0 < b / ((Int.gcd a b : Nat) : Int) * ((Int.gcd a b : Nat) : Int) := by rw [eb]; exact h
    exact Int.pos_of_mul_pos_left this gi
  · rw [Int.gcd_ediv_gcd_ediv_gcd g0]
theorem mk_all {a b : Int} (h : b ≠ 0) : ∃ x y : Int, mk a b = (x, y) ∧ 0 < y ∧ Int.gcd x y = 1 ∧ x * b = a * y ∧ x.natAbs ≤ a.natAbs ∧ y.natAbs ≤ b.natAbs := by
  have key : ∀ {a b : Int}, 0 < b → ∃ x y : Int, (a / ((Int.gcd a b : Nat) : Int), b / ((Int.gcd a b : Nat) : Int)) = (x, y) ∧ 0 < y ∧ Int.gcd x y = 1 ∧ x * b = a * y ∧ x.natAbs ≤ a.natAbs ∧ y.natAbs ≤ b.natAbs := by
    intro a b h
    obtain ⟨x, y, ex, ey, ea, eb, hy, hg⟩ := core (a := a) h
    have g0 : 0 < Int.gcd a b := gcd_pos (by omega)
    refine ⟨x, y, by rw [ex, ey], hy, hg, ?_, ?_, ?_⟩
    · generalize ((Int.gcd a b : Nat) : Int) = g at *
      subst ea eb
      rw [Int.mul_comm y g, ← Int.mul_assoc]
    · have := congrArg Int.natAbs ea
      rw [Int.natAbs_mul, Int.natAbs_natCast] at this
      rw [this]
      exact Nat.le_mul_of_pos_right _ g0
    · have := congrArg Int.natAbs eb
      rw [Int.natAbs_mul, Int.natAbs_natCast] at this
      rw [this]
      exact Nat.le_mul_of_pos_right _ g0
  unfold mk
  by_cases hb : b < 0
  · rw [if_pos hb]
    obtain ⟨x, y, e, hy, hg, hc, h1, h2⟩ := key (a := -a) (b := -b) (by omega)
    rw [Int.neg_gcd, Int.gcd_neg] at e
    refine ⟨x, y, e, hy, hg, ?_, by simpa using h1, by simpa using h2⟩
    rw [Int.mul_neg, Int.neg_mul] at hc
    exact Int.neg_inj.mp hc
  · rw [if_neg hb]
    exact key (by omega)
theorem uniq {x y u v : Int} (hy : 0 < y) (hv : 0 < v) (g : Int.gcd x y = 1) (g' : Int.gcd u v = 1) (e : x * v = u * y) : (x, y) = (u, v) := by
  have en : x.natAbs * v.natAbs = u.natAbs * y.natAbs := by
    have := congrArg Int.natAbs e
    rwa [Int.natAbs_mul, Int.natAbs_mul] at this
  have c1 : Nat.Coprime y.natAbs x.natAbs := by
    have : Nat.gcd x.natAbs y.natAbs = 1 := g
    exact Nat.Coprime.symm this
  have c2 : Nat.Coprime v.natAbs u.natAbs := by
    have : Nat.gcd u.natAbs v.natAbs = 1 := g'
    exact Nat.Coprime.symm this
  have d1 : y.natAbs ∣ v.natAbs := c1.dvd_of_dvd_mul_left (by rw [en]; exact Nat.dvd_mul_left _ _)
  have d2 : v.natAbs ∣ y.natAbs := c2.dvd_of_dvd_mul_left (by rw [← en]; exact Nat.dvd_mul_left _ _)
  have eyv : y.natAbs = v.natAbs := Nat.dvd_antisymm d1 d2
  have eq : y = v := by omega
  subst eq
  have ex : x = u := Int.eq_of_mul_eq_mul_right (by omega) e
  rw [ex]
theorem mk_eq {a b c d : Int} (hb : b ≠ 0) (hd : d ≠ 0) (e : a * d = c * b) : mk a b = mk c d := by
  obtain ⟨x, y, e1, hy, hg, hc, _, _⟩ := mk_all (a := a) hb
  obtain ⟨u, v, e2, hv, hg', hc', _, _⟩ := mk_all (a := c) hd
  rw [e1, e2]
  refine uniq hy hv hg hg' ?_
  have h1 : (x * v) * (b * d) = (u * y) * (b * d) := by
    calc (x * v) * (b * d) = (x * b) * (v * d) := by ac_rfl
      _ = (a * y) * (v * d) := by rw [hc]
      _ = (a * d) * (y * v) := by ac_rfl
      _ = (c * b) * (y * v) := by rw [e]
      _ = (c * v) * (y * b) := by ac_rfl
      _ = (u * d) * (y * b) := by rw [hc']
      _ = (u * y) * (b * d) := by ac_rfl
  exact Int.eq_of_mul_eq_mul_right (Int.mul_ne_zero hb hd) h1
theorem mk_self {a b : Int} (hb : 0 < b) (g : Int.gcd a b = 1) : mk a b = (a, b) := by
  unfold mk
  rw [if_neg (by omega), g]
  simp

structure Ok (n : Nat) (p : Int × Int) : Prop where
  pos : 0 < p.2
  cop : Int.gcd p.1 p.2 = 1
  b1 : p.1.natAbs < 2 ^ n
  b2 : p.2.natAbs < 2 ^ n
theorem mk_ok {n : Nat} {a b : Int} (h : b ≠ 0) (ha : a.natAbs < 2 ^ n) (hb : b.natAbs < 2 ^ n) : Ok n (mk a b) := by
  obtain ⟨x, y, e, hy, hg, _, h1, h2⟩ := mk_all (a := a) h
  rw [e]
  exact ⟨hy, hg, by show x.natAbs < _; omega, by show y.natAbs < _; omega⟩
theorem mk_cross {a b : Int} (h : b ≠ 0) : (mk a b).1 * b = a * (mk a b).2 := by
  obtain ⟨x, y, e, hy, hg, hc, _, _⟩ := mk_all (a := a) h
  rw [e]
  exact hc
theorem mk_pos {a b : Int} (h : b ≠ 0) : 0 < (mk a b).2 := by
  obtain ⟨x, y, e, hy, _⟩ := mk_all (a := a) h
  rw [e]
  exact hy
theorem Ok.mono {n m : Nat} {p : Int × Int} (h : Ok n p) (hnm : n ≤ m) : Ok m p :=
  ⟨h.pos, h.cop, Nat.lt_of_lt_of_le h.b1 (Nat.pow_le_pow_right (by decide) hnm), Nat.lt_of_lt_of_le h.b2 (Nat.pow_le_pow_right (by decide) hnm)⟩
def add (p q : Int × Int) : Int × Int := mk (p.1 * q.2 + q.1 * p.2) (p.2 * q.2)
def sub (p q : Int × Int) : Int × Int := mk (p.1 * q.2 - q.1 * p.2) (p.2 * q.2)
def div (p q : Int × Int) : Int × Int := mk (p.1 * q.2) (p.2 * q.1)
theorem bmul {n m : Nat} {a b : Int} (ha : a.natAbs < 2 ^ n) (hb : b.natAbs < 2 ^ m) : (a * b).natAbs < 2 ^ (n + m) := by
  rw [Int.natAbs_mul, Nat.pow_add]
  exact Nat.mul_lt_mul'' ha hb
theorem badd {n : Nat} {a b : Int} (ha : a.natAbs < 2 ^ n) (hb : b.natAbs < 2 ^ n) : (a + b).natAbs < 2 ^ (n + 1) := by
  rw [Nat.pow_succ]
  omega
theorem bsub {n : Nat} {a b : Int} (ha : a.natAbs < 2 ^ n) (hb : b.natAbs < 2 ^ n) : (a - b).natAbs < 2 ^ (n + 1) := by
  rw [Nat.pow_succ]
  omega
theorem bmono {n m : Nat} {a : Int} (ha : a.natAbs < 2 ^ n) (h : n ≤ m) : a.natAbs < 2 ^ m := Nat.lt_of_lt_of_le ha (Nat.pow_le_pow_right (by decide) h)
theorem add_ok {n m : Nat} {p q : Int × Int} (hp : Ok n p) (hq : Ok m q) : Ok (n + m + 1) (add p q) :=
  mk_ok (Int.mul_ne_zero (by have := hp.pos; omega) (by have := hq.pos; omega)) (badd (bmul hp.b1 hq.b2) (bmono (bmul hq.b1 hp.b2) (by omega))) (bmono (bmul hp.b2 hq.b2) (by omega))
theorem sub_ok {n m : Nat} {p q : Int × Int} (hp : Ok n p) (hq : Ok m q) : Ok (n + m + 1) (sub p q) :=
  mk_ok (Int.mul_ne_zero (by have := hp.pos; omega) (by have := hq.pos; omega)) (bsub (bmul hp.b1 hq.b2) (bmono (bmul hq.b1 hp.b2) (by omega))) (bmono (bmul hp.b2 hq.b2) (by omega))
theorem div_ok {n m : Nat} {p q : Int × Int} (hp : Ok n p) (hq : Ok m q) (h0 : q.1 ≠ 0) : Ok (n + m) (div p q) :=
  mk_ok (Int.mul_ne_zero (by have := hp.pos; omega) h0) (bmul hp.b1 hq.b2) (bmul hp.b2 hq.b1)

def Is (p : Int × Int) (a b : Int) : Prop := p = mk a b ∧ b ≠ 0
theorem Ok.is {n : Nat} {p : Int × Int} (h : Ok n p) : Is p p.1 p.2 := ⟨(mk_self h.pos h.cop).symm, by have := h.pos; omega⟩
theorem Is.same {p q : Int × Int} {a b c d : Int} (hp : Is p a b) (hq : Is q c d) (e : a * d = c * b) : p = q := by
  rw [hp.1, hq.1]
  exact mk_eq hp.2 hq.2 e
theorem Is.add {p q : Int × Int} {a b c d : Int} (hp : Is p a b) (hq : Is q c d) : Is (add p q) (a * d + c * b) (b * d) := by
  refine ⟨?_, Int.mul_ne_zero hp.2 hq.2⟩
  unfold Fr.add
  have h1 := mk_cross (a := a) hp.2
  have h2 := mk_cross (a := c) hq.2
  rw [← hp.1] at h1
  rw [← hq.1] at h2
  have p0 : p.2 ≠ 0 := by rw [hp.1]; have := mk_pos (a := a) hp.2; omega
  have q0 : q.2 ≠ 0 := by rw [hq.1]; have := mk_pos (a := c) hq.2; omega
  refine mk_eq (Int.mul_ne_zero p0 q0) (Int.mul_ne_zero hp.2 hq.2) ?_
  rw [Int.add_mul, Int.add_mul]
  have e1 : p.1 * q.2 * (b * d) = a * d * (p.2 * q.2) := by
    calc p.1 * q.2 * (b * d) = (p.1 * b) * (q.2 * d) := by ac_rfl
      _ = (a * p.2) * (q.2 * d) := by rw [h1]
      _ = a * d * (p.2 * q.2) := by ac_rfl
  have e2 : q.1 * p.2 * (b * d) = c * b * (p.2 * q.2) := by
    calc q.1 * p.2 * (b * d) = (q.1 * d) * (p.2 * b) := by ac_rfl
      _ = (c * q.2) * (p.2 * b) := by rw [h2]
      _ = c * b * (p.2 * q.2) := by ac_rfl
  rw [e1, e2]
theorem Is.sub {p q : Int × Int} {a b c d : Int} (hp : Is p a b) (hq : Is q c d) : Is (sub p q) (a * d - c * b) (b * d) := by
  refine ⟨?_, Int.mul_ne_zero hp.2 hq.2⟩
  unfold Fr.sub
  have h1 := mk_cross (a := a) hp.2
  have h2 := mk_cross (a := c) hq.2
  rw [← hp.1] at h1
  rw [← hq.1] at h2
  have p0 : p.2 ≠ 0 := by rw [hp.1]; have := mk_pos (a := a) hp.2; omega
  have q0 : q.2 ≠ 0 := by rw [hq.1]; have := mk_pos (a := c) hq.2; omega
  refine mk_eq (Int.mul_ne_zero p0 q0) (Int.mul_ne_zero hp.2 hq.2) ?_
  rw [Int.sub_mul, Int.sub_mul]
  have e1 : p.1 * q.2 * (b * d) = a * d * (p.2 * q.2) := by
    calc p.1 * q.2 * (b * d) = (p.1 * b) * (q.2 * d) := by ac_rfl
      _ = (a * p.2) * (q.2 * d) := by rw [h1]
      _ = a * d * (p.2 * q.2) := by ac_rfl
  have e2 : q.1 * p.2 * (b * d) = c * b * (p.2 * q.2) := by
    calc q.1 * p.2 * (b * d) = (q.1 * d) * (p.2 * b) := by ac_rfl
      _ = (c * q.2) * (p.2 * b) := by rw [h2]
      _ = c * b * (p.2 * q.2) := by ac_rfl
  rw [e1, e2]
theorem Is.div {p q : Int × Int} {a b c d : Int} (hp : Is p a b) (hq : Is q c d) (h0 : c ≠ 0) : Is (div p q) (a * d) (b * c) := by
  refine ⟨?_, Int.mul_ne_zero hp.2 h0⟩
  unfold Fr.div
  have h1 := mk_cross (a := a) hp.2
  have h2 := mk_cross (a := c) hq.2
  rw [← hp.1] at h1
  rw [← hq.1] at h2
  have p0 : p.2 ≠ 0 := by rw [hp.1]; have := mk_pos (a := a) hp.2; omega
  have q0 : q.2 ≠ 0 := by rw [hq.1]; have := mk_pos (a := c) hq.2; omega
  have q1 : q.1 ≠ 0 := by
    intro z
    rw [z, Int.zero_mul] at h2
    exact (Int.mul_ne_zero h0 q0) h2.symm
  refine mk_eq (Int.mul_ne_zero p0 q1) (Int.mul_ne_zero hp.2 h0) ?_
  calc p.1 * q.2 * (b * c) = (p.1 * b) * (c * q.2) := by ac_rfl
    _ = (a * p.2) * (q.1 * d) := by rw [h1, h2]
    _ = a * d * (p.2 * q.1) := by ac_rfl
end Fr
namespace K37
open PySem PySem.Spec PyProof.Rows L2 G Th AL
abbrev Fq := Int × Int
def frV (x : Fq) : Val := .tup [.int x.1, .int x.2]
structure Bd (x : Int × Int) : Prop where
  pos : 0 < x.2
  b1 : x.1.natAbs < 2 ^ 900
  b2 : x.2.natAbs < 2 ^ 900
theorem mw {i j : Int} (hi : i.natAbs < 2 ^ 900) (hj : j.natAbs < 2 ^ 900) : CMulW i j := wide_mul hi hj (by decide) (by decide) (by decide)
theorem gMul_eq {a b : Int} {S : Sto} (h : CMulW a b) : gMul (.int a) (.int b) S = some (.int (a * b), S) := if_pos h
theorem gDiv_eq {a b : Int} {S : Sto} (h : CDivW a b) : gDiv (.int a) (.int b) S = some (.int (a / b), S) := if_pos h
theorem gMod_eq {a b : Int} {S : Sto} (h : b ≠ 0) : gMod (.int a) (.int b) S = some (.int (a.fmod b), S) := if_pos h
theorem at0 {α : Type} {x : α} {xs : List α} : atI (x :: xs) 0 = some x := atI_nat (j := 0) rfl
theorem at1 {α : Type} {x y : α} {xs : List α} : atI (x :: y :: xs) 1 = some y := atI_nat (j := 1) rfl
theorem at2 {α : Type} {x y z : α} {xs : List α} : atI (x :: y :: z :: xs) 2 = some z := atI_nat (j := 2) rfl
theorem at3 {α : Type} {x y z w : α} {xs : List α} : atI (x :: y :: z :: w :: xs) 3 = some w := atI_nat (j := 3) rfl
theorem fmod_lt {a b : Int} (h : 0 < b) : 0 ≤ a.fmod b ∧ a.fmod b < b := by
  rw [Int.fmod_eq_emod_of_nonneg a (by omega)]
  exact ⟨Int.emod_nonneg a (by omega), Int.emod_lt_of_pos a h⟩
theorem gcd_step {a b : Int} (hb : 0 < b) : Int.gcd b (a.fmod b) = Int.gcd a b := by
  rw [Int.fmod_eq_emod_of_nonneg a (by omega), Int.emod_def, Int.gcd_sub_mul_left_right, Int.gcd_comm]
theorem g_div {a b : Int} {x : Int} (h : b ≠ 0) (hb : b.natAbs < 2 ^ 2000) : CDivW x ((Int.gcd a b : Nat) : Int) := by
  have g0 := Fr.gcd_pos (a := a) h
  refine wide_div (b := 2000) (by omega) ?_ (by decide) (by decide)
  rw [Int.natAbs_natCast]
  exact Nat.lt_of_le_of_lt (Int.gcd_le_natAbs_right _ h) hb
theorem b_mul {a b : Int} (ha : a.natAbs < 2 ^ 900) (hb : b.natAbs < 2 ^ 900) : (a * b).natAbs < 2 ^ 2000 := Fr.bmono (Fr.bmul ha hb) (by decide)
theorem cd_loop : ∀ (n : Nat) (a b : Int) (S : Sto), 0 ≤ b → b.toNat < n → ∃ a', whR (eT (eB gNe (eV 1) (eC (.int 0)))) (sPar [0, 1] (aCons (eV 1) (aCons (eB gMod (eV 0) (eV 1)) aNil))) n [some (.int a), some (.int b)] S = .nx [some (.int a'), some (.int 0)] S ∧ a'.natAbs = Int.gcd a b
  | 0, _, _, _, _, h => by omega
  | n + 1, a, b, S, h0, h => by
    by_cases hb : b = 0
    · subst hb
      refine ⟨a, ?_, by simp⟩
      rw [whR]
      simp only [eV, eC, eB, eT, eU, eIf, eCh, eAnd, eOr, eNot, bAnd, bOr, bNot, bYes, aNil, aCons, eTup, eLst, eCall, eDef, eMt, eMt0, eSl, oN, oS, sNil, sSeq, sExpr, sRet, sIf, sAsg, sPar, sSub, runF, Pat.bind, Pat.binds, gI, gNeg, gAdd, gIs, gIsN, gLen, gAbs, gTuple, gList, gApp, isL, gSet, gSetA, gIxA, gIx, gEq, gNe, eqA, eqS, AL.keyOf, eGet1, eGet2, eDic, gIn, List.getElem?_cons_zero, List.getElem?_cons_succ, List.getElem?_nil, List.set_cons_zero, List.set_cons_succ, List.map_cons, List.map_nil, List.append_eq, List.cons_append, List.nil_append, List.replicate_succ, List.replicate_zero, List.length_cons, List.length_nil, Option.bind_some, Option.bind_none, Option.map_some, Nat.reduceAdd, Nat.reduceSub, Nat.reduceLeDiff, if_true, ite_true, if_false, Bool.false_eq_true, reduceIte, decide_true, Bool.not_true]
    · obtain ⟨m1, m2⟩ := fmod_lt (a := a) (b := b) (by omega)
      obtain ⟨a', e, g⟩ := cd_loop n b (a.fmod b) S m1 (by omega)
      refine ⟨a', ?_, by rw [g, gcd_step (by omega)]⟩
      rw [whR]
      simp only [eV, eC, eB, eT, eU, eIf, eCh, eAnd, eOr, eNot, bAnd, bOr, bNot, bYes, aNil, aCons, eTup, eLst, eCall, eDef, eMt, eMt0, eSl, oN, oS, sNil, sSeq, sExpr, sRet, sIf, sAsg, sPar, sSub, runF, Pat.bind, Pat.binds, gI, gNeg, gAdd, gIs, gIsN, gLen, gAbs, gTuple, gList, gApp, isL, gSet, gSetA, gIxA, gIx, gEq, gNe, eqA, eqS, AL.keyOf, eGet1, eGet2, eDic, gIn, List.getElem?_cons_zero, List.getElem?_cons_succ, List.getElem?_nil, List.set_cons_zero, List.set_cons_succ, List.map_cons, List.map_nil, List.append_eq, List.cons_append, List.nil_append, List.replicate_succ, List.replicate_zero, List.length_cons, List.length_nil, Option.bind_some, Option.bind_none, Option.map_some, Nat.reduceAdd, Nat.reduceSub, Nat.reduceLeDiff, if_true, ite_true, if_false, Bool.false_eq_true, reduceIte, gMod_eq hb, decide_eq_false hb, Bool.not_false]
      exact e
theorem cd_eq {a b : Int} {S : Sto} (h : 0 ≤ b) : common_divisor_ [.int a, .int b] S = some (.int (Int.gcd a b : Nat), S) := by
  obtain ⟨a', e, g⟩ := cd_loop (b.toNat + 1) a b S h (by omega)
  have e2 := sWhile_eq e (by intro z; cases z)
  simp only [common_divisor_, common_divisor_B, eV, eC, eB, eT, eU, eIf, eCh, eAnd, eOr, eNot, bAnd, bOr, bNot, bYes, aNil, aCons, eTup, eLst, eCall, eDef, eMt, eMt0, eSl, oN, oS, sNil, sSeq, sExpr, sRet, sIf, sAsg, sPar, sSub, runF, Pat.bind, Pat.binds, gI, gNeg, gAdd, gIs, gIsN, gLen, gAbs, gTuple, gList, gApp, isL, gSet, gSetA, gIxA, gIx, gEq, gNe, eqA, eqS, AL.keyOf, eGet1, eGet2, eDic, gIn, List.getElem?_cons_zero, List.getElem?_cons_succ, List.getElem?_nil, List.set_cons_zero, List.set_cons_succ, List.map_cons, List.map_nil, List.append_eq, List.cons_append, List.nil_append, List.replicate_succ, List.replicate_zero, List.length_cons, List.length_nil, Option.bind_some, Option.bind_none, Option.map_some, Nat.reduceAdd, Nat.reduceSub, Nat.reduceLeDiff, if_true, ite_true, if_false, Bool.false_eq_true, reduceIte, e2]
  rw [← g]
  split
  · rw [show -a' = (a'.natAbs : Int) by omega]
  · rw [show a' = (a'.natAbs : Int) by omega, Int.natAbs_natCast]
theorem ratio_eq {a b : Int} {S : Sto} (hb : b ≠ 0) (hB : b.natAbs < 2 ^ 2000) : ratio_ [.int a, .int b] S = some (frV (Fr.mk a b), S) := by
  by_cases hn : b < 0
  · have c := cd_eq (a := -a) (b := -b) (S := S) (by omega)
    have d1 := gDiv_eq (S := S) (g_div (a := -a) (b := -b) (x := -a) (by omega) (by rw [Int.natAbs_neg]; exact hB))
    have d2 := gDiv_eq (S := S) (g_div (a := -a) (b := -b) (x := -b) (by omega) (by rw [Int.natAbs_neg]; exact hB))
    simp only [ratio_, ratio_B, frV, eV, eC, eB, eT, eU, eIf, eCh, eAnd, eOr, eNot, bAnd, bOr, bNot, bYes, aNil, aCons, eTup, eLst, eCall, eDef, eMt, eMt0, eSl, oN, oS, sNil, sSeq, sExpr, sRet, sIf, sAsg, sPar, sSub, runF, Pat.bind, Pat.binds, gI, gNeg, gAdd, gIs, gIsN, gLen, gAbs, gTuple, gList, gApp, isL, gSet, gSetA, gIxA, gIx, gEq, gNe, eqA, eqS, AL.keyOf, eGet1, eGet2, eDic, gIn, List.getElem?_cons_zero, List.getElem?_cons_succ, List.getElem?_nil, List.set_cons_zero, List.set_cons_succ, List.map_cons, List.map_nil, List.append_eq, List.cons_append, List.nil_append, List.replicate_succ, List.replicate_zero, List.length_cons, List.length_nil, Option.bind_some, Option.bind_none, Option.map_some, Nat.reduceAdd, Nat.reduceSub, Nat.reduceLeDiff, if_true, ite_true, if_false, Bool.false_eq_true, reduceIte, decide_eq_true hn, c, d1, d2]
    unfold Fr.mk
    rw [if_pos hn, Int.neg_gcd, Int.gcd_neg]
  · have c := cd_eq (a := a) (b := b) (S := S) (by omega)
    have d1 := gDiv_eq (S := S) (g_div (a := a) (b := b) (x := a) hb hB)
    have d2 := gDiv_eq (S := S) (g_div (a := a) (b := b) (x := b) hb hB)
    simp only [ratio_, ratio_B, frV, eV, eC, eB, eT, eU, eIf, eCh, eAnd, eOr, eNot, bAnd, bOr, bNot, bYes, aNil, aCons, eTup, eLst, eCall, eDef, eMt, eMt0, eSl, oN, oS, sNil, sSeq, sExpr, sRet, sIf, sAsg, sPar, sSub, runF, Pat.bind, Pat.binds, gI, gNeg, gAdd, gIs, gIsN, gLen, gAbs, gTuple, gList, gApp, isL, gSet, gSetA, gIxA, gIx, gEq, gNe, eqA, eqS, AL.keyOf, eGet1, eGet2, eDic, gIn, List.getElem?_cons_zero, List.getElem?_cons_succ, List.getElem?_nil, List.set_cons_zero, List.set_cons_succ, List.map_cons, List.map_nil, List.append_eq, List.cons_append, List.nil_append, List.replicate_succ, List.replicate_zero, List.length_cons, List.length_nil, Option.bind_some, Option.bind_none, Option.map_some, Nat.reduceAdd, Nat.reduceSub, Nat.reduceLeDiff, if_true, ite_true, if_false, Bool.false_eq_true, reduceIte, decide_eq_false hn, c, d1, d2]
    unfold Fr.mk
    rw [if_neg hn]
theorem added_eq {x y : Fq} {S : Sto} (hx : Bd x) (hy : Bd y) : added_ [frV x, frV y] S = some (frV (Fr.add x y), S) := by
  have h1 := gMul_eq (S := S) (mw hx.b1 hy.b2)
  have h2 := gMul_eq (S := S) (mw hy.b1 hx.b2)
  have h3 := gMul_eq (S := S) (mw hx.b2 hy.b2)
  have h4 := gMul_eq (S := S) (mw hx.b1 hy.b1)
  have h5 := gMul_eq (S := S) (mw hx.b2 hy.b1)
  simp only [added_, added_B, frV, eV, eC, eB, eT, eU, eIf, eCh, eAnd, eOr, eNot, bAnd, bOr, bNot, bYes, aNil, aCons, eTup, eLst, eCall, eDef, eMt, eMt0, eSl, oN, oS, sNil, sSeq, sExpr, sRet, sIf, sAsg, sPar, sSub, runF, Pat.bind, Pat.binds, gI, gNeg, gAdd, gIs, gIsN, gLen, gAbs, gTuple, gList, gApp, isL, gSet, gSetA, gIxA, gIx, gEq, gNe, eqA, eqS, AL.keyOf, eGet1, eGet2, eDic, gIn, List.getElem?_cons_zero, List.getElem?_cons_succ, List.getElem?_nil, List.set_cons_zero, List.set_cons_succ, List.map_cons, List.map_nil, List.append_eq, List.cons_append, List.nil_append, List.replicate_succ, List.replicate_zero, List.length_cons, List.length_nil, Option.bind_some, Option.bind_none, Option.map_some, Nat.reduceAdd, Nat.reduceSub, Nat.reduceLeDiff, if_true, ite_true, if_false, Bool.false_eq_true, reduceIte, at0, at1, h1, h2, h3, h4, h5]
  rw [ratio_eq (Int.mul_ne_zero (by have := hx.pos; omega) (by have := hy.pos; omega)) (b_mul hx.b2 hy.b2)]
  rfl
theorem less_eq {x y : Fq} {S : Sto} (hx : Bd x) (hy : Bd y) : less_ [frV x, frV y] S = some (frV (Fr.sub x y), S) := by
  have h1 := gMul_eq (S := S) (mw hx.b1 hy.b2)
  have h2 := gMul_eq (S := S) (mw hy.b1 hx.b2)
  have h3 := gMul_eq (S := S) (mw hx.b2 hy.b2)
  have h4 := gMul_eq (S := S) (mw hx.b1 hy.b1)
  have h5 := gMul_eq (S := S) (mw hx.b2 hy.b1)
  simp only [less_, less_B, frV, eV, eC, eB, eT, eU, eIf, eCh, eAnd, eOr, eNot, bAnd, bOr, bNot, bYes, aNil, aCons, eTup, eLst, eCall, eDef, eMt, eMt0, eSl, oN, oS, sNil, sSeq, sExpr, sRet, sIf, sAsg, sPar, sSub, runF, Pat.bind, Pat.binds, gI, gNeg, gAdd, gIs, gIsN, gLen, gAbs, gTuple, gList, gApp, isL, gSet, gSetA, gIxA, gIx, gEq, gNe, eqA, eqS, AL.keyOf, eGet1, eGet2, eDic, gIn, List.getElem?_cons_zero, List.getElem?_cons_succ, List.getElem?_nil, List.set_cons_zero, List.set_cons_succ, List.map_cons, List.map_nil, List.append_eq, List.cons_append, List.nil_append, List.replicate_succ, List.replicate_zero, List.length_cons, List.length_nil, Option.bind_some, Option.bind_none, Option.map_some, Nat.reduceAdd, Nat.reduceSub, Nat.reduceLeDiff, if_true, ite_true, if_false, Bool.false_eq_true, reduceIte, at0, at1, h1, h2, h3, h4, h5]
  rw [ratio_eq (Int.mul_ne_zero (by have := hx.pos; omega) (by have := hy.pos; omega)) (b_mul hx.b2 hy.b2)]
  rfl
theorem parted_eq {x y : Fq} {S : Sto} (hx : Bd x) (hy : Bd y) (h0 : y.1 ≠ 0) : parted_ [frV x, frV y] S = some (frV (Fr.div x y), S) := by
  have h1 := gMul_eq (S := S) (mw hx.b1 hy.b2)
  have h2 := gMul_eq (S := S) (mw hy.b1 hx.b2)
  have h3 := gMul_eq (S := S) (mw hx.b2 hy.b2)
  have h4 := gMul_eq (S := S) (mw hx.b1 hy.b1)
  have h5 := gMul_eq (S := S) (mw hx.b2 hy.b1)
  simp only [parted_, parted_B, frV, eV, eC, eB, eT, eU, eIf, eCh, eAnd, eOr, eNot, bAnd, bOr, bNot, bYes, aNil, aCons, eTup, eLst, eCall, eDef, eMt, eMt0, eSl, oN, oS, sNil, sSeq, sExpr, sRet, sIf, sAsg, sPar, sSub, runF, Pat.bind, Pat.binds, gI, gNeg, gAdd, gIs, gIsN, gLen, gAbs, gTuple, gList, gApp, isL, gSet, gSetA, gIxA, gIx, gEq, gNe, eqA, eqS, AL.keyOf, eGet1, eGet2, eDic, gIn, List.getElem?_cons_zero, List.getElem?_cons_succ, List.getElem?_nil, List.set_cons_zero, List.set_cons_succ, List.map_cons, List.map_nil, List.append_eq, List.cons_append, List.nil_append, List.replicate_succ, List.replicate_zero, List.length_cons, List.length_nil, Option.bind_some, Option.bind_none, Option.map_some, Nat.reduceAdd, Nat.reduceSub, Nat.reduceLeDiff, if_true, ite_true, if_false, Bool.false_eq_true, reduceIte, at0, at1, h1, h2, h3, h4, h5]
  rw [ratio_eq (Int.mul_ne_zero (by have := hx.pos; omega) h0) (b_mul hx.b2 hy.b1)]
  rfl
theorem is_below_eq {x y : Fq} {S : Sto} (hx : Bd x) (hy : Bd y) : is_below_ [frV x, frV y] S = some (.bl (decide (x.1 * y.2 < y.1 * x.2)), S) := by
  have h1 := gMul_eq (S := S) (mw hx.b1 hy.b2)
  have h2 := gMul_eq (S := S) (mw hy.b1 hx.b2)
  simp only [is_below_, is_below_B, frV, eV, eC, eB, eT, eU, eIf, eCh, eAnd, eOr, eNot, bAnd, bOr, bNot, bYes, aNil, aCons, eTup, eLst, eCall, eDef, eMt, eMt0, eSl, oN, oS, sNil, sSeq, sExpr, sRet, sIf, sAsg, sPar, sSub, runF, Pat.bind, Pat.binds, gI, gNeg, gAdd, gIs, gIsN, gLen, gAbs, gTuple, gList, gApp, isL, gSet, gSetA, gIxA, gIx, gEq, gNe, eqA, eqS, AL.keyOf, eGet1, eGet2, eDic, gIn, List.getElem?_cons_zero, List.getElem?_cons_succ, List.getElem?_nil, List.set_cons_zero, List.set_cons_succ, List.map_cons, List.map_nil, List.append_eq, List.cons_append, List.nil_append, List.replicate_succ, List.replicate_zero, List.length_cons, List.length_nil, Option.bind_some, Option.bind_none, Option.map_some, Nat.reduceAdd, Nat.reduceSub, Nat.reduceLeDiff, if_true, ite_true, if_false, Bool.false_eq_true, reduceIte, at0, at1, h1, h2]
end K37
namespace K37
open PySem PySem.Spec PyProof.Rows L2 G Th AL
theorem ss {S : Sto} {n : Nat} {o o' : Ob} (h : S[n]? = some o) : (S.set n o')[n]? = some o' := List.getElem?_set_self (List.getElem?_eq_some_iff.mp h).1
theorem sn {S : Sto} {k n : Nat} {o : Ob} (h : n ≠ k) : (S.set n o)[k]? = S[k]? := List.getElem?_set_ne h
theorem sa {S T : Sto} {n : Nat} {o : Ob} (h : S[n]? = some o) : (S ++ T)[n]? = some o := by
  rw [List.getElem?_append_left (List.getElem?_eq_some_iff.mp h).1]
  exact h
theorem sl {S : Sto} {o : Ob} : (S ++ [o])[S.length]? = some o := by simp

def Fr1 (S S' : Sto) : Prop := ∀ (k : Nat) (o : Ob), k ≠ 1 → S[k]? = some o → S'[k]? = some o
theorem Fr1.refl (S : Sto) : Fr1 S S := fun _ _ _ h => h
theorem Fr1.trans {S S1 S2 : Sto} (a : Fr1 S S1) (b : Fr1 S1 S2) : Fr1 S S2 := fun k o n h => b k o n (a k o n h)
theorem Fr1.app (S T : Sto) : Fr1 S (S ++ T) := fun _ _ _ h => sa h
theorem Fr1.put {S : Sto} {o : Ob} : Fr1 S (S.set 1 o) := fun k o' n h => by rw [sn (Ne.symm n)]; exact h
structure Tp (S : Sto) (B : Int) : Prop where
  ex : ∃ (ns : List Int) (i q n : Int), S[0]? = some (.lst (ns.map .int)) ∧ S[1]? = some (.lst [.ref 0, .int i, .int q, .int n]) ∧ 0 ≤ i ∧ 0 ≤ q ∧ 0 ≤ n ∧ n ≤ B ∧ ns.length ≤ 63
theorem Tp.mono {S : Sto} {B B' : Int} (h : Tp S B) (hb : B ≤ B') : Tp S B' := by
  obtain ⟨ns, i, q, n, h0, h1, a, b, c, d, e⟩ := h.ex
  exact ⟨ns, i, q, n, h0, h1, a, b, c, by omega, e⟩
theorem Tp.app {S T : Sto} {B : Int} (h : Tp S B) : Tp (S ++ T) B := by
  obtain ⟨ns, i, q, n, h0, h1, r⟩ := h.ex
  exact ⟨ns, i, q, n, sa h0, sa h1, r⟩
theorem Tp.set {S : Sto} {B : Int} {k : Nat} {o : Ob} (h : Tp S B) (hk : 2 ≤ k) : Tp (S.set k o) B := by
  obtain ⟨ns, i, q, n, h0, h1, r⟩ := h.ex
  exact ⟨ns, i, q, n, by rw [sn (by omega)]; exact h0, by rw [sn (by omega)]; exact h1, r⟩
theorem Tp.two {S : Sto} {B : Int} (h : Tp S B) : 2 ≤ S.length := by
  obtain ⟨ns, i, q, n, h0, h1, r⟩ := h.ex
  exact (List.getElem?_eq_some_iff.mp h1).1
theorem mapO_ints {S : Sto} {k : Nat} : ∀ ns : List Int, mapO (toD S (k + 1)) (ns.map Val.int) = some (ns.map PyData.int)
  | [] => rfl
  | n :: r => by
    rw [List.map_cons, mapO, mapO_ints r]
    rfl
theorem lay_ints : ∀ ns : List Int, PyData.canLayAll0 (ns.map PyData.int) = true
  | [] => rfl
  | n :: r => by
    simp only [List.map_cons, PyData.canLayAll0, PyData.canLay0, Bool.true_and]
    exact lay_ints r
theorem depth_ints : ∀ ns : List Int, PyData.depthAll (ns.map PyData.int) ≤ 1
  | [] => by simp [PyData.depthAll]
  | n :: r => by
    have h := depth_ints r
    simp only [List.map_cons, PyData.depthAll, PyData.depth]
    omega
theorem shaped_ints (ns : List Int) : SeqAt.shaped (.list (ns.map PyData.int)) = true := by
  have h1 := depth_ints ns
  show (PyData.canLay0 (.list (ns.map PyData.int)) && decide (PyData.depth (.list (ns.map PyData.int)) ≤ 64)) = true
  rw [Bool.and_eq_true]
  refine ⟨by simp only [PyData.canLay0]; exact lay_ints ns, decide_eq_true ?_⟩
  simp only [PyData.depth]
  omega

theorem ne_nil {S : Sto} {a b : Nat} {ns : List Int} (h0 : S[a]? = some (.lst (ns.map .int))) (h1 : S[b]? = some (.lst [])) : gNe (.ref a) (.ref b) S = some (.bl (!ns.isEmpty), S) := by
  have d0 : toD S 40 (.ref a) = some (.list (ns.map PyData.int)) := by
    rw [show (40 : Nat) = 38 + 1 + 1 from rfl, toD]
    simp only [h0, mapO_ints, Option.map_some]
  have d1 : toD S 40 (.ref b) = some (.list []) := by
    rw [show (40 : Nat) = 38 + 1 + 1 from rfl, toD]
    simp only [h1, mapO, Option.map_some]
  unfold gNe eqA
  simp only [eqS, d0, d1, shaped_ints ns, show SeqAt.shaped (.list []) = true from by decide, and_self, if_true, Option.map_some]
  cases ns <;> rfl
theorem small_pow {x : Int} (h0 : 0 ≤ x) (h1 : x < 2 ^ 63) : CPow x 5 := ⟨by decide, by decide, by have : (2 : Int) ^ 63 = 9223372036854775808 := rfl; have : (2 : Nat) ^ 64 = 18446744073709551616 := rfl; omega⟩
theorem pow18 : CPow 10 18 := ⟨by decide, by decide, by decide⟩
theorem at_ints {L : List Int} {d : Int} (h0 : 0 ≤ d) (h1 : d < (L.length : Int)) : ∃ v, atI (L.map Val.int) d = some (.int v) ∧ v ∈ L := by
  obtain ⟨n, rfl⟩ := Int.eq_ofNat_of_zero_le h0
  have hn : n < L.length := by omega
  refine ⟨L[n], atI_nat (j := n) ?_, List.getElem_mem hn⟩
  rw [List.getElem?_map, List.getElem?_eq_getElem hn]
  rfl

end K37
namespace K37
open PySem PySem.Spec PyProof.Rows L2 G Th AL
structure Hs where
  name : Str
  slow : Fq
  fast : Fq
structure Lk where
  fr : Str
  to : Str
  least : Fq
  most : Option Fq
structure Fl where
  hs : List Hs
  ls : List Lk
  src : Str
inductive Dd where
  | mark | send (l : Nat) | hear (k : Nat)
structure Ev where
  name : Str
  stamp : Fq
  deed : Dd
abbrev Pr := Option Fq × Option Fq
structure Mv where
  x : Nat
  lo : Fq
  hi : Option Fq
def oV : Option Fq → Val
  | none => .non
  | some x => frV x
def prV (p : Pr) : Val := .tup [oV p.1, oV p.2]
def hsV (h : Hs) : Val := .tup [.str h.name, frV h.slow, frV h.fast]
def lkV (l : Lk) : Val := .tup [.str l.fr, .str l.to, frV l.least, oV l.most]
def flV (f : Fl) : Val := .tup [.tup (f.hs.map hsV), .tup (f.ls.map lkV), .str f.src]
def ddV : Dd → Val
  | .mark => .tup [.str "mark"]
  | .send l => .tup [.str "send", .int (l : Nat)]
  | .hear k => .tup [.str "hear", .int (k : Nat)]
def evV (e : Ev) : Val := .tup [.str e.name, frV e.stamp, ddV e.deed]
def hiV (f : Fl) (es : List Ev) : Val := .tup [flV f, .tup (es.map evV)]
def mvV (m : Mv) : Val := .tup [.int (m.x : Nat), .tup [frV m.lo, oV m.hi]]
def addO : Option Fq → Option Fq → Option Fq
  | some a, some b => some (Fr.add a b)
  | _, _ => none
def BdO (o : Option Fq) : Prop := ∀ x, o = some x → Bd x
theorem isNon_oV (o : Option Fq) : AL.isNon (oV o) = o.isNone := by cases o <;> rfl
theorem isNon_frV (x : Fq) : AL.isNon (frV x) = false := rfl
theorem isNon_non : AL.isNon .non = true := rfl
theorem told_eq {a b : Option Fq} {S : Sto} (ha : BdO a) (hb : BdO b) : added_told_ [oV a, oV b] S = some (oV (addO a b), S) := by
  cases a with
  | none => simp only [added_told_, added_told_B, eV, eC, eB, eT, eU, eIf, eCh, eAnd, eOr, eNot, bAnd, bOr, bNot, bYes, aNil, aCons, eTup, eLst, eCall, eDef, eMt, eMt0, eSl, oN, oS, sNil, sSeq, sExpr, sRet, sIf, sAsg, sPar, sSub, runF, Pat.bind, Pat.binds, gI, gNeg, gAdd, gIs, gIsN, gLen, gAbs, gTuple, gList, gApp, isL, gSet, gSetA, gIxA, gIx, gEq, gNe, eqA, eqS, AL.keyOf, eGet1, eGet2, eDic, gIn, List.getElem?_cons_zero, List.getElem?_cons_succ, List.getElem?_nil, List.set_cons_zero, List.set_cons_succ, List.map_cons, List.map_nil, List.append_eq, List.cons_append, List.nil_append, List.replicate_succ, List.replicate_zero, List.length_cons, List.length_nil, Option.bind_some, Option.bind_none, Option.map_some, Nat.reduceAdd, Nat.reduceSub, Nat.reduceLeDiff, if_true, ite_true, if_false, Bool.false_eq_true, reduceIte, oV, addO, isNon_non]
  | some x =>
    cases b with
    | none => simp only [added_told_, added_told_B, eV, eC, eB, eT, eU, eIf, eCh, eAnd, eOr, eNot, bAnd, bOr, bNot, bYes, aNil, aCons, eTup, eLst, eCall, eDef, eMt, eMt0, eSl, oN, oS, sNil, sSeq, sExpr, sRet, sIf, sAsg, sPar, sSub, runF, Pat.bind, Pat.binds, gI, gNeg, gAdd, gIs, gIsN, gLen, gAbs, gTuple, gList, gApp, isL, gSet, gSetA, gIxA, gIx, gEq, gNe, eqA, eqS, AL.keyOf, eGet1, eGet2, eDic, gIn, List.getElem?_cons_zero, List.getElem?_cons_succ, List.getElem?_nil, List.set_cons_zero, List.set_cons_succ, List.map_cons, List.map_nil, List.append_eq, List.cons_append, List.nil_append, List.replicate_succ, List.replicate_zero, List.length_cons, List.length_nil, Option.bind_some, Option.bind_none, Option.map_some, Nat.reduceAdd, Nat.reduceSub, Nat.reduceLeDiff, if_true, ite_true, if_false, Bool.false_eq_true, reduceIte, oV, addO, isNon_frV, isNon_non]
    | some y => 
      have e := added_eq (S := S) (ha x rfl) (hb y rfl)
      simp only [added_told_, added_told_B, eV, eC, eB, eT, eU, eIf, eCh, eAnd, eOr, eNot, bAnd, bOr, bNot, bYes, aNil, aCons, eTup, eLst, eCall, eDef, eMt, eMt0, eSl, oN, oS, sNil, sSeq, sExpr, sRet, sIf, sAsg, sPar, sSub, runF, Pat.bind, Pat.binds, gI, gNeg, gAdd, gIs, gIsN, gLen, gAbs, gTuple, gList, gApp, isL, gSet, gSetA, gIxA, gIx, gEq, gNe, eqA, eqS, AL.keyOf, eGet1, eGet2, eDic, gIn, List.getElem?_cons_zero, List.getElem?_cons_succ, List.getElem?_nil, List.set_cons_zero, List.set_cons_succ, List.map_cons, List.map_nil, List.append_eq, List.cons_append, List.nil_append, List.replicate_succ, List.replicate_zero, List.length_cons, List.length_nil, Option.bind_some, Option.bind_none, Option.map_some, Nat.reduceAdd, Nat.reduceSub, Nat.reduceLeDiff, if_true, ite_true, if_false, Bool.false_eq_true, reduceIte, oV, addO, isNon_frV, e]
def sel (b : Bool) (p : Pr) : Option Fq := if b then p.2 else p.1
def sI (b : Bool) : Val := .int (if b then 1 else 0)
theorem at_nat {α : Type} {xs : List α} {j : Nat} {v : α} (h : xs[j]? = some v) : atI xs (j : Int) = some v := atI_nat h
theorem map_get {α β : Type} {f : α → β} {xs : List α} {j : Nat} {v : α} (h : xs[j]? = some v) : (xs.map f)[j]? = some (f v) := by rw [List.getElem?_map, h]; rfl
theorem moved_eq {m : Mv} {b : Bool} {n : Nat} {ps : List Pr} {p : Pr} {S : Sto} (hn : S[n]? = some (.lst (ps.map prV))) (hp : ps[m.x]? = some p) (h1 : BdO (sel b p)) (h2 : BdO (sel b (some m.lo, m.hi))) : moved_end_ [mvV m, .ref n, sI b] S = some (oV (addO (sel b p) (sel b (some m.lo, m.hi))), S) := by
  have e1 := at_nat (map_get (f := prV) hp)
  have e2 := told_eq (S := S) h1 h2
  cases b with
  | true =>
    simp only [sel, if_true] at e2
    simp only [moved_end_, moved_end_B, mvV, sI, eV, eC, eB, eT, eU, eIf, eCh, eAnd, eOr, eNot, bAnd, bOr, bNot, bYes, aNil, aCons, eTup, eLst, eCall, eDef, eMt, eMt0, eSl, oN, oS, sNil, sSeq, sExpr, sRet, sIf, sAsg, sPar, sSub, runF, Pat.bind, Pat.binds, gI, gNeg, gAdd, gIs, gIsN, gLen, gAbs, gTuple, gList, gApp, isL, gSet, gSetA, gIxA, gIx, gEq, gNe, eqA, eqS, AL.keyOf, eGet1, eGet2, eDic, gIn, List.getElem?_cons_zero, List.getElem?_cons_succ, List.getElem?_nil, List.set_cons_zero, List.set_cons_succ, List.map_cons, List.map_nil, List.append_eq, List.cons_append, List.nil_append, List.replicate_succ, List.replicate_zero, List.length_cons, List.length_nil, Option.bind_some, Option.bind_none, Option.map_some, Nat.reduceAdd, Nat.reduceSub, Nat.reduceLeDiff, if_true, ite_true, if_false, Bool.false_eq_true, reduceIte, hn, e1, prV, at1, sel, e2]
  | false =>
    simp only [sel, if_false, Bool.false_eq_true, oV] at e2
    simp only [moved_end_, moved_end_B, mvV, sI, eV, eC, eB, eT, eU, eIf, eCh, eAnd, eOr, eNot, bAnd, bOr, bNot, bYes, aNil, aCons, eTup, eLst, eCall, eDef, eMt, eMt0, eSl, oN, oS, sNil, sSeq, sExpr, sRet, sIf, sAsg, sPar, sSub, runF, Pat.bind, Pat.binds, gI, gNeg, gAdd, gIs, gIsN, gLen, gAbs, gTuple, gList, gApp, isL, gSet, gSetA, gIxA, gIx, gEq, gNe, eqA, eqS, AL.keyOf, eGet1, eGet2, eDic, gIn, List.getElem?_cons_zero, List.getElem?_cons_succ, List.getElem?_nil, List.set_cons_zero, List.set_cons_succ, List.map_cons, List.map_nil, List.append_eq, List.cons_append, List.nil_append, List.replicate_succ, List.replicate_zero, List.length_cons, List.length_nil, Option.bind_some, Option.bind_none, Option.map_some, Nat.reduceAdd, Nat.reduceSub, Nat.reduceLeDiff, if_true, ite_true, if_false, Bool.false_eq_true, reduceIte, hn, e1, prV, at0, sel, oV, e2]
def endOf (ps : List Pr) (b : Bool) (m : Mv) : Option Fq := addO (sel b (ps.getD m.x (none, none))) (sel b (some m.lo, m.hi))
structure MvOk (ps : List Pr) (m : Mv) : Prop where
  x : m.x < ps.length
  p : ∀ b, BdO (sel b (ps.getD m.x (none, none)))
  m : ∀ b, BdO (sel b (some m.lo, m.hi))
theorem ends_filter {ps : List Pr} {b : Bool} : ∀ ms : List Mv, (ms.map fun m => oV (endOf ps b m)).filter (fun v => !AL.isNon v) = (ms.filterMap (endOf ps b)).map frV
  | [] => rfl
  | m :: ms => by
    rw [List.map_cons, List.filter_cons, isNon_oV, List.filterMap_cons, ends_filter ms]
    cases e : endOf ps b m with
    | none => rfl
    | some x => rfl
theorem ends_eq {ms : List Mv} {b : Bool} {r n : Nat} {ps : List Pr} {S : Sto} (hr : S[r]? = some (.lst (ms.map mvV))) (hn : S[n]? = some (.lst (ps.map prV))) (hl : ms.length ≤ 1000) (ok : ∀ m ∈ ms, MvOk ps m) :
    ends_told_ [.ref r, .ref n, sI b] S = some (.ref (S.length + 1), S ++ [.lst (ms.map fun m => oV (endOf ps b m)), .lst ((ms.filterMap (endOf ps b)).map frV)]) := by
  have step1 : lcR (.nm 4) bYes (eDef moved_end_ 3 (aCons (eV 4) (aCons (eV 1) (aCons (eV 2) aNil)))) (fun S' => S'[r]? = some (.lst (ms.map mvV))) [some (.ref r), some (.ref n), some (sI b), none, none, none] (ms.map mvV) [] S = some (ms.map fun m => oV (endOf ps b m), S) := by
    have key : ∀ m ∈ ms, moved_end_ [mvV m, .ref n, sI b] S = some (oV (endOf ps b m), S) := fun m hm => by
      obtain ⟨o1, o2, o3⟩ := ok m hm
      have hp : ps[m.x]? = some (ps.getD m.x (none, none)) := by simp [List.getD, List.getElem?_eq_getElem o1]
      exact moved_eq hn hp (o2 b) (o3 b)
    let g : Val → Val := fun v => match moved_end_ [v, .ref n, sI b] S with
      | some (w, _) => w
      | none => .non
    have h := lcR_pure (p := .nm 4) (t := bYes) (f := eDef moved_end_ 3 (aCons (eV 4) (aCons (eV 1) (aCons (eV 2) aNil)))) (ok := fun S' => S'[r]? = some (.lst (ms.map mvV))) (ρ := [some (.ref r), some (.ref n), some (sI b), none, none, none]) hr (fun _ => true) g (ms.map mvV) [] (by simp; omega) (fun v hv => ?_)
    · rw [h, List.filter_eq_self.mpr (fun _ _ => rfl), List.nil_append, List.map_map]
      congr 2
      apply List.map_congr_left
      intro m hm
      simp only [g, Function.comp, key m hm]
    · obtain ⟨m, hm, rfl⟩ := List.mem_map.mp hv
      refine ⟨[some (.ref r), some (.ref n), some (sI b), none, some (mvV m), none], rfl, rfl, fun _ => ?_⟩
      simp only [eV, eC, eB, eT, eU, eIf, eCh, eAnd, eOr, eNot, bAnd, bOr, bNot, bYes, aNil, aCons, eTup, eLst, eCall, eDef, eMt, eMt0, eSl, oN, oS, sNil, sSeq, sExpr, sRet, sIf, sAsg, sPar, sSub, runF, Pat.bind, Pat.binds, gI, gNeg, gAdd, gIs, gIsN, gLen, gAbs, gTuple, gList, gApp, isL, gSet, gSetA, gIxA, gIx, gEq, gNe, eqA, eqS, AL.keyOf, eGet1, eGet2, eDic, gIn, List.getElem?_cons_zero, List.getElem?_cons_succ, List.getElem?_nil, List.set_cons_zero, List.set_cons_succ, List.map_cons, List.map_nil, List.append_eq, List.cons_append, List.nil_append, List.replicate_succ, List.replicate_zero, List.length_cons, List.length_nil, Option.bind_some, Option.bind_none, Option.map_some, Nat.reduceAdd, Nat.reduceSub, Nat.reduceLeDiff, if_true, ite_true, if_false, Bool.false_eq_true, reduceIte, key m hm, g]
  generalize hS1 : S ++ [Ob.lst (ms.map fun m => oV (endOf ps b m))] = S1
  have l1 : S1[S.length]? = some (.lst (ms.map fun m => oV (endOf ps b m))) := by rw [← hS1]; exact sl
  have len1 : S1.length = S.length + 1 := by rw [← hS1]; simp
  have step2 : lcR (.nm 5) (eT (eB gIsN (eV 5) (eC .non))) (eV 5) (fun S' => S'[S.length]? = some (.lst (ms.map fun m => oV (endOf ps b m)))) [some (.ref r), some (.ref n), some (sI b), some (.ref S.length), none, none] (ms.map fun m => oV (endOf ps b m)) [] S1 = some ((ms.filterMap (endOf ps b)).map frV, S1) := by
    have h := lcR_pure (p := .nm 5) (t := eT (eB gIsN (eV 5) (eC .non))) (f := eV 5) (ok := fun S' => S'[S.length]? = some (.lst (ms.map fun m => oV (endOf ps b m)))) (ρ := [some (.ref r), some (.ref n), some (sI b), some (.ref S.length), none, none]) l1 (fun v => !AL.isNon v) id (ms.map fun m => oV (endOf ps b m)) [] (by simp; omega) (fun v hv => ?_)
    · rw [h]
      simp only [List.nil_append, List.map_id_fun, id]
      congr 2
      exact ends_filter ms
    · refine ⟨[some (.ref r), some (.ref n), some (sI b), some (.ref S.length), none, some v], rfl, ?_, fun _ => ?_⟩
      · simp only [eV, eC, eB, eT, eU, eIf, eCh, eAnd, eOr, eNot, bAnd, bOr, bNot, bYes, aNil, aCons, eTup, eLst, eCall, eDef, eMt, eMt0, eSl, oN, oS, sNil, sSeq, sExpr, sRet, sIf, sAsg, sPar, sSub, runF, Pat.bind, Pat.binds, gI, gNeg, gAdd, gIs, gIsN, gLen, gAbs, gTuple, gList, gApp, isL, gSet, gSetA, gIxA, gIx, gEq, gNe, eqA, eqS, AL.keyOf, eGet1, eGet2, eDic, gIn, List.getElem?_cons_zero, List.getElem?_cons_succ, List.getElem?_nil, List.set_cons_zero, List.set_cons_succ, List.map_cons, List.map_nil, List.append_eq, List.cons_append, List.nil_append, List.replicate_succ, List.replicate_zero, List.length_cons, List.length_nil, Option.bind_some, Option.bind_none, Option.map_some, Nat.reduceAdd, Nat.reduceSub, Nat.reduceLeDiff, if_true, ite_true, if_false, Bool.false_eq_true, reduceIte]
      · simp only [eV, eC, eB, eT, eU, eIf, eCh, eAnd, eOr, eNot, bAnd, bOr, bNot, bYes, aNil, aCons, eTup, eLst, eCall, eDef, eMt, eMt0, eSl, oN, oS, sNil, sSeq, sExpr, sRet, sIf, sAsg, sPar, sSub, runF, Pat.bind, Pat.binds, gI, gNeg, gAdd, gIs, gIsN, gLen, gAbs, gTuple, gList, gApp, isL, gSet, gSetA, gIxA, gIx, gEq, gNe, eqA, eqS, AL.keyOf, eGet1, eGet2, eDic, gIn, List.getElem?_cons_zero, List.getElem?_cons_succ, List.getElem?_nil, List.set_cons_zero, List.set_cons_succ, List.map_cons, List.map_nil, List.append_eq, List.cons_append, List.nil_append, List.replicate_succ, List.replicate_zero, List.length_cons, List.length_nil, Option.bind_some, Option.bind_none, Option.map_some, Nat.reduceAdd, Nat.reduceSub, Nat.reduceLeDiff, if_true, ite_true, if_false, Bool.false_eq_true, reduceIte, id]
  simp only [ends_told_, ends_told_B, eLc, iSeq, wipeR, eV, eC, eB, eT, eU, eIf, eCh, eAnd, eOr, eNot, bAnd, bOr, bNot, bYes, aNil, aCons, eTup, eLst, eCall, eDef, eMt, eMt0, eSl, oN, oS, sNil, sSeq, sExpr, sRet, sIf, sAsg, sPar, sSub, runF, Pat.bind, Pat.binds, gI, gNeg, gAdd, gIs, gIsN, gLen, gAbs, gTuple, gList, gApp, isL, gSet, gSetA, gIxA, gIx, gEq, gNe, eqA, eqS, AL.keyOf, eGet1, eGet2, eDic, gIn, List.getElem?_cons_zero, List.getElem?_cons_succ, List.getElem?_nil, List.set_cons_zero, List.set_cons_succ, List.map_cons, List.map_nil, List.append_eq, List.cons_append, List.nil_append, List.replicate_succ, List.replicate_zero, List.length_cons, List.length_nil, Option.bind_some, Option.bind_none, Option.map_some, Nat.reduceAdd, Nat.reduceSub, Nat.reduceLeDiff, if_true, ite_true, if_false, Bool.false_eq_true, reduceIte, hr, step1, hS1, l1, step2, len1]
  rw [← hS1]
  simp
end K37
namespace K37
open PySem PySem.Spec PyProof.Rows L2 G Th AL
def leastO (acc : Option Fq) (x : Fq) : Option Fq := match acc with
  | none => some x
  | some g => if x.1 * g.2 < g.1 * x.2 then some x else some g
def least (qs : List Fq) : Option Fq := qs.foldl leastO none
theorem least_step (qs : List Fq) (i : Nat) (q : Fq) (h : qs[i]? = some q) : (qs.take (i + 1)).foldl leastO none = leastO ((qs.take i).foldl leastO none) q := by
  rw [List.take_add_one, h, List.foldl_append]
  rfl
theorem least_mem : ∀ (qs : List Fq) (acc : Option Fq) (x : Fq), qs.foldl leastO acc = some x → x ∈ qs ∨ acc = some x
  | [], acc, x, h => .inr h
  | q :: qs, acc, x, h => by
    rcases least_mem qs _ x h with h | h
    · exact .inl (List.mem_cons_of_mem _ h)
    · cases acc with
      | none =>
        cases h
        exact .inl (List.mem_cons_self ..)
      | some g =>
        simp only [leastO] at h
        split at h
        · cases h
          exact .inl (List.mem_cons_self ..)
        · exact .inr h
theorem least_eq {n : Nat} {qs : List Fq} {S : Sto} (hn : S[n]? = some (.lst (qs.map frV))) (hB : ∀ q ∈ qs, Bd q) : least_of_ [.ref n] S = some (oV (least qs), S) := by
  obtain ⟨ρ', S', e, rfl, y, rfl⟩ := forR_run (p := .nm 2) (g := sIf (bOr (eT (eB gIs (eV 1) (eC .non))) (eT (eDef is_below_ 2 (aCons (eV 2) (aCons (eV 1) aNil))))) (sAsg (.nm 1) (eV 2)) sNil) (ok := fun S' => S'[n]? = some (.lst (qs.map frV)))
    (fun i ρ S' => S' = S ∧ ∃ y, ρ = [some (.ref n), some (oV ((qs.take i).foldl leastO none)), y]) (vs := qs.map frV) (ρ := [some (.ref n), some .non, none]) (S := S) (fun i ρ S' h => by rw [h.1]; exact hn) ⟨rfl, none, rfl⟩ (fun i v ρ S' hv ⟨h1, y, h2⟩ => by
      subst h1 h2
      rw [List.getElem?_map] at hv
      obtain ⟨q, hq, rfl⟩ := Option.map_eq_some_iff.mp hv
      have bq := hB q (List.mem_of_getElem? hq)
      refine ⟨[some (.ref n), some (oV ((qs.take i).foldl leastO none)), some (frV q)], [some (.ref n), some (oV ((qs.take (i + 1)).foldl leastO none)), some (frV q)], _, rfl, ?_, rfl, _, rfl⟩
      rw [least_step qs i q hq]
      cases hacc : (qs.take i).foldl leastO none with
      | none => simp only [eV, eC, eB, eT, eU, eIf, eCh, eAnd, eOr, eNot, bAnd, bOr, bNot, bYes, aNil, aCons, eTup, eLst, eCall, eDef, eMt, eMt0, eSl, oN, oS, sNil, sSeq, sExpr, sRet, sIf, sAsg, sPar, sSub, runF, Pat.bind, Pat.binds, gI, gNeg, gAdd, gIs, gIsN, gLen, gAbs, gTuple, gList, gApp, isL, gSet, gSetA, gIxA, gIx, gEq, gNe, eqA, eqS, AL.keyOf, eGet1, eGet2, eDic, gIn, List.getElem?_cons_zero, List.getElem?_cons_succ, List.getElem?_nil, List.set_cons_zero, List.set_cons_succ, List.map_cons, List.map_nil, List.append_eq, List.cons_append, List.nil_append, List.replicate_succ, List.replicate_zero, List.length_cons, List.length_nil, Option.bind_some, Option.bind_none, Option.map_some, Nat.reduceAdd, Nat.reduceSub, Nat.reduceLeDiff, if_true, ite_true, if_false, Bool.false_eq_true, reduceIte, oV, isNon_non, leastO]
      | some g =>
        have bg : Bd g := by
          rcases least_mem _ _ _ hacc with m | m
          · exact hB g (List.mem_of_mem_take m)
          · cases m
        have e := is_below_eq (S := S') bq bg
        by_cases hc : q.1 * g.2 < g.1 * q.2
        · simp only [eV, eC, eB, eT, eU, eIf, eCh, eAnd, eOr, eNot, bAnd, bOr, bNot, bYes, aNil, aCons, eTup, eLst, eCall, eDef, eMt, eMt0, eSl, oN, oS, sNil, sSeq, sExpr, sRet, sIf, sAsg, sPar, sSub, runF, Pat.bind, Pat.binds, gI, gNeg, gAdd, gIs, gIsN, gLen, gAbs, gTuple, gList, gApp, isL, gSet, gSetA, gIxA, gIx, gEq, gNe, eqA, eqS, AL.keyOf, eGet1, eGet2, eDic, gIn, List.getElem?_cons_zero, List.getElem?_cons_succ, List.getElem?_nil, List.set_cons_zero, List.set_cons_succ, List.map_cons, List.map_nil, List.append_eq, List.cons_append, List.nil_append, List.replicate_succ, List.replicate_zero, List.length_cons, List.length_nil, Option.bind_some, Option.bind_none, Option.map_some, Nat.reduceAdd, Nat.reduceSub, Nat.reduceLeDiff, if_true, ite_true, if_false, Bool.false_eq_true, reduceIte, oV, isNon_frV, leastO, e, decide_eq_true hc, if_pos hc]
        · simp only [eV, eC, eB, eT, eU, eIf, eCh, eAnd, eOr, eNot, bAnd, bOr, bNot, bYes, aNil, aCons, eTup, eLst, eCall, eDef, eMt, eMt0, eSl, oN, oS, sNil, sSeq, sExpr, sRet, sIf, sAsg, sPar, sSub, runF, Pat.bind, Pat.binds, gI, gNeg, gAdd, gIs, gIsN, gLen, gAbs, gTuple, gList, gApp, isL, gSet, gSetA, gIxA, gIx, gEq, gNe, eqA, eqS, AL.keyOf, eGet1, eGet2, eDic, gIn, List.getElem?_cons_zero, List.getElem?_cons_succ, List.getElem?_nil, List.set_cons_zero, List.set_cons_succ, List.map_cons, List.map_nil, List.append_eq, List.cons_append, List.nil_append, List.replicate_succ, List.replicate_zero, List.length_cons, List.length_nil, Option.bind_some, Option.bind_none, Option.map_some, Nat.reduceAdd, Nat.reduceSub, Nat.reduceLeDiff, if_true, ite_true, if_false, Bool.false_eq_true, reduceIte, oV, isNon_frV, leastO, e, decide_eq_false hc, if_neg hc])
  simp only [least_of_, least_of_B, sFor, iSeq, eV, eC, eB, eT, eU, eIf, eCh, eAnd, eOr, eNot, bAnd, bOr, bNot, bYes, aNil, aCons, eTup, eLst, eCall, eDef, eMt, eMt0, eSl, oN, oS, sNil, sSeq, sExpr, sRet, sIf, sAsg, sPar, sSub, runF, Pat.bind, Pat.binds, gI, gNeg, gAdd, gIs, gIsN, gLen, gAbs, gTuple, gList, gApp, isL, gSet, gSetA, gIxA, gIx, gEq, gNe, eqA, eqS, AL.keyOf, eGet1, eGet2, eDic, gIn, List.getElem?_cons_zero, List.getElem?_cons_succ, List.getElem?_nil, List.set_cons_zero, List.set_cons_succ, List.map_cons, List.map_nil, List.append_eq, List.cons_append, List.nil_append, List.replicate_succ, List.replicate_zero, List.length_cons, List.length_nil, Option.bind_some, Option.bind_none, Option.map_some, Nat.reduceAdd, Nat.reduceSub, Nat.reduceLeDiff, if_true, ite_true, if_false, Bool.false_eq_true, reduceIte, hn, e]
  rw [List.length_map, List.take_length]
  rfl
def greatestO (acc : Option Fq) (x : Fq) : Option Fq := match acc with
  | none => some x
  | some g => if g.1 * x.2 < x.1 * g.2 then some x else some g
def greatest (qs : List Fq) : Option Fq := qs.foldl greatestO none
theorem greatest_step (qs : List Fq) (i : Nat) (q : Fq) (h : qs[i]? = some q) : (qs.take (i + 1)).foldl greatestO none = greatestO ((qs.take i).foldl greatestO none) q := by
  rw [List.take_add_one, h, List.foldl_append]
  rfl
theorem greatest_mem : ∀ (qs : List Fq) (acc : Option Fq) (x : Fq), qs.foldl greatestO acc = some x → x ∈ qs ∨ acc = some x
  | [], acc, x, h => .inr h
  | q :: qs, acc, x, h => by
    rcases greatest_mem qs _ x h with h | h
    · exact .inl (List.mem_cons_of_mem _ h)
    · cases acc with
      | none =>
        cases h
        exact .inl (List.mem_cons_self ..)
      | some g =>
        simp only [greatestO] at h
        split at h
        · cases h
          exact .inl (List.mem_cons_self ..)
        · exact .inr h
theorem greatest_eq {n : Nat} {qs : List Fq} {S : Sto} (hn : S[n]? = some (.lst (qs.map frV))) (hB : ∀ q ∈ qs, Bd q) : greatest_of_ [.ref n] S = some (oV (greatest qs), S) := by
  obtain ⟨ρ', S', e, rfl, y, rfl⟩ := forR_run (p := .nm 2) (g := sIf (bOr (eT (eB gIs (eV 1) (eC .non))) (eT (eDef is_below_ 2 (aCons (eV 1) (aCons (eV 2) aNil))))) (sAsg (.nm 1) (eV 2)) sNil) (ok := fun S' => S'[n]? = some (.lst (qs.map frV)))
    (fun i ρ S' => S' = S ∧ ∃ y, ρ = [some (.ref n), some (oV ((qs.take i).foldl greatestO none)), y]) (vs := qs.map frV) (ρ := [some (.ref n), some .non, none]) (S := S) (fun i ρ S' h => by rw [h.1]; exact hn) ⟨rfl, none, rfl⟩ (fun i v ρ S' hv ⟨h1, y, h2⟩ => by
      subst h1 h2
      rw [List.getElem?_map] at hv
      obtain ⟨q, hq, rfl⟩ := Option.map_eq_some_iff.mp hv
      have bq := hB q (List.mem_of_getElem? hq)
      refine ⟨[some (.ref n), some (oV ((qs.take i).foldl greatestO none)), some (frV q)], [some (.ref n), some (oV ((qs.take (i + 1)).foldl greatestO none)), some (frV q)], _, rfl, ?_, rfl, _, rfl⟩
      rw [greatest_step qs i q hq]
      cases hacc : (qs.take i).foldl greatestO none with
      | none => simp only [eV, eC, eB, eT, eU, eIf, eCh, eAnd, eOr, eNot, bAnd, bOr, bNot, bYes, aNil, aCons, eTup, eLst, eCall, eDef, eMt, eMt0, eSl, oN, oS, sNil, sSeq, sExpr, sRet, sIf, sAsg, sPar, sSub, runF, Pat.bind, Pat.binds, gI, gNeg, gAdd, gIs, gIsN, gLen, gAbs, gTuple, gList, gApp, isL, gSet, gSetA, gIxA, gIx, gEq, gNe, eqA, eqS, AL.keyOf, eGet1, eGet2, eDic, gIn, List.getElem?_cons_zero, List.getElem?_cons_succ, List.getElem?_nil, List.set_cons_zero, List.set_cons_succ, List.map_cons, List.map_nil, List.append_eq, List.cons_append, List.nil_append, List.replicate_succ, List.replicate_zero, List.length_cons, List.length_nil, Option.bind_some, Option.bind_none, Option.map_some, Nat.reduceAdd, Nat.reduceSub, Nat.reduceLeDiff, if_true, ite_true, if_false, Bool.false_eq_true, reduceIte, oV, isNon_non, greatestO]
      | some g =>
        have bg : Bd g := by
          rcases greatest_mem _ _ _ hacc with m | m
          · exact hB g (List.mem_of_mem_take m)
          · cases m
        have e := is_below_eq (S := S') bg bq
        by_cases hc : g.1 * q.2 < q.1 * g.2
        · simp only [eV, eC, eB, eT, eU, eIf, eCh, eAnd, eOr, eNot, bAnd, bOr, bNot, bYes, aNil, aCons, eTup, eLst, eCall, eDef, eMt, eMt0, eSl, oN, oS, sNil, sSeq, sExpr, sRet, sIf, sAsg, sPar, sSub, runF, Pat.bind, Pat.binds, gI, gNeg, gAdd, gIs, gIsN, gLen, gAbs, gTuple, gList, gApp, isL, gSet, gSetA, gIxA, gIx, gEq, gNe, eqA, eqS, AL.keyOf, eGet1, eGet2, eDic, gIn, List.getElem?_cons_zero, List.getElem?_cons_succ, List.getElem?_nil, List.set_cons_zero, List.set_cons_succ, List.map_cons, List.map_nil, List.append_eq, List.cons_append, List.nil_append, List.replicate_succ, List.replicate_zero, List.length_cons, List.length_nil, Option.bind_some, Option.bind_none, Option.map_some, Nat.reduceAdd, Nat.reduceSub, Nat.reduceLeDiff, if_true, ite_true, if_false, Bool.false_eq_true, reduceIte, oV, isNon_frV, greatestO, e, decide_eq_true hc, if_pos hc]
        · simp only [eV, eC, eB, eT, eU, eIf, eCh, eAnd, eOr, eNot, bAnd, bOr, bNot, bYes, aNil, aCons, eTup, eLst, eCall, eDef, eMt, eMt0, eSl, oN, oS, sNil, sSeq, sExpr, sRet, sIf, sAsg, sPar, sSub, runF, Pat.bind, Pat.binds, gI, gNeg, gAdd, gIs, gIsN, gLen, gAbs, gTuple, gList, gApp, isL, gSet, gSetA, gIxA, gIx, gEq, gNe, eqA, eqS, AL.keyOf, eGet1, eGet2, eDic, gIn, List.getElem?_cons_zero, List.getElem?_cons_succ, List.getElem?_nil, List.set_cons_zero, List.set_cons_succ, List.map_cons, List.map_nil, List.append_eq, List.cons_append, List.nil_append, List.replicate_succ, List.replicate_zero, List.length_cons, List.length_nil, Option.bind_some, Option.bind_none, Option.map_some, Nat.reduceAdd, Nat.reduceSub, Nat.reduceLeDiff, if_true, ite_true, if_false, Bool.false_eq_true, reduceIte, oV, isNon_frV, greatestO, e, decide_eq_false hc, if_neg hc])
  simp only [greatest_of_, greatest_of_B, sFor, iSeq, eV, eC, eB, eT, eU, eIf, eCh, eAnd, eOr, eNot, bAnd, bOr, bNot, bYes, aNil, aCons, eTup, eLst, eCall, eDef, eMt, eMt0, eSl, oN, oS, sNil, sSeq, sExpr, sRet, sIf, sAsg, sPar, sSub, runF, Pat.bind, Pat.binds, gI, gNeg, gAdd, gIs, gIsN, gLen, gAbs, gTuple, gList, gApp, isL, gSet, gSetA, gIxA, gIx, gEq, gNe, eqA, eqS, AL.keyOf, eGet1, eGet2, eDic, gIn, List.getElem?_cons_zero, List.getElem?_cons_succ, List.getElem?_nil, List.set_cons_zero, List.set_cons_succ, List.map_cons, List.map_nil, List.append_eq, List.cons_append, List.nil_append, List.replicate_succ, List.replicate_zero, List.length_cons, List.length_nil, Option.bind_some, Option.bind_none, Option.map_some, Nat.reduceAdd, Nat.reduceSub, Nat.reduceLeDiff, if_true, ite_true, if_false, Bool.false_eq_true, reduceIte, hn, e]
  rw [List.length_map, List.take_length]
  rfl
def driftOf (fl : Fl) (n : Str) : Option Hs := fl.hs.find? fun h => decide (h.name = n)
def drV : Option Hs → Val
  | none => .non
  | some h => .tup [frV h.slow, frV h.fast]
theorem drift_eq {fl : Fl} {n : Str} {S : Sto} : drift_of_ [flV fl, .str n] S = some (drV (driftOf fl n), S) := by
  have go : ∀ (hs : List Hs) (y1 y2 y3 : Option Val), (∃ ρ', forR (.tp [(.nm 2), (.nm 3), (.nm 4)]) (sIf (eT (eB gEq (eV 2) (eV 1))) (sRet (eTup (aCons (eV 3) (aCons (eV 4) aNil)))) sNil) (fun _ => True) (hs.map hsV) [some (flV fl), some (.str n), y1, y2, y3] S = .nx ρ' S ∧ hs.find? (fun h => decide (h.name = n)) = none) ∨
      ∃ h, forR (.tp [(.nm 2), (.nm 3), (.nm 4)]) (sIf (eT (eB gEq (eV 2) (eV 1))) (sRet (eTup (aCons (eV 3) (aCons (eV 4) aNil)))) sNil) (fun _ => True) (hs.map hsV) [some (flV fl), some (.str n), y1, y2, y3] S = .rt (.tup [frV h.slow, frV h.fast]) S ∧ hs.find? (fun h => decide (h.name = n)) = some h := by
    intro hs
    induction hs with
    | nil => intro y1 y2 y3; exact .inl ⟨_, forR_nil trivial, rfl⟩
    | cons h hs ih =>
      intro y1 y2 y3
      rw [List.map_cons, forR_cons (ρ1 := [some (flV fl), some (.str n), some (.str h.name), some (frV h.slow), some (frV h.fast)]) trivial rfl]
      by_cases e : h.name = n
      · refine .inr ⟨h, ?_, by simp [List.find?_cons, e]⟩
        simp only [eV, eC, eB, eT, eU, eIf, eCh, eAnd, eOr, eNot, bAnd, bOr, bNot, bYes, aNil, aCons, eTup, eLst, eCall, eDef, eMt, eMt0, eSl, oN, oS, sNil, sSeq, sExpr, sRet, sIf, sAsg, sPar, sSub, runF, Pat.bind, Pat.binds, gI, gNeg, gAdd, gIs, gIsN, gLen, gAbs, gTuple, gList, gApp, isL, gSet, gSetA, gIxA, gIx, gEq, gNe, eqA, eqS, AL.keyOf, eGet1, eGet2, eDic, gIn, List.getElem?_cons_zero, List.getElem?_cons_succ, List.getElem?_nil, List.set_cons_zero, List.set_cons_succ, List.map_cons, List.map_nil, List.append_eq, List.cons_append, List.nil_append, List.replicate_succ, List.replicate_zero, List.length_cons, List.length_nil, Option.bind_some, Option.bind_none, Option.map_some, Nat.reduceAdd, Nat.reduceSub, Nat.reduceLeDiff, if_true, ite_true, if_false, Bool.false_eq_true, reduceIte, decide_eq_true e]
      · simp only [eV, eC, eB, eT, eU, eIf, eCh, eAnd, eOr, eNot, bAnd, bOr, bNot, bYes, aNil, aCons, eTup, eLst, eCall, eDef, eMt, eMt0, eSl, oN, oS, sNil, sSeq, sExpr, sRet, sIf, sAsg, sPar, sSub, runF, Pat.bind, Pat.binds, gI, gNeg, gAdd, gIs, gIsN, gLen, gAbs, gTuple, gList, gApp, isL, gSet, gSetA, gIxA, gIx, gEq, gNe, eqA, eqS, AL.keyOf, eGet1, eGet2, eDic, gIn, List.getElem?_cons_zero, List.getElem?_cons_succ, List.getElem?_nil, List.set_cons_zero, List.set_cons_succ, List.map_cons, List.map_nil, List.append_eq, List.cons_append, List.nil_append, List.replicate_succ, List.replicate_zero, List.length_cons, List.length_nil, Option.bind_some, Option.bind_none, Option.map_some, Nat.reduceAdd, Nat.reduceSub, Nat.reduceLeDiff, if_true, ite_true, if_false, Bool.false_eq_true, reduceIte, decide_eq_false e, List.find?_cons]
        exact ih _ _ _
  unfold driftOf
  rcases go fl.hs none none none with ⟨ρ', e, f⟩ | ⟨h, e, f⟩
  · rw [f]
    simp only [flV] at e
    simp only [drift_of_, drift_of_B, sFor, iSeq, flV, eV, eC, eB, eT, eU, eIf, eCh, eAnd, eOr, eNot, bAnd, bOr, bNot, bYes, aNil, aCons, eTup, eLst, eCall, eDef, eMt, eMt0, eSl, oN, oS, sNil, sSeq, sExpr, sRet, sIf, sAsg, sPar, sSub, runF, Pat.bind, Pat.binds, gI, gNeg, gAdd, gIs, gIsN, gLen, gAbs, gTuple, gList, gApp, isL, gSet, gSetA, gIxA, gIx, gEq, gNe, eqA, eqS, AL.keyOf, eGet1, eGet2, eDic, gIn, List.getElem?_cons_zero, List.getElem?_cons_succ, List.getElem?_nil, List.set_cons_zero, List.set_cons_succ, List.map_cons, List.map_nil, List.append_eq, List.cons_append, List.nil_append, List.replicate_succ, List.replicate_zero, List.length_cons, List.length_nil, Option.bind_some, Option.bind_none, Option.map_some, Nat.reduceAdd, Nat.reduceSub, Nat.reduceLeDiff, if_true, ite_true, if_false, Bool.false_eq_true, reduceIte, at0, e, drV]
  · rw [f]
    simp only [flV] at e
    simp only [drift_of_, drift_of_B, sFor, iSeq, flV, eV, eC, eB, eT, eU, eIf, eCh, eAnd, eOr, eNot, bAnd, bOr, bNot, bYes, aNil, aCons, eTup, eLst, eCall, eDef, eMt, eMt0, eSl, oN, oS, sNil, sSeq, sExpr, sRet, sIf, sAsg, sPar, sSub, runF, Pat.bind, Pat.binds, gI, gNeg, gAdd, gIs, gIsN, gLen, gAbs, gTuple, gList, gApp, isL, gSet, gSetA, gIxA, gIx, gEq, gNe, eqA, eqS, AL.keyOf, eGet1, eGet2, eDic, gIn, List.getElem?_cons_zero, List.getElem?_cons_succ, List.getElem?_nil, List.set_cons_zero, List.set_cons_succ, List.map_cons, List.map_nil, List.append_eq, List.cons_append, List.nil_append, List.replicate_succ, List.replicate_zero, List.length_cons, List.length_nil, Option.bind_some, Option.bind_none, Option.map_some, Nat.reduceAdd, Nat.reduceSub, Nat.reduceLeDiff, if_true, ite_true, if_false, Bool.false_eq_true, reduceIte, at0, e, drV]
end K37
namespace K37
open PySem PySem.Spec PyProof.Rows L2 G Th AL
theorem seq {g1 g2 : SF} {ρ ρ1 : Rho} {S S1 : Sto} (h : g1 ρ S = .nx ρ1 S1) : sSeq g1 g2 ρ S = g2 ρ1 S1 := by
  unfold sSeq
  rw [h]
theorem run_rt {n : Nat} {g : SF} {vs : List Val} {S S' : Sto} {v : Val} (h : g (vs.map some ++ List.replicate (n - vs.length) none) S = .rt v S') : runF n g vs S = some (v, S') := by
  unfold runF
  rw [h]
def dEv : Ev := ⟨"a", (0, 1), .mark⟩
def linkAt (fl : Fl) (es : List Ev) (k : Nat) : Option Lk := match (es.getD k dEv).deed with
  | .send l => fl.ls[l]?
  | _ => none
def mv1 (fl : Fl) (es : List Ev) (last : Option Nat) (e : Ev) : List Mv := match last, driftOf fl e.name with
  | some j, some h => [⟨j, Fr.div (Fr.sub e.stamp (es.getD j dEv).stamp) h.fast, some (Fr.div (Fr.sub e.stamp (es.getD j dEv).stamp) h.slow)⟩]
  | _, _ => []
def mv2 (fl : Fl) (es : List Ev) : Dd → List Mv
  | .hear k => match linkAt fl es k with
    | some l => [⟨k, l.least, l.most⟩]
    | none => []
  | _ => []
def movesInto (fl : Fl) (es : List Ev) (last : Option Nat) (e : Ev) : List Mv := mv1 fl es last e ++ mv2 fl es e.deed
def lastV : Option Nat → Val
  | none => .non
  | some j => .int (j : Nat)
theorem gl_last {S : Sto} {o o' : Ob} : (S ++ [o]).set S.length o' = S ++ [o'] := by simp
theorem app_last {S : Sto} {vs : List Val} {v : Val} (h : vs.length < 1000) : gApp (.ref S.length) [v] (S ++ [.lst vs]) = some (.non, S ++ [.lst (vs ++ [v])]) := by
  simp only [gApp, sl, gl_last, if_pos (Nat.lt_of_lt_of_le h (show 1000 ≤ sizeLine by decide))]
theorem isL_last {S : Sto} {vs : List Val} : isL (.ref S.length) (S ++ [.lst vs]) = true := by simp only [isL, sl]
theorem app_at {S : Sto} {n : Nat} {vs : List Val} {v : Val} (hn : S[n]? = some (.lst vs)) (h : vs.length < 1000) : gApp (.ref n) [v] S = some (.non, S.set n (.lst (vs ++ [v]))) := by
  simp only [gApp, hn, if_pos (Nat.lt_of_lt_of_le h (show 1000 ≤ sizeLine by decide))]
theorem isL_at {S : Sto} {n : Nat} {vs : List Val} (hn : S[n]? = some (.lst vs)) : isL (.ref n) S = true := by simp only [isL, hn]
theorem sl_lk {l : Lk} {S : Sto} : gSl (lkV l) (some 2) none S = some (.tup [frV l.least, oV l.most], S) := by
  have h : ¬ (HT.sIx 4 0 (some 2) = 0 ∧ HT.sIx 4 4 none = 4) := by decide
  show (if ¬ (HT.sIx 4 0 (some 2) = 0 ∧ HT.sIx 4 4 none = 4) then some (Val.tup (cutL [Val.str l.fr, .str l.to, frV l.least, oV l.most] (some 2) none), S) else none) = _
  rw [if_pos h]
  rfl
structure LastOk (fl : Fl) (es : List Ev) (e : Ev) (j : Nat) : Prop where
  lt : j < es.length
  h : ∃ h, driftOf fl e.name = some h ∧ 0 < h.fast.1 ∧ 0 < h.slow.1 ∧ Bd h.fast ∧ Bd h.slow
  st : Bd e.stamp
  so : Bd (es.getD j dEv).stamp
  go : Bd (Fr.sub e.stamp (es.getD j dEv).stamp)
structure HearOk (fl : Fl) (es : List Ev) (k : Nat) : Prop where
  lt : k < es.length
  h : ∃ l lk, (es.getD k dEv).deed = .send l ∧ fl.ls[l]? = some lk
theorem getD_get {es : List Ev} {j : Nat} (h : j < es.length) : es[j]? = some (es.getD j dEv) := by simp [List.getD, List.getElem?_eq_getElem h]
theorem into_eq {fl : Fl} {es : List Ev} {last : Option Nat} {e : Ev} {S : Sto} (hl : ∀ j, last = some j → LastOk fl es e j) (hd : ∀ k, e.deed = .hear k → HearOk fl es k) :
    moves_into_ [flV fl, .tup (es.map evV), lastV last, evV e] S = some (.ref S.length, S ++ [.lst ((movesInto fl es last e).map mvV)]) := by
  have part2 : ∀ (ms : List Mv) (y8 y10 y11 : Option Val), ms.length ≤ 1 → sSeq (sIf (eT (eB gEq (eB gIxA (eV 7) (eC (.int 0))) (eC (.str "hear")))) (sSeq (sAsg (.nm 9) (eB gIxA (eB gIxA (eV 1) (eB gIxA (eV 7) (eC (.int 1)))) (eC (.int 2))))
      (sExpr (eMt isL gApp (eV 4) (aCons (eTup (aCons (eB gIxA (eV 7) (eC (.int 1))) (aCons (eSl gSl (eB gIxA (eB gIxA (eV 0) (eC (.int 1))) (eB gIxA (eV 9) (eC (.int 1)))) (oS (eC (.int 2))) oN) aNil))) aNil)))) sNil)
      (sRet (eV 4)) [some (flV fl), some (.tup (es.map evV)), some (lastV last), some (evV e), some (.ref S.length), some (.str e.name), some (frV e.stamp), some (ddV e.deed), y8, none, y10, y11] (S ++ [.lst (ms.map mvV)]) = .rt (.ref S.length) (S ++ [.lst ((ms ++ mv2 fl es e.deed).map mvV)]) := by
    intro ms y8 y10 y11 hm
    cases hdd : e.deed with
    | mark =>
      have hne : ¬ (("mark" : Str) = "hear") := by decide
      simp only [eV, eC, eB, eT, eU, eIf, eCh, eAnd, eOr, eNot, bAnd, bOr, bNot, bYes, aNil, aCons, eTup, eLst, eCall, eDef, eMt, eMt0, eSl, oN, oS, sNil, sSeq, sExpr, sRet, sIf, sAsg, sPar, sSub, runF, Pat.bind, Pat.binds, gI, gNeg, gAdd, gIs, gIsN, gLen, gAbs, gTuple, gList, gSet, gSetA, gIxA, gIx, gEq, gNe, eqA, eqS, AL.keyOf, eGet1, eGet2, eDic, gIn, List.getElem?_cons_zero, List.getElem?_cons_succ, List.getElem?_nil, List.set_cons_zero, List.set_cons_succ, List.map_cons, List.map_nil, List.append_eq, List.cons_append, List.nil_append, List.replicate_succ, List.replicate_zero, List.length_cons, List.length_nil, Option.bind_some, Option.bind_none, Option.map_some, Nat.reduceAdd, Nat.reduceSub, Nat.reduceLeDiff, if_true, ite_true, if_false, Bool.false_eq_true, reduceIte, ddV, at0, decide_eq_false hne, mv2, List.append_nil]
    | send l =>
      have hne : ¬ (("send" : Str) = "hear") := by decide
      simp only [eV, eC, eB, eT, eU, eIf, eCh, eAnd, eOr, eNot, bAnd, bOr, bNot, bYes, aNil, aCons, eTup, eLst, eCall, eDef, eMt, eMt0, eSl, oN, oS, sNil, sSeq, sExpr, sRet, sIf, sAsg, sPar, sSub, runF, Pat.bind, Pat.binds, gI, gNeg, gAdd, gIs, gIsN, gLen, gAbs, gTuple, gList, gSet, gSetA, gIxA, gIx, gEq, gNe, eqA, eqS, AL.keyOf, eGet1, eGet2, eDic, gIn, List.getElem?_cons_zero, List.getElem?_cons_succ, List.getElem?_nil, List.set_cons_zero, List.set_cons_succ, List.map_cons, List.map_nil, List.append_eq, List.cons_append, List.nil_append, List.replicate_succ, List.replicate_zero, List.length_cons, List.length_nil, Option.bind_some, Option.bind_none, Option.map_some, Nat.reduceAdd, Nat.reduceSub, Nat.reduceLeDiff, if_true, ite_true, if_false, Bool.false_eq_true, reduceIte, ddV, at0, decide_eq_false hne, mv2, List.append_nil]
    | hear k =>
      obtain ⟨lt, l, lk, h1, h2⟩ := hd k hdd
      have e1 := at_nat (map_get (f := evV) (getD_get lt))
      have e2 := at_nat (map_get (f := lkV) h2)
      have la : linkAt fl es k = some lk := by simp only [linkAt, h1, h2]
      have ea : (ms.map mvV).length < 1000 := by simp; omega
      simp only [eV, eC, eB, eT, eU, eIf, eCh, eAnd, eOr, eNot, bAnd, bOr, bNot, bYes, aNil, aCons, eTup, eLst, eCall, eDef, eMt, eMt0, eSl, oN, oS, sNil, sSeq, sExpr, sRet, sIf, sAsg, sPar, sSub, runF, Pat.bind, Pat.binds, gI, gNeg, gAdd, gIs, gIsN, gLen, gAbs, gTuple, gList, gSet, gSetA, gIxA, gIx, gEq, gNe, eqA, eqS, AL.keyOf, eGet1, eGet2, eDic, gIn, List.getElem?_cons_zero, List.getElem?_cons_succ, List.getElem?_nil, List.set_cons_zero, List.set_cons_succ, List.map_cons, List.map_nil, List.append_eq, List.cons_append, List.nil_append, List.replicate_succ, List.replicate_zero, List.length_cons, List.length_nil, Option.bind_some, Option.bind_none, Option.map_some, Nat.reduceAdd, Nat.reduceSub, Nat.reduceLeDiff, if_true, ite_true, if_false, Bool.false_eq_true, reduceIte, ddV, at0, at1, decide_true, e1, evV, at2, h1, isL_last, flV, e2, sl_lk, app_last ea, mv2, la, List.map_append, mvV]
  have first : ∃ y8 y10 y11, sIf (eT (eB gIsN (eV 2) (eC .non))) (sSeq (sAsg (.tp [(.nm 10), (.nm 11)]) (eDef drift_of_ 2 (aCons (eV 0) (aCons (eV 5) aNil))))
      (sSeq (sAsg (.nm 8) (eDef less_ 2 (aCons (eV 6) (aCons (eB gIxA (eB gIxA (eV 1) (eV 2)) (eC (.int 1))) aNil))))
      (sExpr (eMt isL gApp (eV 4) (aCons (eTup (aCons (eV 2) (aCons (eTup (aCons (eDef parted_ 2 (aCons (eV 8) (aCons (eV 11) aNil))) (aCons (eDef parted_ 2 (aCons (eV 8) (aCons (eV 10) aNil))) aNil))) aNil))) aNil))))) sNil
      [some (flV fl), some (.tup (es.map evV)), some (lastV last), some (evV e), some (.ref S.length), some (.str e.name), some (frV e.stamp), some (ddV e.deed), none, none, none, none] (S ++ [.lst []]) = .nx [some (flV fl), some (.tup (es.map evV)), some (lastV last), some (evV e), some (.ref S.length), some (.str e.name), some (frV e.stamp), some (ddV e.deed), y8, none, y10, y11] (S ++ [.lst ((mv1 fl es last e).map mvV)]) := by
    cases hlast : last with
    | none => exact ⟨none, none, none, by simp only [eV, eC, eB, eT, eU, eIf, eCh, eAnd, eOr, eNot, bAnd, bOr, bNot, bYes, aNil, aCons, eTup, eLst, eCall, eDef, eMt, eMt0, eSl, oN, oS, sNil, sSeq, sExpr, sRet, sIf, sAsg, sPar, sSub, runF, Pat.bind, Pat.binds, gI, gNeg, gAdd, gIs, gIsN, gLen, gAbs, gTuple, gList, gSet, gSetA, gIxA, gIx, gEq, gNe, eqA, eqS, AL.keyOf, eGet1, eGet2, eDic, gIn, List.getElem?_cons_zero, List.getElem?_cons_succ, List.getElem?_nil, List.set_cons_zero, List.set_cons_succ, List.map_cons, List.map_nil, List.append_eq, List.cons_append, List.nil_append, List.replicate_succ, List.replicate_zero, List.length_cons, List.length_nil, Option.bind_some, Option.bind_none, Option.map_some, Nat.reduceAdd, Nat.reduceSub, Nat.reduceLeDiff, if_true, ite_true, if_false, Bool.false_eq_true, reduceIte, lastV, isNon_non, Bool.not_true, mv1]⟩
    | some j =>
      obtain ⟨lt, ⟨h, hh, f0, s0, bf, bs⟩, st, so, go⟩ := hl j hlast
      have e1 := at_nat (map_get (f := evV) (getD_get lt))
      have dr := drift_eq (fl := fl) (n := e.name) (S := S ++ [Ob.lst []])
      rw [hh] at dr
      have le := less_eq (S := S ++ [Ob.lst []]) st so
      have pf := parted_eq (S := S ++ [Ob.lst []]) go bf (by omega)
      have ps := parted_eq (S := S ++ [Ob.lst []]) go bs (by omega)
      have nI : AL.isNon (.int (j : Nat)) = false := rfl
      have ap := app_last (S := S) (vs := []) (v := mvV ⟨j, Fr.div (Fr.sub e.stamp (es.getD j dEv).stamp) h.fast, some (Fr.div (Fr.sub e.stamp (es.getD j dEv).stamp) h.slow)⟩) (by decide)
      have il := isL_last (S := S) (vs := [])
      simp only [mvV, oV, List.nil_append] at ap
      refine ⟨some (frV (Fr.sub e.stamp (es.getD j dEv).stamp)), some (frV h.slow), some (frV h.fast), ?_⟩
      simp only [eV, eC, eB, eT, eU, eIf, eCh, eAnd, eOr, eNot, bAnd, bOr, bNot, bYes, aNil, aCons, eTup, eLst, eCall, eDef, eMt, eMt0, eSl, oN, oS, sNil, sSeq, sExpr, sRet, sIf, sAsg, sPar, sSub, runF, Pat.bind, Pat.binds, gI, gNeg, gAdd, gIs, gIsN, gLen, gAbs, gTuple, gList, gSet, gSetA, gIxA, gIx, gEq, gNe, eqA, eqS, AL.keyOf, eGet1, eGet2, eDic, gIn, List.getElem?_cons_zero, List.getElem?_cons_succ, List.getElem?_nil, List.set_cons_zero, List.set_cons_succ, List.map_cons, List.map_nil, List.append_eq, List.cons_append, List.nil_append, List.replicate_succ, List.replicate_zero, List.length_cons, List.length_nil, Option.bind_some, Option.bind_none, Option.map_some, Nat.reduceAdd, Nat.reduceSub, Nat.reduceLeDiff, if_true, ite_true, if_false, Bool.false_eq_true, reduceIte, lastV, nI, Bool.not_false, dr, drV, e1, evV, at1, le, pf, ps, il, ap, mv1, hh, mvV, oV]
  obtain ⟨y8, y10, y11, first⟩ := first
  have p2 := part2 (mv1 fl es last e) y8 y10 y11 (by unfold mv1; split <;> simp)
  refine run_rt ?_
  refine (seq (ρ1 := [some (flV fl), some (.tup (es.map evV)), some (lastV last), some (evV e), none, some (.str e.name), some (frV e.stamp), some (ddV e.deed), none, none, none, none]) (S1 := S) (by simp only [eV, eC, eB, eT, eU, eIf, eCh, eAnd, eOr, eNot, bAnd, bOr, bNot, bYes, aNil, aCons, eTup, eLst, eCall, eDef, eMt, eMt0, eSl, oN, oS, sNil, sSeq, sExpr, sRet, sIf, sAsg, sPar, sSub, runF, Pat.bind, Pat.binds, gI, gNeg, gAdd, gIs, gIsN, gLen, gAbs, gTuple, gList, gSet, gSetA, gIxA, gIx, gEq, gNe, eqA, eqS, AL.keyOf, eGet1, eGet2, eDic, gIn, List.getElem?_cons_zero, List.getElem?_cons_succ, List.getElem?_nil, List.set_cons_zero, List.set_cons_succ, List.map_cons, List.map_nil, List.append_eq, List.cons_append, List.nil_append, List.replicate_succ, List.replicate_zero, List.length_cons, List.length_nil, Option.bind_some, Option.bind_none, Option.map_some, Nat.reduceAdd, Nat.reduceSub, Nat.reduceLeDiff, if_true, ite_true, if_false, Bool.false_eq_true, reduceIte, evV])).trans ?_
  refine (seq (ρ1 := [some (flV fl), some (.tup (es.map evV)), some (lastV last), some (evV e), some (.ref S.length), some (.str e.name), some (frV e.stamp), some (ddV e.deed), none, none, none, none]) (S1 := S ++ [.lst []]) (by simp only [eV, eC, eB, eT, eU, eIf, eCh, eAnd, eOr, eNot, bAnd, bOr, bNot, bYes, aNil, aCons, eTup, eLst, eCall, eDef, eMt, eMt0, eSl, oN, oS, sNil, sSeq, sExpr, sRet, sIf, sAsg, sPar, sSub, runF, Pat.bind, Pat.binds, gI, gNeg, gAdd, gIs, gIsN, gLen, gAbs, gTuple, gList, gSet, gSetA, gIxA, gIx, gEq, gNe, eqA, eqS, AL.keyOf, eGet1, eGet2, eDic, gIn, List.getElem?_cons_zero, List.getElem?_cons_succ, List.getElem?_nil, List.set_cons_zero, List.set_cons_succ, List.map_cons, List.map_nil, List.append_eq, List.cons_append, List.nil_append, List.replicate_succ, List.replicate_zero, List.length_cons, List.length_nil, Option.bind_some, Option.bind_none, Option.map_some, Nat.reduceAdd, Nat.reduceSub, Nat.reduceLeDiff, if_true, ite_true, if_false, Bool.false_eq_true, reduceIte, Nat.zero_le])).trans ?_
  exact (seq first).trans p2
end K37
namespace K37
open PySem PySem.Spec PyProof.Rows L2 G Th AL
theorem valA_put (d : List (Key × Val)) (k k' : Key) (v : Val) : valA (putA d k v) k' = if k' = k then some v else valA d k' := by
  unfold putA
  split
  · next h =>
    induction d with
    | nil => simp at h
    | cons p d ih =>
      rw [List.map_cons]
      by_cases e : p.1 = k
      · by_cases e2 : k' = k
        · subst e2
          simp [valA, List.find?_cons, e]
        · have e3 : ¬ k = k' := fun z => e2 z.symm
          have e4 : ¬ p.1 = k' := fun z => e2 (z.symm.trans e)
          simp only [valA, List.find?_cons, e, if_true, e3, decide_false, if_neg e2]
          by_cases h' : (d.any fun kv => decide (kv.1 = k)) = true
          · have := ih h'
            simp only [valA, if_neg e2] at this
            exact this
          · have nm : d.map (fun kv => if kv.1 = k then (kv.1, v) else kv) = d := by
              conv => rhs; rw [← List.map_id d]
              apply List.map_congr_left
              intro q hq
              have : ¬ q.1 = k := fun z => h' (List.any_eq_true.mpr ⟨q, hq, decide_eq_true z⟩)
              simp [this]
            rw [nm]
      · have h' : (d.any fun kv => decide (kv.1 = k)) = true := by
          rw [List.any_cons, decide_eq_false e, Bool.false_or] at h
          exact h
        have := ih h'
        simp only [valA] at this
        by_cases e2 : p.1 = k'
        · have e3 : ¬ k' = k := fun z => e (e2.trans z)
          simp [valA, List.find?_cons, e, e2, e3]
        · simp only [valA, List.find?_cons, e, if_false, e2, decide_false]
          exact this
  · next h =>
    unfold valA
    rw [List.find?_append]
    by_cases e : k' = k
    · subst e
      have nn : d.find? (fun kv => decide (kv.1 = k')) = none := by
        rw [List.find?_eq_none]
        intro x hx hd
        exact h (List.any_eq_true.mpr ⟨x, hx, hd⟩)
      simp [nn]
    · have e3 : ¬ k = k' := fun z => e z.symm
      simp only [List.find?_cons, e3, decide_false, List.find?_nil, Option.or_none, if_neg e]
theorem putA_len (d : List (Key × Val)) (k : Key) (v : Val) : (putA d k v).length ≤ d.length + 1 := by
  unfold putA
  split <;> simp
def lastAt (es : List Ev) : Nat → Str → Option Nat
  | 0, _ => none
  | i + 1, n => if (es.getD i dEv).name = n then some i else lastAt es i n
theorem lastAt_lt {es : List Ev} {n : Str} : ∀ {i j : Nat}, lastAt es i n = some j → j < i
  | 0, _, h => by cases h
  | i + 1, j, h => by
    unfold lastAt at h
    split at h
    · cases h; omega
    · have := lastAt_lt h; omega
def row (fl : Fl) (es : List Ev) (i : Nat) : List Mv := movesInto fl es (lastAt es i (es.getD i dEv).name) (es.getD i dEv)
structure RowOk (fl : Fl) (es : List Ev) (i : Nat) : Prop where
  l : ∀ j, lastAt es i (es.getD i dEv).name = some j → LastOk fl es (es.getD i dEv) j
  d : ∀ k, (es.getD i dEv).deed = .hear k → HearOk fl es k ∧ k < i
theorem hist_eq {fl : Fl} {es : List Ev} {S : Sto} (hl : es.length ≤ 30) (ok : ∀ i, i < es.length → RowOk fl es i) : ∃ (R : Nat) (rs : List Nat) (S' : Sto), history_moves_ [hiV fl es] S = some (.ref R, S') ∧ Kn S S' ∧ S'[R]? = some (.lst (rs.map Val.ref)) ∧ rs.length = es.length ∧ S.length ≤ R ∧ ∀ (j r : Nat), rs[j]? = some r → S.length ≤ r ∧ S'[r]? = some (.lst ((row fl es j).map mvV)) := by
  obtain ⟨ρ', S', e, ⟨y5, y6, hρ⟩, ⟨d, hd, dv, dl⟩, rs, hrs, rl, rr, kn⟩ := forR_run (p := .tp [(.nm 5), (.nm 6)]) (g := sSeq (sExpr (eMt isL gApp (eV 2) (aCons (eDef moves_into_ 4 (aCons (eV 3) (aCons (eV 4) (aCons (eGet1 (eV 1) (eB gIxA (eV 6) (eC (.int 0)))) (aCons (eV 6) aNil))))) aNil))) (sSub gSetA (eV 1) (eB gIxA (eV 6) (eC (.int 0))) (eV 5))) (ok := fun _ => True)
    (fun i ρ T => (∃ y5 y6, ρ = [some (hiV fl es), some (.ref S.length), some (.ref (S.length + 1)), some (flV fl), some (.tup (es.map evV)), y5, y6]) ∧ (∃ d, T[S.length]? = some (.dic d) ∧ (∀ n, valA d (.inr n) = (lastAt es i n).map fun j => .int (j : Nat)) ∧ d.length ≤ i) ∧
      ∃ rs : List Nat, T[S.length + 1]? = some (.lst (rs.map Val.ref)) ∧ rs.length = i ∧ (∀ (j r : Nat), rs[j]? = some r → S.length + 1 < r ∧ T[r]? = some (.lst ((row fl es j).map mvV))) ∧ Kn S T)
    (vs := enumV (es.map evV)) (ρ := [some (hiV fl es), some (.ref S.length), some (.ref (S.length + 1)), some (flV fl), some (.tup (es.map evV)), none, none]) (S := S ++ [.dic []] ++ [.lst []]) (fun _ _ _ _ => trivial)
    ⟨⟨_, _, rfl⟩, ⟨[], by simp, fun n => rfl, Nat.le_refl _⟩, [], by simp, rfl, fun j r h => by simp at h, (Kn.app _ _).trans (Kn.app _ _)⟩ (fun i v ρ T hv ⟨⟨y5, y6, hρ⟩, ⟨d, hd, dv, dl⟩, rs, hrs, rl, rr, kn⟩ => by
      obtain ⟨w, hw, rfl⟩ := enumV_get hv
      rw [List.getElem?_map] at hw
      obtain ⟨ev, hev, rfl⟩ := Option.map_eq_some_iff.mp hw
      have hi : i < es.length := (List.getElem?_eq_some_iff.mp hev).1
      have eev : es.getD i dEv = ev := by
        have := getD_get hi
        rw [hev] at this
        exact (Option.some.inj this).symm
      obtain ⟨o1, o2⟩ := ok i hi
      subst hρ
      have lg : eGet1 (eV 1) (eB gIxA (eV 6) (eC (.int 0))) [some (hiV fl es), some (.ref S.length), some (.ref (S.length + 1)), some (flV fl), some (.tup (es.map evV)), some (.int (i : Nat)), some (evV ev)] T = some (lastV (lastAt es i ev.name), T) := by
        simp only [eV, eC, eB, eT, eU, eIf, eCh, eAnd, eOr, eNot, bAnd, bOr, bNot, bYes, aNil, aCons, eTup, eLst, eCall, eDef, eMt, eMt0, eSl, oN, oS, sNil, sSeq, sExpr, sRet, sIf, sAsg, sPar, sSub, runF, Pat.bind, Pat.binds, gI, gNeg, gAdd, gIs, gIsN, gLen, gAbs, gTuple, gList, gSet, gSetA, gIxA, gIx, gEq, gNe, eqA, eqS, AL.keyOf, eGet1, eGet2, eDic, gIn, List.getElem?_cons_zero, List.getElem?_cons_succ, List.getElem?_nil, List.set_cons_zero, List.set_cons_succ, List.map_cons, List.map_nil, List.append_eq, List.cons_append, List.nil_append, List.replicate_succ, List.replicate_zero, List.length_cons, List.length_nil, Option.bind_some, Option.bind_none, Option.map_some, Nat.reduceAdd, Nat.reduceSub, Nat.reduceLeDiff, if_true, ite_true, if_false, Bool.false_eq_true, reduceIte, hd, evV, at0, dv]
        cases lastAt es i ev.name <;> rfl
      have il := isL_at hrs
      have inn := into_eq (S := T) (last := lastAt es i ev.name) (e := ev) (fl := fl) (es := es) (fun j hj => by rw [eev] at o1; exact o1 j hj) (fun k hk => by rw [eev] at o2; exact (o2 k hk).1)
      have rw1 : movesInto fl es (lastAt es i ev.name) ev = row fl es i := by unfold row; rw [eev]
      rw [rw1] at inn
      generalize hT1 : T ++ [Ob.lst ((row fl es i).map mvV)] = T1 at inn
      have kT : Kn T T1 := by rw [← hT1]; exact Kn.app _ _
      have tl : T1[T.length]? = some (.lst ((row fl es i).map mvV)) := by rw [← hT1]; exact sl
      have ap := app_at (v := .ref T.length) (kT _ _ hrs) (by simp; omega)
      have lT : S.length + 1 < T.length := (List.getElem?_eq_some_iff.mp hrs).1
      generalize hT2 : T1.set (S.length + 1) (.lst (rs.map Val.ref ++ [.ref T.length])) = T2 at ap
      have k2 : Kx (S.length + 1) T1 T2 := by rw [← hT2]; exact Kx.put
      have h2 : T2[S.length + 1]? = some (.lst (rs.map Val.ref ++ [.ref T.length])) := by rw [← hT2]; exact ss (kT _ _ hrs)
      have hd2 : T2[S.length]? = some (.dic d) := k2 _ _ (by omega) (kT _ _ hd)
      have dl2 : d.length < sizeLine := Nat.lt_of_le_of_lt dl (Nat.lt_of_lt_of_le hi (Nat.le_trans hl (by decide)))
      refine ⟨[some (hiV fl es), some (.ref S.length), some (.ref (S.length + 1)), some (flV fl), some (.tup (es.map evV)), some (.int (i : Nat)), some (evV ev)], [some (hiV fl es), some (.ref S.length), some (.ref (S.length + 1)), some (flV fl), some (.tup (es.map evV)), some (.int (i : Nat)), some (evV ev)], T2.set S.length (.dic (putA d (.inr ev.name) (.int (i : Nat)))), rfl, ?_, ⟨_, _, rfl⟩, ⟨_, ss hd2, fun n => ?_, Nat.le_trans (putA_len _ _ _) (by omega)⟩, rs ++ [T.length], ?_, by simp [rl], fun j r hj => ?_, ?_⟩
      · have s1 : sExpr (eMt isL gApp (eV 2) (aCons (eDef moves_into_ 4 (aCons (eV 3) (aCons (eV 4) (aCons (eGet1 (eV 1) (eB gIxA (eV 6) (eC (.int 0)))) (aCons (eV 6) aNil))))) aNil)) [some (hiV fl es), some (.ref S.length), some (.ref (S.length + 1)), some (flV fl), some (.tup (es.map evV)), some (.int (i : Nat)), some (evV ev)] T = .nx [some (hiV fl es), some (.ref S.length), some (.ref (S.length + 1)), some (flV fl), some (.tup (es.map evV)), some (.int (i : Nat)), some (evV ev)] T2 := by
          simp only [eV, eC, eB, eT, eU, eIf, eCh, eAnd, eOr, eNot, bAnd, bOr, bNot, bYes, aNil, aCons, eTup, eLst, eCall, eDef, eMt, eMt0, eSl, oN, oS, sNil, sSeq, sExpr, sRet, sIf, sAsg, sPar, sSub, runF, Pat.bind, Pat.binds, gI, gNeg, gAdd, gIs, gIsN, gLen, gAbs, gTuple, gList, gSet, gSetA, gIxA, gIx, gEq, gNe, eqA, eqS, AL.keyOf, eDic, gIn, List.getElem?_cons_zero, List.getElem?_cons_succ, List.getElem?_nil, List.set_cons_zero, List.set_cons_succ, List.map_cons, List.map_nil, List.append_eq, List.cons_append, List.nil_append, List.replicate_succ, List.replicate_zero, List.length_cons, List.length_nil, Option.bind_some, Option.bind_none, Option.map_some, Nat.reduceAdd, Nat.reduceSub, Nat.reduceLeDiff, if_true, ite_true, if_false, Bool.false_eq_true, reduceIte, il, lg, inn, ap]
        refine (seq s1).trans ?_
        simp only [eV, eC, eB, eT, eU, eIf, eCh, eAnd, eOr, eNot, bAnd, bOr, bNot, bYes, aNil, aCons, eTup, eLst, eCall, eDef, eMt, eMt0, eSl, oN, oS, sNil, sSeq, sExpr, sRet, sIf, sAsg, sPar, sSub, runF, Pat.bind, Pat.binds, gI, gNeg, gAdd, gIs, gIsN, gLen, gAbs, gTuple, gList, gSet, gSetA, gIxA, gIx, gEq, gNe, eqA, eqS, AL.keyOf, eGet1, eGet2, eDic, gIn, List.getElem?_cons_zero, List.getElem?_cons_succ, List.getElem?_nil, List.set_cons_zero, List.set_cons_succ, List.map_cons, List.map_nil, List.append_eq, List.cons_append, List.nil_append, List.replicate_succ, List.replicate_zero, List.length_cons, List.length_nil, Option.bind_some, Option.bind_none, Option.map_some, Nat.reduceAdd, Nat.reduceSub, Nat.reduceLeDiff, if_true, ite_true, if_false, Bool.false_eq_true, reduceIte, evV, at0, hd2, if_pos dl2]
      · rw [valA_put]
        by_cases en : n = ev.name
        · subst en
          rw [if_pos rfl, lastAt, eev, if_pos rfl]
          rfl
        · have h1 : ¬ (Sum.inr n : Key) = Sum.inr ev.name := fun z => en (Sum.inr.inj z)
          have h3 : ¬ (es.getD i dEv).name = n := by rw [eev]; exact fun z => en z.symm
          rw [if_neg h1, dv]
          simp only [lastAt, h3, if_false]
      · rw [sn (by omega), h2]
        simp
      · by_cases hj2 : j < rs.length
        · rw [List.getElem?_append_left hj2] at hj
          obtain ⟨r1, r2⟩ := rr j r hj
          refine ⟨r1, ?_⟩
          rw [sn (by omega)]
          exact k2 _ _ (by omega) (kT _ _ r2)
        · have ej : j = rs.length := by
            have := (List.getElem?_eq_some_iff.mp hj).1
            simp at this
            omega
          subst ej
          rw [List.getElem?_concat_length] at hj
          cases hj
          refine ⟨lT, ?_⟩
          rw [sn (by omega), rl]
          exact k2 _ _ (by omega) tl
      · intro k o hk
        have lk : k < S.length := (List.getElem?_eq_some_iff.mp hk).1
        rw [sn (by omega)]
        exact k2 _ _ (by omega) (kT _ _ (kn k o hk)))
  have el : (enumV (es.map evV)).length = es.length := by simp [enumV]
  rw [el] at rl
  refine ⟨S.length + 1, rs, S', ?_, kn, hrs, rl, by omega, fun j r h => ⟨by have := (rr j r h).1; omega, (rr j r h).2⟩⟩
  subst hρ
  refine run_rt ?_
  refine (seq (ρ1 := [some (hiV fl es), none, none, some (flV fl), some (.tup (es.map evV)), none, none]) (S1 := S) (by simp only [eV, eC, eB, eT, eU, eIf, eCh, eAnd, eOr, eNot, bAnd, bOr, bNot, bYes, aNil, aCons, eTup, eLst, eCall, eDef, eMt, eMt0, eSl, oN, oS, sNil, sSeq, sExpr, sRet, sIf, sAsg, sPar, sSub, runF, Pat.bind, Pat.binds, gI, gNeg, gAdd, gIs, gIsN, gLen, gAbs, gTuple, gList, gSet, gSetA, gIxA, gIx, gEq, gNe, eqA, eqS, AL.keyOf, eGet1, eGet2, eDic, gIn, List.getElem?_cons_zero, List.getElem?_cons_succ, List.getElem?_nil, List.set_cons_zero, List.set_cons_succ, List.map_cons, List.map_nil, List.append_eq, List.cons_append, List.nil_append, List.replicate_succ, List.replicate_zero, List.length_cons, List.length_nil, Option.bind_some, Option.bind_none, Option.map_some, Nat.reduceAdd, Nat.reduceSub, Nat.reduceLeDiff, if_true, ite_true, if_false, Bool.false_eq_true, reduceIte, hiV])).trans ?_
  refine (seq (ρ1 := [some (hiV fl es), some (.ref S.length), none, some (flV fl), some (.tup (es.map evV)), none, none]) (S1 := S ++ [.dic []]) (by simp only [eV, eC, eB, eT, eU, eIf, eCh, eAnd, eOr, eNot, bAnd, bOr, bNot, bYes, aNil, aCons, eTup, eLst, eCall, eDef, eMt, eMt0, eSl, oN, oS, sNil, sSeq, sExpr, sRet, sIf, sAsg, sPar, sSub, runF, Pat.bind, Pat.binds, gI, gNeg, gAdd, gIs, gIsN, gLen, gAbs, gTuple, gList, gSet, gSetA, gIxA, gIx, gEq, gNe, eqA, eqS, AL.keyOf, eGet1, eGet2, eDic, gIn, List.getElem?_cons_zero, List.getElem?_cons_succ, List.getElem?_nil, List.set_cons_zero, List.set_cons_succ, List.map_cons, List.map_nil, List.append_eq, List.cons_append, List.nil_append, List.replicate_succ, List.replicate_zero, List.length_cons, List.length_nil, Option.bind_some, Option.bind_none, Option.map_some, Nat.reduceAdd, Nat.reduceSub, Nat.reduceLeDiff, if_true, ite_true, if_false, Bool.false_eq_true, reduceIte])).trans ?_
  refine (seq (ρ1 := [some (hiV fl es), some (.ref S.length), some (.ref (S.length + 1)), some (flV fl), some (.tup (es.map evV)), none, none]) (S1 := S ++ [.dic []] ++ [.lst []]) (by simp only [eV, eC, eB, eT, eU, eIf, eCh, eAnd, eOr, eNot, bAnd, bOr, bNot, bYes, aNil, aCons, eTup, eLst, eCall, eDef, eMt, eMt0, eSl, oN, oS, sNil, sSeq, sExpr, sRet, sIf, sAsg, sPar, sSub, runF, Pat.bind, Pat.binds, gI, gNeg, gAdd, gIs, gIsN, gLen, gAbs, gTuple, gList, gSet, gSetA, gIxA, gIx, gEq, gNe, eqA, eqS, AL.keyOf, eGet1, eGet2, eDic, gIn, List.getElem?_cons_zero, List.getElem?_cons_succ, List.getElem?_nil, List.set_cons_zero, List.set_cons_succ, List.map_cons, List.map_nil, List.append_eq, List.cons_append, List.nil_append, List.replicate_succ, List.replicate_zero, List.length_cons, List.length_nil, Option.bind_some, Option.bind_none, Option.map_some, Nat.reduceAdd, Nat.reduceSub, Nat.reduceLeDiff, if_true, ite_true, if_false, Bool.false_eq_true, reduceIte, Nat.zero_le, List.length_append])).trans ?_
  refine (seq (ρ1 := _) (S1 := S') (by simp only [sFor, iEn, eV, eC, eB, eT, eU, eIf, eCh, eAnd, eOr, eNot, bAnd, bOr, bNot, bYes, aNil, aCons, eTup, eLst, eCall, eDef, eMt, eMt0, eSl, oN, oS, sNil, sSeq, sExpr, sRet, sIf, sAsg, sPar, sSub, runF, Pat.bind, Pat.binds, gI, gNeg, gAdd, gIs, gIsN, gLen, gAbs, gTuple, gList, gSet, gSetA, gIxA, gIx, gEq, gNe, eqA, eqS, AL.keyOf, eGet1, eGet2, eDic, gIn, List.getElem?_cons_zero, List.getElem?_cons_succ, List.getElem?_nil, List.set_cons_zero, List.set_cons_succ, List.map_cons, List.map_nil, List.append_eq, List.cons_append, List.nil_append, List.replicate_succ, List.replicate_zero, List.length_cons, List.length_nil, Option.bind_some, Option.bind_none, Option.map_some, Nat.reduceAdd, Nat.reduceSub, Nat.reduceLeDiff, if_true, ite_true, if_false, Bool.false_eq_true, reduceIte, e]; rfl)).trans ?_
  simp only [eV, eC, eB, eT, eU, eIf, eCh, eAnd, eOr, eNot, bAnd, bOr, bNot, bYes, aNil, aCons, eTup, eLst, eCall, eDef, eMt, eMt0, eSl, oN, oS, sNil, sSeq, sExpr, sRet, sIf, sAsg, sPar, sSub, runF, Pat.bind, Pat.binds, gI, gNeg, gAdd, gIs, gIsN, gLen, gAbs, gTuple, gList, gSet, gSetA, gIxA, gIx, gEq, gNe, eqA, eqS, AL.keyOf, eGet1, eGet2, eDic, gIn, List.getElem?_cons_zero, List.getElem?_cons_succ, List.getElem?_nil, List.set_cons_zero, List.set_cons_succ, List.map_cons, List.map_nil, List.append_eq, List.cons_append, List.nil_append, List.replicate_succ, List.replicate_zero, List.length_cons, List.length_nil, Option.bind_some, Option.bind_none, Option.map_some, Nat.reduceAdd, Nat.reduceSub, Nat.reduceLeDiff, if_true, ite_true, if_false, Bool.false_eq_true, reduceIte]
end K37
local macro_rules | `(tactic| array_mem_dec) => `(tactic| first | assumption | (refine AL.Kn.at (by assumption) ?_; array_mem_dec) | (refine AL.Kx.at (by assumption) (by omega) ?_; array_mem_dec))
local macro_rules | `(tactic| sizeOf_list_dec) => `(tactic| ((with_reducible refine AL.brF ?_ ?_); exact rfl))
local macro_rules | `(tactic| sizeOf_list_dec) => `(tactic| ((with_reducible refine AL.brT ?_ ?_); exact rfl))
local macro_rules | `(tactic| sizeOf_list_dec) => `(tactic| ((with_reducible refine AL.sd ?_ ?_); first | exact rfl | exact of_decide_eq_true rfl | exact AL.isL_of (by array_mem_dec) | exact ⟨rfl, rfl⟩))
local macro_rules | `(tactic| sizeOf_list_dec) => `(tactic| ((with_reducible apply AL.bn); rfl; try dsimp only [List.set_cons_zero, List.set_cons_succ]))
local macro_rules | `(tactic| sizeOf_list_dec) => `(tactic| ((with_reducible apply AL.ti); rfl))
local macro_rules | `(tactic| sizeOf_list_dec) => `(tactic| ((with_reducible apply AL.tb); rfl))
local macro_rules | `(tactic| sizeOf_list_dec) => `(tactic| ((with_reducible apply AL.vIxL); rfl; rfl; array_mem_dec; rfl))
local macro_rules | `(tactic| sizeOf_list_dec) => `(tactic| ((with_reducible apply AL.vTupL); rfl; array_mem_dec))
local macro_rules | `(tactic| sizeOf_list_dec) => `(tactic| ((with_reducible apply AL.vLenL); rfl; array_mem_dec))
local macro_rules | `(tactic| sizeOf_list_dec) => `(tactic| ((with_reducible apply AL.vLenT); rfl))
local macro_rules | `(tactic| sizeOf_list_dec) => `(tactic| ((with_reducible apply AL.vMod); rfl; rfl))
local macro_rules | `(tactic| sizeOf_list_dec) => `(tactic| ((with_reducible apply AL.vDiv); rfl; rfl))
local macro_rules | `(tactic| sizeOf_list_dec) => `(tactic| ((with_reducible apply AL.vMul); rfl; rfl))
local macro_rules | `(tactic| sizeOf_list_dec) => `(tactic| ((with_reducible apply AL.vAbs); rfl))
local macro_rules | `(tactic| sizeOf_list_dec) => `(tactic| ((with_reducible apply AL.vNeg); rfl))
local macro_rules | `(tactic| sizeOf_list_dec) => `(tactic| ((with_reducible apply AL.vNe); rfl))
local macro_rules | `(tactic| sizeOf_list_dec) => `(tactic| ((with_reducible apply AL.vEq); rfl))
local macro_rules | `(tactic| sizeOf_list_dec) => `(tactic| ((with_reducible apply AL.vIsN); rfl))
local macro_rules | `(tactic| sizeOf_list_dec) => `(tactic| ((with_reducible apply AL.vIsi); rfl; first | exact AL.kit_int_int | exact AL.kit_int_bool | exact AL.kit_tuple_tuple | exact AL.kit_str_str | exact AL.kit_bool_bool | exact AL.kit_NoneType_tuple | exact AL.kit_NoneType_int | exact AL.kit_int_tuple | exact AL.kit_str_int | exact AL.kit_tuple_int))
local macro_rules | `(tactic| sizeOf_list_dec) => `(tactic| ((with_reducible apply AL.vIsNT); rfl; rfl))
local macro_rules | `(tactic| sizeOf_list_dec) => `(tactic| ((with_reducible apply AL.vIsT); rfl; rfl))
local macro_rules | `(tactic| sizeOf_list_dec) => `(tactic| ((with_reducible apply AL.vIs); rfl))
local macro_rules | `(tactic| sizeOf_list_dec) => `(tactic| ((with_reducible apply AL.vAdd); rfl; rfl))
local macro_rules | `(tactic| sizeOf_list_dec) => `(tactic| ((with_reducible apply AL.vI); rfl; rfl))
local macro_rules | `(tactic| sizeOf_list_dec) => `(tactic| ((with_reducible apply AL.vIxT); rfl; rfl; rfl))
local macro_rules | `(tactic| sizeOf_list_dec) => `(tactic| with_reducible refine AL.wiT ?_)
local macro_rules | `(tactic| sizeOf_list_dec) => `(tactic| with_reducible refine AL.wiE ?_)
local macro_rules | `(tactic| sizeOf_list_dec) => `(tactic| with_reducible refine AL.wiR2 ?_)
local macro_rules | `(tactic| sizeOf_list_dec) => `(tactic| with_reducible refine AL.wiR ?_)
local macro_rules | `(tactic| sizeOf_list_dec) => `(tactic| with_reducible refine AL.vGet2 ?_)
local macro_rules | `(tactic| sizeOf_list_dec) => `(tactic| with_reducible refine AL.vGet1 ?_)
local macro_rules | `(tactic| sizeOf_list_dec) => `(tactic| with_reducible refine AL.woS ?_)
local macro_rules | `(tactic| sizeOf_list_dec) => `(tactic| with_reducible refine AL.woN ?_)
local macro_rules | `(tactic| sizeOf_list_dec) => `(tactic| with_reducible refine AL.wSl ?_)
local macro_rules | `(tactic| sizeOf_list_dec) => `(tactic| with_reducible refine AL.wLc ?_)
local macro_rules | `(tactic| sizeOf_list_dec) => `(tactic| with_reducible refine AL.wDic ?_)
local macro_rules | `(tactic| sizeOf_list_dec) => `(tactic| with_reducible refine AL.wU ?_)
local macro_rules | `(tactic| sizeOf_list_dec) => `(tactic| with_reducible refine AL.weCh ?_)
local macro_rules | `(tactic| sizeOf_list_dec) => `(tactic| with_reducible refine AL.weI ?_)
local macro_rules | `(tactic| sizeOf_list_dec) => `(tactic| with_reducible refine AL.weN ?_)
local macro_rules | `(tactic| sizeOf_list_dec) => `(tactic| with_reducible refine AL.weO ?_)
local macro_rules | `(tactic| sizeOf_list_dec) => `(tactic| with_reducible refine AL.weA ?_)
local macro_rules | `(tactic| sizeOf_list_dec) => `(tactic| with_reducible refine AL.wbY ?_)
local macro_rules | `(tactic| sizeOf_list_dec) => `(tactic| with_reducible refine AL.wbN ?_)
local macro_rules | `(tactic| sizeOf_list_dec) => `(tactic| with_reducible refine AL.wbO ?_)
local macro_rules | `(tactic| sizeOf_list_dec) => `(tactic| with_reducible refine AL.wbA ?_)
local macro_rules | `(tactic| sizeOf_list_dec) => `(tactic| with_reducible refine AL.ws_nil ?_)
local macro_rules | `(tactic| sizeOf_list_dec) => `(tactic| with_reducible refine AL.ws_for ?_)
local macro_rules | `(tactic| sizeOf_list_dec) => `(tactic| with_reducible refine AL.ws_sub ?_)
local macro_rules | `(tactic| sizeOf_list_dec) => `(tactic| with_reducible refine AL.ws_par ?_)
local macro_rules | `(tactic| sizeOf_list_dec) => `(tactic| with_reducible refine AL.ws_expr ?_)
local macro_rules | `(tactic| sizeOf_list_dec) => `(tactic| with_reducible refine AL.wMt ?_)
local macro_rules | `(tactic| sizeOf_list_dec) => `(tactic| with_reducible refine AL.wLst ?_)
local macro_rules | `(tactic| sizeOf_list_dec) => `(tactic| with_reducible refine AL.wTup ?_)
local macro_rules | `(tactic| sizeOf_list_dec) => `(tactic| with_reducible refine AL.wiZ ?_)
local macro_rules | `(tactic| sizeOf_list_dec) => `(tactic| with_reducible refine AL.wDefK ?_)
local macro_rules | `(tactic| sizeOf_list_dec) => `(tactic| with_reducible refine AL.wCall ?_)
local macro_rules | `(tactic| sizeOf_list_dec) => `(tactic| with_reducible refine AL.wDef ?_)
local macro_rules | `(tactic| sizeOf_list_dec) => `(tactic| with_reducible refine AL.wT ?_)
local macro_rules | `(tactic| sizeOf_list_dec) => `(tactic| with_reducible refine AL.ws_ret ?_)
local macro_rules | `(tactic| sizeOf_list_dec) => `(tactic| with_reducible refine AL.ws_if ?_)
local macro_rules | `(tactic| sizeOf_list_dec) => `(tactic| with_reducible refine AL.ws_asg ?_)
local macro_rules | `(tactic| sizeOf_list_dec) => `(tactic| with_reducible refine AL.wa0 ?_)
local macro_rules | `(tactic| sizeOf_list_dec) => `(tactic| with_reducible refine AL.wa1 ?_)
local macro_rules | `(tactic| sizeOf_list_dec) => `(tactic| with_reducible refine AL.wc ?_)
local macro_rules | `(tactic| sizeOf_list_dec) => `(tactic| with_reducible refine AL.wB ?_)
local macro_rules | `(tactic| sizeOf_list_dec) => `(tactic| ((with_reducible apply AL.wv); rfl))
local macro_rules | `(tactic| sizeOf_list_dec) => `(tactic| with_reducible refine AL.ws_seq ?_)
local macro_rules | `(tactic| array_get_dec) => `(tactic| repeat sizeOf_list_dec)
namespace K37
open PySem PySem.Spec PyProof.Rows L2 G Th AL
def keptOf (fl : Fl) (e : Ev) (ms : List Mv) (ps : List Pr) : Pr := if e.name = fl.src then (some e.stamp, some e.stamp) else (greatest (ms.filterMap (endOf ps false)), least (ms.filterMap (endOf ps true)))
theorem kept_pair_eq {fl : Fl} {e : Ev} {ms : List Mv} {ps : List Pr} {r n : Nat} {S : Sto} (hr : S[r]? = some (.lst (ms.map mvV))) (hn : S[n]? = some (.lst (ps.map prV))) (hl : ms.length ≤ 1000) (ok : ∀ m ∈ ms, MvOk ps m) (hB : ∀ b, ∀ q ∈ ms.filterMap (endOf ps b), Bd q) :
    ∃ S', kept_pair_ [flV fl, evV e, .ref r, .ref n] S = some (prV (keptOf fl e ms ps), S') ∧ Kn S S' := by
  unfold keptOf
  by_cases hs : e.name = fl.src
  · refine ⟨S, ?_, Kn.refl _⟩
    rw [if_pos hs]
    refine run_rt ?_
    simp only [kept_pair_B, eV, eC, eB, eT, eU, eIf, eCh, eAnd, eOr, eNot, bAnd, bOr, bNot, bYes, aNil, aCons, eTup, eLst, eCall, eDef, eMt, eMt0, eSl, oN, oS, sNil, sSeq, sExpr, sRet, sIf, sAsg, sPar, sSub, runF, Pat.bind, Pat.binds, gI, gNeg, gAdd, gIs, gIsN, gLen, gAbs, gTuple, gList, gSet, gSetA, gIxA, gIx, gEq, gNe, eqA, eqS, AL.keyOf, eGet1, eGet2, eDic, gIn, List.getElem?_cons_zero, List.getElem?_cons_succ, List.getElem?_nil, List.set_cons_zero, List.set_cons_succ, List.map_cons, List.map_nil, List.append_eq, List.cons_append, List.nil_append, List.replicate_succ, List.replicate_zero, List.length_cons, List.length_nil, Option.bind_some, Option.bind_none, Option.map_some, Nat.reduceAdd, Nat.reduceSub, Nat.reduceLeDiff, if_true, ite_true, if_false, Bool.false_eq_true, reduceIte, evV, flV, at2, decide_eq_true hs, prV, oV]
  · rw [if_neg hs]
    have e0 := ends_eq (b := false) hr hn hl ok
    generalize hS1 : S ++ [Ob.lst (ms.map fun m => oV (endOf ps false m)), .lst ((ms.filterMap (endOf ps false)).map frV)] = S1 at e0
    have k1 : Kn S S1 := by rw [← hS1]; exact Kn.app _ _
    have l1 : S1[S.length + 1]? = some (.lst ((ms.filterMap (endOf ps false)).map frV)) := by
      rw [← hS1, List.getElem?_append_right (by omega)]
      simp
    have g1 := greatest_eq l1 (hB false)
    have e1 := ends_eq (b := true) (k1 _ _ hr) (k1 _ _ hn) hl ok
    generalize hS2 : S1 ++ [Ob.lst (ms.map fun m => oV (endOf ps true m)), .lst ((ms.filterMap (endOf ps true)).map frV)] = S2 at e1
    have k2 : Kn S1 S2 := by rw [← hS2]; exact Kn.app _ _
    have l2 : S2[S1.length + 1]? = some (.lst ((ms.filterMap (endOf ps true)).map frV)) := by
      rw [← hS2, List.getElem?_append_right (by omega)]
      simp
    have g2 := least_eq l2 (hB true)
    refine ⟨S2, ?_, k1.trans k2⟩
    simp only [sI, Bool.false_eq_true, if_false, if_true] at e0 e1
    refine run_rt ?_
    simp only [kept_pair_B, eV, eC, eB, eT, eU, eIf, eCh, eAnd, eOr, eNot, bAnd, bOr, bNot, bYes, aNil, aCons, eTup, eLst, eCall, eDef, eMt, eMt0, eSl, oN, oS, sNil, sSeq, sExpr, sRet, sIf, sAsg, sPar, sSub, runF, Pat.bind, Pat.binds, gI, gNeg, gAdd, gIs, gIsN, gLen, gAbs, gTuple, gList, gSet, gSetA, gIxA, gIx, gEq, gNe, eqA, eqS, AL.keyOf, eGet1, eGet2, eDic, gIn, List.getElem?_cons_zero, List.getElem?_cons_succ, List.getElem?_nil, List.set_cons_zero, List.set_cons_succ, List.map_cons, List.map_nil, List.append_eq, List.cons_append, List.nil_append, List.replicate_succ, List.replicate_zero, List.length_cons, List.length_nil, Option.bind_some, Option.bind_none, Option.map_some, Nat.reduceAdd, Nat.reduceSub, Nat.reduceLeDiff, if_true, ite_true, if_false, Bool.false_eq_true, reduceIte, evV, flV, at2, decide_eq_false hs, e0, g1, e1, g2, prV]
def pairsUp (fl : Fl) (es : List Ev) : Nat → List Pr
  | 0 => []
  | i + 1 => pairsUp fl es i ++ [keptOf fl (es.getD i dEv) (row fl es i) (pairsUp fl es i)]
theorem pairsUp_len (fl : Fl) (es : List Ev) : ∀ i, (pairsUp fl es i).length = i
  | 0 => rfl
  | i + 1 => by rw [pairsUp, List.length_append, pairsUp_len fl es i]; rfl
theorem row_len (fl : Fl) (es : List Ev) (i : Nat) : (row fl es i).length ≤ 2 := by
  unfold row movesInto
  rw [List.length_append]
  have h1 : (mv1 fl es (lastAt es i (es.getD i dEv).name) (es.getD i dEv)).length ≤ 1 := by unfold mv1; split <;> simp
  have h2 : (mv2 fl es (es.getD i dEv).deed).length ≤ 1 := by
    unfold mv2
    split
    · split <;> simp
    · simp
  omega
structure HiOk (fl : Fl) (es : List Ev) : Prop where
  len : es.length ≤ 30
  rows : ∀ i, i < es.length → RowOk fl es i
  mv : ∀ i, i < es.length → ∀ m ∈ K37.row fl es i, MvOk (pairsUp fl es i) m
  bd : ∀ i, i < es.length → ∀ b, ∀ q ∈ (K37.row fl es i).filterMap (endOf (pairsUp fl es i) b), Bd q
  all : ∀ i, i ≤ es.length → ∀ p ∈ pairsUp fl es i, ∀ b, BdO (sel b p)
theorem kept_eq {fl : Fl} {es : List Ev} {S : Sto} (ok : HiOk fl es) : ∃ S', kept_pairs_ [hiV fl es] S = some (.tup ((pairsUp fl es es.length).map prV), S') ∧ Kn S S' := by
  obtain ⟨R, rs, S2, he, kn, hR, rl, lR, hrr⟩ := hist_eq (S := S ++ [.lst []]) ok.len ok.rows
  have a0 : S2[S.length]? = some (.lst []) := kn _ _ sl
  simp only [List.length_append, List.length_singleton] at lR hrr
  obtain ⟨ρ', S', e, ⟨y4, y5, hρ⟩, hp, hk⟩ := forR_run (p := .tp [(.nm 4), (.nm 5)]) (g := sExpr (eMt isL gApp (eV 1) (aCons (eDef kept_pair_ 4 (aCons (eV 2) (aCons (eV 4) (aCons (eV 5) (aCons (eV 1) aNil))))) aNil))) (ok := fun T => T[R]? = some (.lst (rs.map Val.ref)))
    (fun i ρ T => (∃ y4 y5, ρ = [some (hiV fl es), some (.ref S.length), some (flV fl), some (.tup (es.map evV)), y4, y5]) ∧ T[S.length]? = some (.lst ((pairsUp fl es i).map prV)) ∧ Kx S.length S2 T)
    (vs := zipV (es.map evV) (rs.map Val.ref)) (ρ := [some (hiV fl es), some (.ref S.length), some (flV fl), some (.tup (es.map evV)), none, none]) (S := S2) (fun i ρ T h => h.2.2 _ _ (by omega) hR) ⟨⟨_, _, rfl⟩, a0, Kx.refl _ _⟩ (fun i v ρ T hv ⟨⟨y4, y5, hρ⟩, hp, hk⟩ => by
      obtain ⟨x, y, hx, hy, rfl⟩ := zipV_get hv
      rw [List.getElem?_map] at hx hy
      obtain ⟨ev, hev, rfl⟩ := Option.map_eq_some_iff.mp hx
      obtain ⟨r, hr, rfl⟩ := Option.map_eq_some_iff.mp hy
      have hi : i < es.length := (List.getElem?_eq_some_iff.mp hev).1
      have eev : es.getD i dEv = ev := by
        have := getD_get hi
        rw [hev] at this
        exact (Option.some.inj this).symm
      subst hρ
      obtain ⟨lr, rr⟩ := hrr i r hr
      have rT := hk _ _ (by omega) rr
      obtain ⟨T1, ek, k1⟩ := kept_pair_eq (fl := fl) (e := ev) rT hp (by have := row_len fl es i; omega) (ok.mv i hi) (ok.bd i hi)
      have ap := app_at (v := prV (keptOf fl ev (row fl es i) (pairsUp fl es i))) (k1 _ _ hp) (by rw [List.length_map, pairsUp_len]; have := ok.len; omega)
      have il := isL_at hp
      refine ⟨[some (hiV fl es), some (.ref S.length), some (flV fl), some (.tup (es.map evV)), some (evV ev), some (.ref r)], _, _, rfl, by simp only [eV, eC, eB, eT, eU, eIf, eCh, eAnd, eOr, eNot, bAnd, bOr, bNot, bYes, aNil, aCons, eTup, eLst, eCall, eDef, eMt, eMt0, eSl, oN, oS, sNil, sSeq, sExpr, sRet, sIf, sAsg, sPar, sSub, runF, Pat.bind, Pat.binds, gI, gNeg, gAdd, gIs, gIsN, gLen, gAbs, gTuple, gList, gSet, gSetA, gIxA, gIx, gEq, gNe, eqA, eqS, AL.keyOf, eGet1, eGet2, eDic, gIn, List.getElem?_cons_zero, List.getElem?_cons_succ, List.getElem?_nil, List.set_cons_zero, List.set_cons_succ, List.map_cons, List.map_nil, List.append_eq, List.cons_append, List.nil_append, List.replicate_succ, List.replicate_zero, List.length_cons, List.length_nil, Option.bind_some, Option.bind_none, Option.map_some, Nat.reduceAdd, Nat.reduceSub, Nat.reduceLeDiff, if_true, ite_true, if_false, Bool.false_eq_true, reduceIte, il, ek, ap]; rfl, ⟨_, _, rfl⟩, ?_, (hk.trans (k1.kx _)).trans Kx.put⟩
      rw [ss (k1 _ _ hp), pairsUp, eev, List.map_append]
      rfl)
  have zl : (zipV (es.map evV) (rs.map Val.ref)).length = es.length := by simp [zipV, rl]
  rw [zl] at hp
  refine ⟨S', ?_, fun k o hk2 => ?_⟩
  · subst hρ
    refine run_rt ?_
    refine (seq (ρ1 := [some (hiV fl es), none, some (flV fl), some (.tup (es.map evV)), none, none]) (S1 := S) (by simp only [eV, eC, eB, eT, eU, eIf, eCh, eAnd, eOr, eNot, bAnd, bOr, bNot, bYes, aNil, aCons, eTup, eLst, eCall, eDef, eMt, eMt0, eSl, oN, oS, sNil, sSeq, sExpr, sRet, sIf, sAsg, sPar, sSub, runF, Pat.bind, Pat.binds, gI, gNeg, gAdd, gIs, gIsN, gLen, gAbs, gTuple, gList, gSet, gSetA, gIxA, gIx, gEq, gNe, eqA, eqS, AL.keyOf, eGet1, eGet2, eDic, gIn, List.getElem?_cons_zero, List.getElem?_cons_succ, List.getElem?_nil, List.set_cons_zero, List.set_cons_succ, List.map_cons, List.map_nil, List.append_eq, List.cons_append, List.nil_append, List.replicate_succ, List.replicate_zero, List.length_cons, List.length_nil, Option.bind_some, Option.bind_none, Option.map_some, Nat.reduceAdd, Nat.reduceSub, Nat.reduceLeDiff, if_true, ite_true, if_false, Bool.false_eq_true, reduceIte, hiV])).trans ?_
    refine (seq (ρ1 := [some (hiV fl es), some (.ref S.length), some (flV fl), some (.tup (es.map evV)), none, none]) (S1 := S ++ [.lst []]) (by simp only [eV, eC, eB, eT, eU, eIf, eCh, eAnd, eOr, eNot, bAnd, bOr, bNot, bYes, aNil, aCons, eTup, eLst, eCall, eDef, eMt, eMt0, eSl, oN, oS, sNil, sSeq, sExpr, sRet, sIf, sAsg, sPar, sSub, runF, Pat.bind, Pat.binds, gI, gNeg, gAdd, gIs, gIsN, gLen, gAbs, gTuple, gList, gSet, gSetA, gIxA, gIx, gEq, gNe, eqA, eqS, AL.keyOf, eGet1, eGet2, eDic, gIn, List.getElem?_cons_zero, List.getElem?_cons_succ, List.getElem?_nil, List.set_cons_zero, List.set_cons_succ, List.map_cons, List.map_nil, List.append_eq, List.cons_append, List.nil_append, List.replicate_succ, List.replicate_zero, List.length_cons, List.length_nil, Option.bind_some, Option.bind_none, Option.map_some, Nat.reduceAdd, Nat.reduceSub, Nat.reduceLeDiff, if_true, ite_true, if_false, Bool.false_eq_true, reduceIte, Nat.zero_le])).trans ?_
    refine (seq (ρ1 := [some (hiV fl es), some (.ref S.length), some (flV fl), some (.tup (es.map evV)), y4, y5]) (S1 := S') (by simp only [sFor, iZp, eV, eC, eB, eT, eU, eIf, eCh, eAnd, eOr, eNot, bAnd, bOr, bNot, bYes, aNil, aCons, eTup, eLst, eCall, eDef, eMt, eMt0, eSl, oN, oS, sNil, sSeq, sExpr, sRet, sIf, sAsg, sPar, sSub, runF, Pat.bind, Pat.binds, gI, gNeg, gAdd, gIs, gIsN, gLen, gAbs, gTuple, gList, gSet, gSetA, gIxA, gIx, gEq, gNe, eqA, eqS, AL.keyOf, eGet1, eGet2, eDic, gIn, List.getElem?_cons_zero, List.getElem?_cons_succ, List.getElem?_nil, List.set_cons_zero, List.set_cons_succ, List.map_cons, List.map_nil, List.append_eq, List.cons_append, List.nil_append, List.replicate_succ, List.replicate_zero, List.length_cons, List.length_nil, Option.bind_some, Option.bind_none, Option.map_some, Nat.reduceAdd, Nat.reduceSub, Nat.reduceLeDiff, if_true, ite_true, if_false, Bool.false_eq_true, reduceIte, he, hR, List.length_map, rl, e])).trans ?_
    simp only [eV, eC, eB, eT, eU, eIf, eCh, eAnd, eOr, eNot, bAnd, bOr, bNot, bYes, aNil, aCons, eTup, eLst, eCall, eDef, eMt, eMt0, eSl, oN, oS, sNil, sSeq, sExpr, sRet, sIf, sAsg, sPar, sSub, runF, Pat.bind, Pat.binds, gI, gNeg, gAdd, gIs, gIsN, gLen, gAbs, gTuple, gList, gSet, gSetA, gIxA, gIx, gEq, gNe, eqA, eqS, AL.keyOf, eGet1, eGet2, eDic, gIn, List.getElem?_cons_zero, List.getElem?_cons_succ, List.getElem?_nil, List.set_cons_zero, List.set_cons_succ, List.map_cons, List.map_nil, List.append_eq, List.cons_append, List.nil_append, List.replicate_succ, List.replicate_zero, List.length_cons, List.length_nil, Option.bind_some, Option.bind_none, Option.map_some, Nat.reduceAdd, Nat.reduceSub, Nat.reduceLeDiff, if_true, ite_true, if_false, Bool.false_eq_true, reduceIte, hp]
  · have lk : k < S.length := (List.getElem?_eq_some_iff.mp hk2).1
    exact hk k o (by omega) (kn k o (sa hk2))
end K37
namespace K37
open PySem PySem.Spec PyProof.Rows L2 G Th AL
def l1 (fl : Fl) (es : List Ev) (ps : List Pr) (b : Bool) (i : Nat) : Option Fq := ((mv1 fl es (lastAt es i (es.getD i dEv).name) (es.getD i dEv)).filterMap (endOf ps b)).head?
end K37
namespace K37
open PySem PySem.Spec PyProof.Rows L2 G Th AL
def a1 (fl : Fl) (es : List Ev) (i : Nat) (b : Bool) : Option Fq := match lastAt es i (es.getD i dEv).name, driftOf fl (es.getD i dEv).name with
  | some j, some h => endOf (pairsUp fl es i) b ⟨j, Fr.div (Fr.sub (es.getD i dEv).stamp (es.getD j dEv).stamp) h.fast, some (Fr.div (Fr.sub (es.getD i dEv).stamp (es.getD j dEv).stamp) h.slow)⟩
  | _, _ => none
def a2 (fl : Fl) (es : List Ev) (i : Nat) (b : Bool) : Option Fq := match (es.getD i dEv).deed with
  | .hear k => match linkAt fl es k with
    | some l => endOf (pairsUp fl es i) b ⟨k, l.least, l.most⟩
    | none => none
  | _ => none
section
variable {fl : Fl} {es : List Ev} {i : Nat} {A B C : Nat} {T : Sto} {h : Hs} {d : List (Key × Val)}
end
end K37
namespace K37
open PySem PySem.Spec PyProof.Rows L2 G Th AL
section
variable {fl : Fl} {es : List Ev} {i : Nat} {A B C : Nat} {T : Sto} {h : Hs} {d : List (Key × Val)}
end
end K37
namespace K37
open PySem PySem.Spec PyProof.Rows L2 G Th AL
theorem getD_app {ps : List Pr} {p : Pr} {j : Nat} (h : j < ps.length) : (ps ++ [p]).getD j (none, none) = ps.getD j (none, none) := by
  simp [List.getD, List.getElem?_append_left h]
theorem getD_end {ps : List Pr} {p : Pr} : (ps ++ [p]).getD ps.length (none, none) = p := by
  simp [List.getD]
end K37
namespace K37
open PySem PySem.Spec PyProof.Rows L2 G Th AL
def slows : List Fq := [(1, 1), (1, 2), (3, 4)]
def fasts : List Fq := [(1, 1), (5, 4), (3, 2), (2, 1)]
def TxOk (x : Str) : Prop := PyData.strOk x = true ∧ x.cps.size ≤ 8
def leasts : List Fq := [(0, 1), (1, 2), (1, 1), (2, 1)]
def mores : List (Option Fq) := [none, some (0, 1), some (1, 1), some (3, 1)]

def LkS (l : Lk) : Prop := (l.least ∈ leasts ∧ l.fr ≠ l.to) ∧ ∀ m, l.most = some m → ∃ x, some x ∈ mores ∧ m = Fr.add l.least x
structure FlOk (fl : Fl) : Prop where
  nd : (fl.hs.map Hs.name).Nodup
  ne : 0 < fl.hs.length
  few : fl.hs.length ≤ 6
  rate : ∀ h ∈ fl.hs, h.slow ∈ slows ∧ h.fast ∈ fasts
  lk : ∀ l ∈ fl.ls, Fr.Ok 4 l.least ∧ ∀ m, l.most = some m → Fr.Ok 10 m
  lfew : fl.ls.length ≤ 8
  tx : (∀ h ∈ fl.hs, TxOk h.name) ∧ (∀ l ∈ fl.ls, TxOk l.fr ∧ TxOk l.to) ∧ TxOk fl.src
  one : ∀ h ∈ fl.hs, h.name = fl.src → h.slow = (1, 1) ∧ h.fast = (1, 1)
  lks : ∀ l ∈ fl.ls, LkS l
def StOk (x : Fq) : Prop := ∃ k : Int, x = Fr.mk k 4 ∧ k.natAbs ≤ 1000
structure EvOk (fl : Fl) (es : List Ev) (i : Nat) : Prop where
  name : (es.getD i dEv).name ∈ fl.hs.map Hs.name
  st : StOk (es.getD i dEv).stamp
  send : ∀ l, (es.getD i dEv).deed = .send l → l < fl.ls.length
  hear : ∀ k, (es.getD i dEv).deed = .hear k → k < i ∧ ∃ l, (es.getD k dEv).deed = .send l
structure HV (fl : Fl) (es : List Ev) : Prop where
  len : es.length ≤ 30
  ev : ∀ i, i < es.length → EvOk fl es i
theorem StOk.ok {x : Fq} (h : StOk x) : Fr.Ok 10 x := by
  obtain ⟨k, rfl, hk⟩ := h
  exact Fr.mk_ok (by decide) (Nat.lt_of_le_of_lt hk (by decide)) (by decide)
theorem Bd.of {n : Nat} {x : Fq} (h : Fr.Ok n x) (hn : n ≤ 900) : Bd x := ⟨h.pos, Fr.bmono h.b1 hn, Fr.bmono h.b2 hn⟩
theorem slow_ok {x : Fq} (h : x ∈ slows) : Fr.Ok 3 x ∧ 0 < x.1 := by
  simp only [slows, List.mem_cons, List.not_mem_nil, or_false] at h
  rcases h with rfl | rfl | rfl <;> exact ⟨⟨by decide, by decide, by decide, by decide⟩, by decide⟩
theorem fast_ok {x : Fq} (h : x ∈ fasts) : Fr.Ok 3 x ∧ 0 < x.1 := by
  simp only [fasts, List.mem_cons, List.not_mem_nil, or_false] at h
  rcases h with rfl | rfl | rfl | rfl <;> exact ⟨⟨by decide, by decide, by decide, by decide⟩, by decide⟩
theorem drift_some {fl : Fl} {n : Str} (h : n ∈ fl.hs.map Hs.name) : ∃ x, driftOf fl n = some x ∧ x ∈ fl.hs := by
  obtain ⟨y, hy, rfl⟩ := List.mem_map.mp h
  unfold driftOf
  cases e : fl.hs.find? (fun z => decide (z.name = y.name)) with
  | none =>
    rw [List.find?_eq_none] at e
    exact absurd (decide_eq_true rfl) (e y hy)
  | some x => exact ⟨x, rfl, List.mem_of_find?_eq_some e⟩
section
variable {fl : Fl} {es : List Ev}
theorem gone_ok (fo : FlOk fl) (hv : HV fl es) {i j : Nat} (hi : i < es.length) (hj : j < es.length) : Fr.Ok 21 (Fr.sub (es.getD i dEv).stamp (es.getD j dEv).stamp) := Fr.sub_ok (hv.ev i hi).st.ok (hv.ev j hj).st.ok
theorem rows_ok (fo : FlOk fl) (hv : HV fl es) (i : Nat) (hi : i < es.length) : RowOk fl es i := by
  refine ⟨fun j hj => ?_, fun k hk => ?_⟩
  · have lt := lastAt_lt hj
    obtain ⟨x, hx, hm⟩ := drift_some (hv.ev i hi).name
    obtain ⟨r1, r2⟩ := fo.rate x hm
    exact ⟨by omega, ⟨x, hx, (fast_ok r2).2, (slow_ok r1).2, .of (fast_ok r2).1 (by decide), .of (slow_ok r1).1 (by decide)⟩, .of (hv.ev i hi).st.ok (by decide), .of (hv.ev j (by omega)).st.ok (by decide), .of (gone_ok fo hv hi (by omega)) (by decide)⟩
  · obtain ⟨lt, l, hl⟩ := (hv.ev i hi).hear k hk
    have lk := (hv.ev k (by omega)).send l hl
    exact ⟨⟨by omega, l, fl.ls[l], hl, List.getElem?_eq_getElem lk⟩, lt⟩

theorem row_mem (fo : FlOk fl) (hv : HV fl es) {i : Nat} (hi : i < es.length) {m : Mv} (hm : m ∈ row fl es i) : m.x < i ∧ Fr.Ok 24 m.lo ∧ ∀ q, m.hi = some q → Fr.Ok 24 q := by
  unfold row movesInto at hm
  rcases List.mem_append.mp hm with hm | hm
  · unfold mv1 at hm
    split at hm
    · next j h hj hh =>
      simp only [List.mem_cons, List.not_mem_nil, or_false] at hm
      subst hm
      have lt := lastAt_lt hj
      have hmem : h ∈ fl.hs := List.mem_of_find?_eq_some hh
      obtain ⟨r1, r2⟩ := fo.rate h hmem
      have g := gone_ok fo hv hi (show j < es.length by omega)
      refine ⟨lt, Fr.div_ok g (fast_ok r2).1 (by have := (fast_ok r2).2; omega), fun q hq => ?_⟩
      cases hq
      exact Fr.div_ok g (slow_ok r1).1 (by have := (slow_ok r1).2; omega)
    · simp at hm
  · unfold mv2 at hm
    split at hm
    · next k hk =>
      split at hm
      · next l hl =>
        simp only [List.mem_cons, List.not_mem_nil, or_false] at hm
        subst hm
        have lt := ((hv.ev i hi).hear k hk).1
        have lm : l ∈ fl.ls := by
          unfold linkAt at hl
          split at hl
          · exact List.mem_of_getElem? hl
          · cases hl
        obtain ⟨o1, o2⟩ := fo.lk l lm
        exact ⟨lt, o1.mono (by decide), fun q hq => (o2 q hq).mono (by decide)⟩
      · simp at hm
    · simp at hm
def POk (n : Nat) (p : Pr) : Prop := ∀ b x, sel b p = some x → Fr.Ok n x
theorem end_ok (fo : FlOk fl) (hv : HV fl es) {i : Nat} (hi : i < es.length) (hp : ∀ j, j < i → POk (30 * (j + 1)) ((pairsUp fl es i).getD j (none, none))) {m : Mv} (hm : m ∈ row fl es i) (b : Bool) (x : Fq) (hx : endOf (pairsUp fl es i) b m = some x) : Fr.Ok (30 * (i + 1)) x := by
  obtain ⟨lt, o1, o2⟩ := row_mem fo hv hi hm
  unfold endOf at hx
  have pj := hp m.x lt b
  cases e1 : sel b ((pairsUp fl es i).getD m.x (none, none)) with
  | none => rw [e1] at hx; simp [addO] at hx
  | some a =>
    cases e2 : sel b (some m.lo, m.hi) with
    | none => rw [e1, e2] at hx; simp [addO] at hx
    | some c =>
      rw [e1, e2] at hx
      simp only [addO, Option.some.injEq] at hx
      subst hx
      have oc : Fr.Ok 24 c := by
        cases b with
        | true => exact o2 c (by simpa [sel] using e2)
        | false =>
          simp only [sel, Bool.false_eq_true, if_false, Option.some.injEq] at e2
          subst e2
          exact o1
      exact (Fr.add_ok (pj a e1) oc).mono (by omega)
theorem pairs_ok (fo : FlOk fl) (hv : HV fl es) : ∀ i, i ≤ es.length → ∀ j, j < i → POk (30 * (j + 1)) ((pairsUp fl es i).getD j (none, none))
  | 0, _, j, h => by omega
  | i + 1, hi, j, hj => by
    have ih := pairs_ok fo hv i (by omega)
    rw [pairsUp]
    by_cases e : j < i
    · rw [getD_app (by rw [pairsUp_len]; exact e)]
      exact ih j e
    · have e : j = i := by omega
      subst e
      have := getD_end (ps := pairsUp fl es j) (p := keptOf fl (es.getD j dEv) (row fl es j) (pairsUp fl es j))
      rw [pairsUp_len] at this
      rw [this]
      intro b x hx
      unfold keptOf at hx
      split at hx
      · have : x = (es.getD j dEv).stamp := by cases b <;> simpa [sel, eq_comm] using hx
        subst this
        exact (hv.ev j (by omega)).st.ok.mono (by omega)
      · cases b with
        | true =>
          simp only [sel, if_true] at hx
          rcases least_mem _ _ _ hx with m | m
          · obtain ⟨mv, hm, he⟩ := List.mem_filterMap.mp m
            exact end_ok fo hv (by omega) ih hm _ _ he
          · cases m
        | false =>
          simp only [sel, Bool.false_eq_true, if_false] at hx
          rcases greatest_mem _ _ _ hx with m | m
          · obtain ⟨mv, hm, he⟩ := List.mem_filterMap.mp m
            exact end_ok fo hv (by omega) ih hm _ _ he
          · cases m
theorem hi_ok (fo : FlOk fl) (hv : HV fl es) : HiOk fl es := by
  have l30 := hv.len
  refine ⟨hv.len, rows_ok fo hv, fun i hi m hm => ?_, fun i hi b q hq => ?_, fun i hi p hp b x hx => ?_⟩
  · obtain ⟨lt, o1, o2⟩ := row_mem fo hv hi hm
    refine ⟨by rw [pairsUp_len]; exact lt, fun b x hx => ?_, fun b x hx => ?_⟩
    · exact .of (pairs_ok fo hv i (by omega) m.x lt b x hx) (by omega)
    · cases b with
      | true => exact .of (o2 x (by simpa [sel] using hx)) (by decide)
      | false =>
        simp only [sel, Bool.false_eq_true, if_false, Option.some.injEq] at hx
        subst hx
        exact .of o1 (by decide)
  · obtain ⟨mv, hm, he⟩ := List.mem_filterMap.mp hq
    exact .of (end_ok fo hv hi (pairs_ok fo hv i (by omega)) hm _ _ he) (by omega)
  · obtain ⟨j, hj⟩ := List.getElem?_of_mem hp
    have lj := (List.getElem?_eq_some_iff.mp hj).1
    rw [pairsUp_len] at lj
    have e : (pairsUp fl es i).getD j (none, none) = p := by simp [List.getD, hj]
    exact .of (pairs_ok fo hv i hi j lj b x (by rw [e]; exact hx)) (by omega)
end
end K37
namespace K37
open PySem PySem.Spec PyProof.Rows L2 G Th AL
theorem Tp.fr {S S' : Sto} {B : Int} (h : Tp S B) (k : Kn S S') : Tp S' B := by
  obtain ⟨ns, i, q, n, h0, h1, r⟩ := h.ex
  exact ⟨ns, i, q, n, k _ _ h0, k _ _ h1, r⟩
theorem Fr1.len {S S' : Sto} (h : Fr1 S S') (h2 : 2 < S.length) : S.length ≤ S'.length := by
  have l : S.length - 1 < S.length := by omega
  have := h (S.length - 1) _ (by omega) (List.getElem?_eq_getElem l)
  have := (List.getElem?_eq_some_iff.mp this).1
  omega

end K37
namespace K37
open PySem PySem.Spec PyProof.Rows L2 G Th AL
theorem p40 : (2 : Int) ^ 40 = 1099511627776 := by decide
theorem p60 : (2 : Int) ^ 60 = 1152921504606846976 := by decide
section
variable {ρ : Rho} {T : Sto} {B : Int}
end
section
variable {T : Sto} {B : Int} {P N Hh L : Nat} {sr : Str} {nm : List Str} {y3 y4 y8 y9 y10 y11 y12 y13 : Option Val}
theorem flat_strs : ∀ xs : List Str, (xs.map Val.str).all flatA = true
  | [] => rfl
  | x :: xs => by
    rw [List.map_cons, List.all_cons, flat_strs xs]
    rfl
end
end K37
namespace K37
open PySem PySem.Spec PyProof.Rows L2 G Th AL
end K37
namespace K37
open PySem PySem.Spec PyProof.Rows L2 G Th AL
end K37
namespace K37
open PySem PySem.Spec PyProof.Rows L2 G Th AL
theorem merge_app : ∀ (kvs acc : List (Key × Val)), ((acc ++ kvs).map (·.1)).Nodup → mergeA acc kvs = acc ++ kvs
  | [], acc, _ => by simp [mergeA]
  | p :: r, acc, h => by
    have e : mergeA acc (p :: r) = mergeA (putA acc p.1 p.2) r := rfl
    have na : (acc.any fun kv => decide (kv.1 = p.1)) = false := by
      rw [List.any_eq_false]
      intro x hx hd
      rw [List.map_append, List.nodup_append] at h
      exact h.2.2 x.1 (List.mem_map.mpr ⟨x, hx, rfl⟩) p.1 (by simp) (of_decide_eq_true hd)
    have pa : putA acc p.1 p.2 = acc ++ [p] := by
      unfold putA
      rw [na]
      rfl
    rw [e, pa, merge_app r _ (by rwa [List.append_assoc])]
    rw [List.append_assoc]
    rfl
def Qk (x : Fq) (n : Nat) : Prop := ∃ k : Int, x = Fr.mk k 4 ∧ k.natAbs ≤ n
theorem Qk.ok {x : Fq} {n : Nat} (h : Qk x n) (hn : n ≤ 1000) : Fr.Ok 10 x := by
  obtain ⟨k, rfl, hk⟩ := h
  exact Fr.mk_ok (by decide) (Nat.lt_of_le_of_lt (Nat.le_trans hk hn) (by decide)) (by decide)
theorem Qk.mono {x : Fq} {n m : Nat} (h : Qk x n) (hn : n ≤ m) : Qk x m := by
  obtain ⟨k, e, hk⟩ := h
  exact ⟨k, e, by omega⟩
theorem mk_int (x : Int) : Fr.mk (x * 4) 4 = (x, 1) := by
  rw [Fr.mk_eq (c := x) (d := 1) (by decide) (by decide) (by omega)]
  exact Fr.mk_self (by decide) (by simp)
theorem Qk.int {x : Int} {n : Nat} (h : x.natAbs * 4 ≤ n) : Qk (x, 1) n := ⟨x * 4, (mk_int x).symm, by rw [Int.natAbs_mul]; exact h⟩
theorem Qk.add {x y : Fq} {n m : Nat} (hx : Qk x n) (hy : Qk y m) : Qk (Fr.add x y) (n + m) := by
  obtain ⟨k, rfl, hk⟩ := hx
  obtain ⟨l, rfl, hl⟩ := hy
  refine ⟨k + l, ?_, by omega⟩
  have i1 : Fr.Is (Fr.mk k 4) k 4 := ⟨rfl, by decide⟩
  have i2 : Fr.Is (Fr.mk l 4) l 4 := ⟨rfl, by decide⟩
  exact (i1.add i2).same ⟨rfl, by decide⟩ (by omega)
theorem getD_l {es : List Ev} {e : Ev} {j : Nat} (h : j < es.length) : (es ++ [e]).getD j dEv = es.getD j dEv := by
  simp [List.getD, List.getElem?_append_left h]
theorem getD_r {es : List Ev} {e : Ev} : (es ++ [e]).getD es.length dEv = e := by
  simp [List.getD]
end K37
namespace K37
open PySem PySem.Spec PyProof.Rows L2 G Th AL
end K37
namespace Fr
def q (p : Int × Int) : Rat := (p.1 : Rat) / (p.2 : Rat)
variable {p r : Int × Int} {a b : Int}
theorem c0 (h : b ≠ 0) : (b : Rat) ≠ 0 := fun z => h (Rat.intCast_eq_zero_iff.mp z)
theorem div_eq {a b c d : Int} (hb : b ≠ 0) (hd : d ≠ 0) (e : a * d = c * b) : (a : Rat) / (b : Rat) = (c : Rat) / (d : Rat) := by
  have h1 := c0 hb
  have h2 := c0 hd
  have h3 : (a : Rat) * (d : Rat) = (c : Rat) * (b : Rat) := by
    rw [← Rat.intCast_mul, ← Rat.intCast_mul, e]
  grind
theorem q_mk (h : b ≠ 0) : q (mk a b) = (a : Rat) / (b : Rat) := div_eq (by have := mk_pos (a := a) h; omega) h (mk_cross h)
theorem q_lt (hp : 0 < p.2) (hr : 0 < r.2) : p.1 * r.2 < r.1 * p.2 ↔ q p < q r := by
  have h1 : (0 : Rat) < (p.2 : Rat) := Rat.intCast_pos.mpr hp
  have h2 : (0 : Rat) < (r.2 : Rat) := Rat.intCast_pos.mpr hr
  unfold q
  rw [Rat.div_lt_iff h1, ← Rat.mul_lt_mul_right h2 (a := (p.1 : Rat)), ← Rat.intCast_mul]
  have : (r.1 : Rat) / (r.2 : Rat) * (p.2 : Rat) * (r.2 : Rat) = ((r.1 * p.2 : Int) : Rat) := by
    rw [Rat.intCast_mul]
    grind
  rw [this, Rat.intCast_lt_intCast]
theorem q_le (hp : 0 < p.2) (hr : 0 < r.2) : ¬ r.1 * p.2 < p.1 * r.2 ↔ q p ≤ q r := by
  rw [q_lt hr hp, Rat.not_lt]
theorem q_int (a : Int) : q (a, 1) = (a : Rat) := by
  unfold q
  show (a : Rat) / ((1 : Int) : Rat) = _
  rw [Rat.intCast_one]
  grind
end Fr
namespace KL
open PySem PySem.Spec PyProof.Rows L2 G Th AL K37 Fr
theorem _root_.K37.Tp.kx {S T : Sto} {B : Int} {n : Nat} (h : Tp S B) (k : Kx n S T) (hn : 2 ≤ n) : Tp T B := by
  obtain ⟨ns, i, q, n, h0, h1, r⟩ := h.ex
  exact ⟨ns, i, q, n, k _ _ (by omega) h0, k _ _ (by omega) h1, r⟩
def Can (fl : Fl) (es : List Ev) (hrs : List Int) (t : Int) (k : Nat) : Prop := k < es.length ∧ ∃ l lk, (es.getD k dEv).deed = .send l ∧ fl.ls[l]? = some lk ∧ q lk.least ≤ ((t - hrs.getD k 0 : Int) : Rat) ∧ ∀ m, lk.most = some m → ((t - hrs.getD k 0 : Int) : Rat) ≤ q m
end KL
namespace KL
open PySem PySem.Spec PyProof.Rows L2 G Th AL K37 Fr

structure Tru (fl : Fl) (es : List Ev) (bg : Int) (hrs : List Int) : Prop where
  len : hrs.length = es.length
  src : ∀ j, j < es.length → (es.getD j dEv).name = fl.src → q (es.getD j dEv).stamp = ((bg + hrs.getD j 0 : Int) : Rat)
  go : ∀ j i h, j < es.length → lastAt es j (es.getD j dEv).name = some i → driftOf fl (es.getD j dEv).name = some h →
    q h.slow * ((hrs.getD j 0 - hrs.getD i 0 : Int) : Rat) ≤ q (es.getD j dEv).stamp - q (es.getD i dEv).stamp ∧ q (es.getD j dEv).stamp - q (es.getD i dEv).stamp ≤ q h.fast * ((hrs.getD j 0 - hrs.getD i 0 : Int) : Rat) ∧ hrs.getD i 0 ≤ hrs.getD j 0
  hear : ∀ j k, j < es.length → (es.getD j dEv).deed = .hear k → Can fl (es.take j) hrs (hrs.getD j 0) k

theorem lastAt_app {es : List Ev} {e : Ev} {n : Str} : ∀ j, j ≤ es.length → lastAt (es ++ [e]) j n = lastAt es j n
  | 0, _ => rfl
  | j + 1, h => by
    rw [lastAt, lastAt, getD_l (by omega), lastAt_app j (by omega)]
theorem hget_l {hrs : List Int} {x : Int} {j : Nat} (h : j < hrs.length) : (hrs ++ [x]).getD j 0 = hrs.getD j 0 := by
  simp [List.getD, List.getElem?_append_left h]
theorem hget_r {hrs : List Int} {x : Int} : (hrs ++ [x]).getD hrs.length 0 = x := by
  simp [List.getD]
theorem Can.app {fl : Fl} {es es' : List Ev} {hrs hrs' : List Int} {t : Int} {k : Nat} (h : Can fl es hrs t k) (h1 : ∀ k, k < es.length → es'.getD k dEv = es.getD k dEv ∧ hrs'.getD k 0 = hrs.getD k 0) (h2 : es.length ≤ es'.length) : Can fl es' hrs' t k := by
  obtain ⟨hk, l, lk, a, b, c, d⟩ := h
  obtain ⟨e1, e2⟩ := h1 k hk
  exact ⟨by omega, l, lk, by rw [e1]; exact a, b, by rw [e2]; exact c, by rw [e2]; exact d⟩
theorem Tru.snoc {fl : Fl} {es : List Ev} {bg : Int} {hrs : List Int} {e : Ev} {x : Int} (T : Tru fl es bg hrs) (h1 : e.name = fl.src → q e.stamp = ((bg + x : Int) : Rat))
    (h2 : ∀ i h, lastAt es es.length e.name = some i → driftOf fl e.name = some h → q h.slow * ((x - hrs.getD i 0 : Int) : Rat) ≤ q e.stamp - q (es.getD i dEv).stamp ∧ q e.stamp - q (es.getD i dEv).stamp ≤ q h.fast * ((x - hrs.getD i 0 : Int) : Rat) ∧ hrs.getD i 0 ≤ x)
    (h3 : ∀ k, e.deed = .hear k → Can fl es hrs x k) : Tru fl (es ++ [e]) bg (hrs ++ [x]) := by
  have hl := T.len
  refine ⟨by simp [hl], fun j hj hn => ?_, fun j i h hj hi hd => ?_, fun j k hj hd => ?_⟩
  · by_cases z : j < es.length
    · rw [getD_l z] at hn ⊢
      rw [hget_l (by omega)]
      exact T.src j z hn
    · have : j = es.length := by simp at hj; omega
      subst this
      rw [getD_r] at hn ⊢
      rw [← hl, hget_r]
      exact h1 hn
  · by_cases z : j < es.length
    · rw [getD_l z] at hi hd ⊢
      rw [lastAt_app _ (by omega)] at hi
      have := lastAt_lt hi
      rw [hget_l (by omega), hget_l (by omega), getD_l (by omega)]
      exact T.go j i h z hi hd
    · have : j = es.length := by simp at hj; omega
      subst this
      rw [getD_r] at hi hd ⊢
      rw [lastAt_app _ (Nat.le_refl _)] at hi
      have := lastAt_lt hi
      rw [getD_l (by omega), hget_l (j := i) (by omega), ← hl, hget_r]
      exact h2 i h hi hd
  · by_cases z : j < es.length
    · rw [getD_l z] at hd
      rw [hget_l (by omega), List.take_append_of_le_length (by omega)]
      refine (T.hear j k z hd).app (fun k hk => ⟨rfl, hget_l ?_⟩) (Nat.le_refl _)
      rw [List.length_take] at hk
      omega
    · have : j = es.length := by simp at hj; omega
      subst this
      rw [getD_r] at hd
      rw [← hl, hget_r, hl, List.take_append_of_le_length (Nat.le_refl _), List.take_length]
      exact (h3 k hd).app (fun k hk => ⟨rfl, hget_l (by omega)⟩) (Nat.le_refl _)
theorem slow_le {x : Fq} (h : x ∈ slows) : q x ≤ 1 ∧ 0 < q x := by
  simp only [slows, List.mem_cons, List.not_mem_nil, or_false] at h
  rcases h with rfl | rfl | rfl <;> exact ⟨by decide +kernel, by decide +kernel⟩
end KL
namespace K37
open PySem PySem.Spec PyProof.Rows L2 G Th AL
end K37
namespace K37
open PySem PySem.Spec PyProof.Rows L2 G Th AL
end K37
namespace K37
open PySem PySem.Spec PyProof.Rows L2 G Th AL
end K37
namespace K37
open PySem PySem.Spec PyProof.Rows L2 G Th AL

def Sh (n w : Nat) (v : Val) : Prop := ∃ d : PyData, okD d = true ∧ d.weight ≤ w ∧ d.depth ≤ n ∧ ∀ (S : Sto) (k : Nat), n < k → toD S k v = some d
def ShL (n w : Nat) (vs : List Val) : Prop := ∃ ds : List PyData, okAll ds = true ∧ PyData.weightAll ds ≤ w ∧ PyData.depthAll ds ≤ n ∧ ∀ (S : Sto) (k : Nat), n < k → mapO (toD S k) vs = some ds
theorem Sh.mono {n w n' w' : Nat} {v : Val} (h : Sh n w v) (hn : n ≤ n') (hw : w ≤ w') : Sh n' w' v := by
  obtain ⟨d, h1, h2, h3, h4⟩ := h
  exact ⟨d, h1, by omega, by omega, fun S k hk => h4 S k (by omega)⟩
theorem ShL.nil {n w : Nat} : ShL n w [] := ⟨[], rfl, by simp [PyData.weightAll], by simp [PyData.depthAll], fun S k hk => rfl⟩
theorem ShL.cons {n w w' : Nat} {v : Val} {vs : List Val} (h : Sh n w v) (hs : ShL n w' vs) : ShL n (w + 1 + w') (v :: vs) := by
  obtain ⟨d, h1, h2, h3, h4⟩ := h
  obtain ⟨ds, g1, g2, g3, g4⟩ := hs
  refine ⟨d :: ds, ?_, ?_, ?_, fun S k hk => ?_⟩
  · show (okD d && okAll ds) = true
    rw [h1, g1]
    rfl
  · show d.weight + 1 + PyData.weightAll ds ≤ _
    omega
  · simp only [PyData.depthAll]
    omega
  · unfold mapO
    rw [h4 S k hk, g4 S k hk]
    rfl
theorem ShL.snoc {n w' : Nat} {v : Val} : ∀ {vs : List Val} {w : Nat}, ShL n w vs → Sh n w' v → ShL n (w + (w' + 1)) (vs ++ [v]) := by
  intro vs w hs h
  obtain ⟨d, h1, h2, h3, h4⟩ := h
  obtain ⟨ds, g1, g2, g3, g4⟩ := hs
  refine ⟨ds ++ [d], ?_, ?_, ?_, fun S k hk => ?_⟩
  · rw [okAll_iff] at g1 ⊢
    intro x hx
    rcases List.mem_append.mp hx with hx | hx
    · exact g1 x hx
    · simp only [List.mem_singleton] at hx
      rw [hx]
      exact h1
  · have : ∀ xs : List PyData, PyData.weightAll (xs ++ [d]) = PyData.weightAll xs + (d.weight + 1) := by
      intro xs
      induction xs with
      | nil => simp [PyData.weightAll]
      | cons x xs ih =>
        simp only [List.cons_append, PyData.weightAll, ih]
        omega
    rw [this]
    omega
  · have : ∀ xs : List PyData, PyData.depthAll xs ≤ n → PyData.depthAll (xs ++ [d]) ≤ n := by
      intro xs
      induction xs with
      | nil =>
        intro _
        simp only [List.nil_append, PyData.depthAll]
        omega
      | cons x xs ih =>
        intro hx
        simp only [List.cons_append, PyData.depthAll] at hx ⊢
        have := ih (by omega)
        omega
    exact this ds g3
  · have : ∀ (us : List Val) (es : List PyData), mapO (toD S k) us = some es → mapO (toD S k) (us ++ [v]) = some (es ++ [d]) := by
      intro us
      induction us with
      | nil =>
        intro es he
        cases he
        simp only [List.nil_append, mapO, h4 S k hk, Option.bind_some]
      | cons u us ih =>
        intro es he
        simp only [mapO] at he
        obtain ⟨b, e1, e2⟩ := Option.bind_eq_some_iff.mp he
        obtain ⟨bs, e3, e4⟩ := Option.bind_eq_some_iff.mp e2
        cases e4
        simp only [List.cons_append, mapO, e1, ih bs e3, Option.bind_some]
    exact this vs ds (g4 S k hk)
theorem ShL.mono {n w n' w' : Nat} {vs : List Val} (h : ShL n w vs) (hn : n ≤ n') (hw : w ≤ w') : ShL n' w' vs := by
  obtain ⟨d, h1, h2, h3, h4⟩ := h
  exact ⟨d, h1, by omega, by omega, fun S k hk => h4 S k (by omega)⟩
theorem ShL.map {α : Type} {n w : Nat} {f : α → Val} : ∀ xs : List α, (∀ x ∈ xs, Sh n w (f x)) → ShL n ((w + 1) * xs.length) (xs.map f)
  | [], _ => ShL.nil
  | x :: xs, h => by
    have := ShL.cons (h x (by simp)) (ShL.map xs fun y hy => h y (by simp [hy]))
    refine this.mono (Nat.le_refl _) ?_
    rw [List.length_cons, Nat.mul_succ]
    omega
theorem ShL.tup {n w : Nat} {vs : List Val} (h : ShL n w vs) : Sh (n + 1) w (.tup vs) := by
  obtain ⟨ds, g1, g2, g3, g4⟩ := h
  refine ⟨.tuple ds, g1, ?_, ?_, fun S k hk => ?_⟩
  · show PyData.weightAll ds ≤ w
    exact g2
  · simp only [PyData.depth]
    omega
  · obtain ⟨k, rfl⟩ : ∃ j, k = j + 1 := ⟨k - 1, by omega⟩
    show (mapO (toD S k) vs).map PyData.tuple = _
    rw [g4 S k (by omega)]
    rfl
theorem Sh.int {i : Int} {b : Nat} (h : i.natAbs < 2 ^ b) (hb : b ≤ 900) : Sh 0 b (.int i) := by
  have h9 : i.natAbs < 2 ^ 900 := Nat.lt_of_lt_of_le h (Nat.pow_le_pow_right (by decide) hb)
  refine ⟨.int i, decide_eq_true h9, ?_, by simp [PyData.depth], fun S k hk => ?_⟩
  · unfold PyData.weight
    split
    · omega
    · next e =>
      have h0 : i.natAbs ≠ 0 := by
        intro z
        apply e
        rw [Int.natAbs_eq_zero.mp z]
        rfl
      have := (Nat.log2_lt h0).mpr h
      omega
  · obtain ⟨k, rfl⟩ : ∃ j, k = j + 1 := ⟨k - 1, by omega⟩
    rfl
theorem Sh.non {n w : Nat} : Sh n w .non := by
  refine ⟨.none, rfl, by simp [PyData.weight], by simp [PyData.depth], fun S k hk => ?_⟩
  obtain ⟨k, rfl⟩ : ∃ j, k = j + 1 := ⟨k - 1, by omega⟩
  rfl
theorem Sh.str {x : Str} (h : TxOk x) : Sh 0 8 (.str x) := by
  refine ⟨.str x, h.1, by simp only [PyData.weight]; exact h.2, by simp [PyData.depth], fun S k hk => ?_⟩
  obtain ⟨k, rfl⟩ : ∃ j, k = j + 1 := ⟨k - 1, by omega⟩
  rfl
theorem Sh.fr {x : Fq} {n : Nat} (h : Fr.Ok n x) (hn : n ≤ 900) : Sh 1 (2 * n + 2) (frV x) := by
  have := (ShL.cons (Sh.int h.b1 hn) (ShL.cons (Sh.int h.b2 hn) (ShL.nil (w := 0)))).tup
  exact this.mono (by omega) (by omega)
theorem Sh.o {x : Option Fq} {n : Nat} (h : ∀ q, x = some q → Fr.Ok n q) (hn : n ≤ 900) : Sh 1 (2 * n + 2) (oV x) := by
  cases x with
  | none => exact Sh.non
  | some q => exact Sh.fr (h q rfl) hn
theorem Sh.pr {p : Pr} {n : Nat} (h : POk n p) (hn : n ≤ 900) : Sh 2 (4 * n + 6) (prV p) := by
  have a : Sh 1 (2 * n + 2) (oV p.1) := Sh.o (fun q hq => h false q hq) hn
  have b : Sh 1 (2 * n + 2) (oV p.2) := Sh.o (fun q hq => h true q hq) hn
  have := (ShL.cons a (ShL.cons b (ShL.nil (w := 0)))).tup
  exact this.mono (by omega) (by omega)
theorem Sh.hs {h : Hs} (t : TxOk h.name) (a : h.slow ∈ slows) (b : h.fast ∈ fasts) : Sh 2 40 (hsV h) := by
  have := (ShL.cons (Sh.str t |>.mono (n' := 1) (by omega) (Nat.le_refl _)) (ShL.cons (Sh.fr (slow_ok a).1 (by decide)) (ShL.cons (Sh.fr (fast_ok b).1 (by decide)) (ShL.nil (w := 0))))).tup
  exact this.mono (by omega) (by omega)
theorem Sh.lk {l : Lk} (t : TxOk l.fr) (t2 : TxOk l.to) (a : Fr.Ok 4 l.least) (b : ∀ m, l.most = some m → Fr.Ok 10 m) : Sh 2 100 (lkV l) := by
  have := (ShL.cons (Sh.str t |>.mono (n' := 1) (by omega) (Nat.le_refl _)) (ShL.cons (Sh.str t2 |>.mono (n' := 1) (by omega) (Nat.le_refl _)) (ShL.cons (Sh.fr a (by decide)) (ShL.cons (Sh.o b (by decide)) (ShL.nil (w := 0)))))).tup
  exact this.mono (by omega) (by omega)
theorem Sh.fl {fl : Fl} (fo : FlOk fl) : Sh 4 2000 (flV fl) := by
  have h1 := (ShL.map (f := hsV) fl.hs fun h hh => Sh.hs (fo.tx.1 h hh) (fo.rate h hh).1 (fo.rate h hh).2).tup
  have h2 := (ShL.map (f := lkV) fl.ls fun l hl => Sh.lk (fo.tx.2.1 l hl).1 (fo.tx.2.1 l hl).2 (fo.lk l hl).1 (fo.lk l hl).2).tup
  have h3 := Sh.str fo.tx.2.2
  have a := fo.few
  have b := fo.lfew
  have := (ShL.cons h1 (ShL.cons h2 (ShL.cons (h3.mono (n' := 3) (by omega) (Nat.le_refl _)) (ShL.nil (w := 0))))).tup
  exact this.mono (by omega) (by omega)
theorem Sh.dd {d : Dd} (h : ∀ l, d = .send l → l < 8) (h2 : ∀ k, d = .hear k → k < 30) : Sh 1 20 (ddV d) := by
  have k1 : TxOk (Str.ofString "mark") := ⟨by decide +kernel, by decide +kernel⟩
  have k2 : TxOk (Str.ofString "send") := ⟨by decide +kernel, by decide +kernel⟩
  have k3 : TxOk (Str.ofString "hear") := ⟨by decide +kernel, by decide +kernel⟩
  cases d with
  | mark => exact (ShL.cons (Sh.str k1) (ShL.nil (w := 0))).tup.mono (by omega) (by omega)
  | send l =>
    have := h l rfl
    have i : Sh 0 5 (.int ((l : Nat) : Int)) := Sh.int (by have : (2 : Nat) ^ 5 = 32 := rfl; omega) (by decide)
    exact (ShL.cons (Sh.str k2) (ShL.cons i (ShL.nil (w := 0)))).tup.mono (by omega) (by omega)
  | hear k =>
    have := h2 k rfl
    have i : Sh 0 5 (.int ((k : Nat) : Int)) := Sh.int (by have : (2 : Nat) ^ 5 = 32 := rfl; omega) (by decide)
    exact (ShL.cons (Sh.str k3) (ShL.cons i (ShL.nil (w := 0)))).tup.mono (by omega) (by omega)
theorem Sh.hi {fl : Fl} {es : List Ev} (fo : FlOk fl) (hv : HV fl es) : Sh 5 5000 (hiV fl es) := by
  have l30 := hv.len
  have ev : ∀ e ∈ es, Sh 2 60 (evV e) := by
    intro e he
    obtain ⟨i, hi, rfl⟩ := List.getElem_of_mem he
    have g : es.getD i dEv = es[i] := by simp [List.getD, List.getElem?_eq_getElem hi]
    have ok := hv.ev i hi
    have nm := ok.name
    rw [g] at nm
    obtain ⟨h, hh, e1⟩ := List.mem_map.mp nm
    have tx : TxOk es[i].name := by rw [← e1]; exact fo.tx.1 h hh
    have st := ok.st.ok
    rw [g] at st
    have d := Sh.dd (d := es[i].deed) (fun l hl => by have := ok.send l (by rw [g]; exact hl); have := fo.lfew; omega) (fun k hk => by have := (ok.hear k (by rw [g]; exact hk)).1; omega)
    have := (ShL.cons ((Sh.str tx).mono (n' := 1) (by omega) (Nat.le_refl _)) (ShL.cons (Sh.fr st (by decide)) (ShL.cons d (ShL.nil (w := 0))))).tup
    exact this.mono (by omega) (by omega)
  have h2 := (ShL.map (f := evV) es ev).tup
  have := (ShL.cons (Sh.fl fo) (ShL.cons (h2.mono (n' := 4) (w' := 1900) (by omega) (by omega)) (ShL.nil (w := 0)))).tup
  exact this.mono (by omega) (by omega)

theorem Sh.repr {n w : Nat} {v : Val} (h : Sh n w v) (hn : n < 40) (hw : w ≤ 40000) : ∃ x : Str, ∀ S, gRepr [v] S = some (.str x, S) := by
  obtain ⟨d, h1, h2, h3, h4⟩ := h
  refine ⟨d.shown, fun S => ?_⟩
  unfold gRepr
  simp only [h4 S 40 hn]
  rw [if_pos ⟨h1, by omega, by omega⟩]
end K37
namespace KL
open PySem PySem.Spec PyProof.Rows L2 G Th AL K37 Fr
theorem gr_fold : ∀ (qs : List Fq) (a : Fq), 0 < a.2 → (∀ x ∈ qs, 0 < x.2) → ∃ g ∈ a :: qs, qs.foldl greatestO (some a) = some g ∧ ∀ x ∈ a :: qs, q x ≤ q g
  | [], a, _, _ => ⟨a, by simp, rfl, fun x hx => by simp at hx; subst hx; exact Rat.le_refl⟩
  | b :: qs, a, ha, h => by
    have hb := h b (by simp)
    rw [List.foldl_cons]
    have e : greatestO (some a) b = some (if a.1 * b.2 < b.1 * a.2 then b else a) := by
      unfold greatestO
      dsimp only
      split <;> rfl
    rw [e]
    have hc : 0 < (if a.1 * b.2 < b.1 * a.2 then b else a).2 ∧ q a ≤ q (if a.1 * b.2 < b.1 * a.2 then b else a) ∧ q b ≤ q (if a.1 * b.2 < b.1 * a.2 then b else a) ∧ (if a.1 * b.2 < b.1 * a.2 then b else a) ∈ [a, b] := by
      by_cases c : a.1 * b.2 < b.1 * a.2
      · rw [if_pos c]
        exact ⟨hb, Rat.le_of_lt ((q_lt ha hb).mp c), Rat.le_refl, by simp⟩
      · rw [if_neg c]
        exact ⟨ha, Rat.le_refl, (q_le hb ha).mp c, by simp⟩
    generalize (if a.1 * b.2 < b.1 * a.2 then b else a) = c at hc ⊢
    obtain ⟨c0, c1, c2, c3⟩ := hc
    obtain ⟨g, hg, e2, h2⟩ := gr_fold qs c c0 fun x hx => h x (by simp [hx])
    refine ⟨g, ?_, e2, fun x hx => ?_⟩
    · rcases List.mem_cons.mp hg with rfl | hg
      · simp only [List.mem_cons, List.not_mem_nil, or_false] at c3
        rcases c3 with rfl | rfl <;> simp
      · simp [hg]
    · have hgc := h2 c (by simp)
      rcases List.mem_cons.mp hx with rfl | hx
      · exact Rat.le_trans c1 hgc
      · rcases List.mem_cons.mp hx with rfl | hx
        · exact Rat.le_trans c2 hgc
        · exact h2 x (by simp [hx])
theorem le_fold : ∀ (qs : List Fq) (a : Fq), 0 < a.2 → (∀ x ∈ qs, 0 < x.2) → ∃ g ∈ a :: qs, qs.foldl leastO (some a) = some g ∧ ∀ x ∈ a :: qs, q g ≤ q x
  | [], a, _, _ => ⟨a, by simp, rfl, fun x hx => by simp at hx; subst hx; exact Rat.le_refl⟩
  | b :: qs, a, ha, h => by
    have hb := h b (by simp)
    rw [List.foldl_cons]
    have e : leastO (some a) b = some (if b.1 * a.2 < a.1 * b.2 then b else a) := by
      unfold leastO
      dsimp only
      split <;> rfl
    rw [e]
    have hc : 0 < (if b.1 * a.2 < a.1 * b.2 then b else a).2 ∧ q (if b.1 * a.2 < a.1 * b.2 then b else a) ≤ q a ∧ q (if b.1 * a.2 < a.1 * b.2 then b else a) ≤ q b ∧ (if b.1 * a.2 < a.1 * b.2 then b else a) ∈ [a, b] := by
      by_cases c : b.1 * a.2 < a.1 * b.2
      · rw [if_pos c]
        exact ⟨hb, Rat.le_of_lt ((q_lt hb ha).mp c), Rat.le_refl, by simp⟩
      · rw [if_neg c]
        exact ⟨ha, Rat.le_refl, (q_le ha hb).mp c, by simp⟩
    generalize (if b.1 * a.2 < a.1 * b.2 then b else a) = c at hc ⊢
    obtain ⟨c0, c1, c2, c3⟩ := hc
    obtain ⟨g, hg, e2, h2⟩ := le_fold qs c c0 fun x hx => h x (by simp [hx])
    refine ⟨g, ?_, e2, fun x hx => ?_⟩
    · rcases List.mem_cons.mp hg with rfl | hg
      · simp only [List.mem_cons, List.not_mem_nil, or_false] at c3
        rcases c3 with rfl | rfl <;> simp
      · simp [hg]
    · have hgc := h2 c (by simp)
      rcases List.mem_cons.mp hx with rfl | hx
      · exact Rat.le_trans hgc c1
      · rcases List.mem_cons.mp hx with rfl | hx
        · exact Rat.le_trans hgc c2
        · exact h2 x (by simp [hx])
theorem gr_spec {qs : List Fq} (h : ∀ x ∈ qs, 0 < x.2) : (qs = [] ∧ greatest qs = none) ∨ ∃ g ∈ qs, greatest qs = some g ∧ ∀ x ∈ qs, q x ≤ q g := by
  cases qs with
  | nil => exact .inl ⟨rfl, rfl⟩
  | cons a qs =>
    obtain ⟨g, h1, h2, h3⟩ := gr_fold qs a (h a (by simp)) fun x hx => h x (by simp [hx])
    exact .inr ⟨g, h1, h2, h3⟩
theorem le_spec {qs : List Fq} (h : ∀ x ∈ qs, 0 < x.2) : (qs = [] ∧ least qs = none) ∨ ∃ g ∈ qs, least qs = some g ∧ ∀ x ∈ qs, q g ≤ q x := by
  cases qs with
  | nil => exact .inl ⟨rfl, rfl⟩
  | cons a qs =>
    obtain ⟨g, h1, h2, h3⟩ := le_fold qs a (h a (by simp)) fun x hx => h x (by simp [hx])
    exact .inr ⟨g, h1, h2, h3⟩

theorem getD_snoc_l {ps : List Pr} {p : Pr} {j : Nat} (h : j < ps.length) : (ps ++ [p]).getD j (none, none) = ps.getD j (none, none) := by
  simp [List.getD, List.getElem?_append_left h]
theorem getD_snoc_r {ps : List Pr} {p : Pr} : (ps ++ [p]).getD ps.length (none, none) = p := by
  simp [List.getD]
section
variable {fl : Fl} {es : List Ev} {bg : Int} {hrs : List Int}
theorem div_le {a b d : Rat} (hb : 0 < b) (h : a ≤ b * d) : a / b ≤ d := by
  apply Rat.not_lt.mp
  intro z
  rw [Rat.lt_div_iff' hb] at z
  exact absurd h (Rat.not_le.mpr z)
theorem le_div {a b d : Rat} (hb : 0 < b) (h : b * d ≤ a) : d ≤ a / b := by
  apply Rat.not_lt.mp
  intro z
  rw [Rat.div_lt_iff' hb] at z
  exact absurd h (Rat.not_le.mpr z)
theorem ends_pos (fo : FlOk fl) (hv : HV fl es) {i : Nat} (hi : i < es.length) {b : Bool} {x : Fq} (hx : x ∈ (row fl es i).filterMap (endOf (pairsUp fl es i) b)) : 0 < x.2 := ((hi_ok fo hv).bd i hi b x hx).pos
theorem endOf_some {ps : List Pr} {b : Bool} {m : Mv} {x : Fq} (h : endOf ps b m = some x) : ∃ a c, sel b (ps.getD m.x (none, none)) = some a ∧ sel b (some m.lo, m.hi) = some c ∧ x = Fr.add a c := by
  unfold endOf addO at h
  split at h
  · next a c h1 h2 => cases h; exact ⟨a, c, h1, h2, rfl⟩
  · cases h
end

theorem lastAt_congr {es es' : List Ev} {n : Str} : ∀ i, (∀ j, j < i → (es'.getD j dEv).name = (es.getD j dEv).name) → lastAt es' i n = lastAt es i n
  | 0, _ => rfl
  | i + 1, h => by
    rw [lastAt, lastAt, h i (by omega), lastAt_congr i fun j hj => h j (by omega)]

structure Mk (es es' : List Ev) (a : Nat) : Prop where
  len : es'.length = es.length
  hear : ∃ k, (es.getD a dEv).deed = .hear k
  at_ : es'.getD a dEv = ⟨(es.getD a dEv).name, (es.getD a dEv).stamp, .mark⟩
  off : ∀ j, j ≠ a → es'.getD j dEv = es.getD j dEv
section
variable {fl : Fl} {es es' : List Ev} {a : Nat}
theorem Mk.name (M : Mk es es' a) (j : Nat) : (es'.getD j dEv).name = (es.getD j dEv).name ∧ (es'.getD j dEv).stamp = (es.getD j dEv).stamp := by
  by_cases z : j = a
  · subst z
    rw [M.at_]
    exact ⟨rfl, rfl⟩
  · rw [M.off j z]
    exact ⟨rfl, rfl⟩
theorem Mk.send (M : Mk es es' a) {k l : Nat} (h : (es.getD k dEv).deed = .send l) : (es'.getD k dEv).deed = .send l := by
  rw [M.off k fun z => ?_]
  · exact h
  · obtain ⟨k', hk'⟩ := M.hear
    rw [z, hk'] at h
    cases h
theorem Mk.hv (M : Mk es es' a) (hv : HV fl es) : HV fl es' := by
  refine ⟨by rw [M.len]; exact hv.len, fun i hi => ?_⟩
  have e := hv.ev i (by rw [← M.len]; exact hi)
  obtain ⟨n1, n2⟩ := M.name i
  refine ⟨by rw [n1]; exact e.name, by rw [n2]; exact e.st, fun l hl => ?_, fun k hk => ?_⟩
  · by_cases z : i = a
    · rw [z, M.at_] at hl
      cases hl
    · rw [M.off i z] at hl
      exact e.send l hl
  · by_cases z : i = a
    · rw [z, M.at_] at hk
      cases hk
    · rw [M.off i z] at hk
      obtain ⟨h1, l, h2⟩ := e.hear k hk
      exact ⟨h1, l, M.send h2⟩
theorem Mk.row (M : Mk es es' a) (hv : HV fl es) {i : Nat} (hi : i < es.length) {m : Mv} (hm : m ∈ K37.row fl es' i) : m ∈ K37.row fl es i := by
  obtain ⟨n1, n2⟩ := M.name i
  unfold K37.row movesInto at hm ⊢
  rw [n1] at hm
  have e0 : lastAt es' i (es.getD i dEv).name = lastAt es i (es.getD i dEv).name := lastAt_congr i fun j hj => (M.name j).1
  rw [e0] at hm
  rcases List.mem_append.mp hm with hm | hm
  · refine List.mem_append_left _ ?_
    unfold mv1 at hm ⊢
    rw [n1] at hm
    cases hl : lastAt es i (es.getD i dEv).name with
    | none => rw [hl] at hm; simp at hm
    | some j =>
      rw [hl] at hm
      cases hd : driftOf fl (es.getD i dEv).name with
      | none => rw [hd] at hm; simp at hm
      | some d =>
        rw [hd] at hm
        simp only [n2, (M.name j).2] at hm
        exact hm
  · refine List.mem_append_right _ ?_
    by_cases z : i = a
    · rw [z, M.at_] at hm
      simp [mv2] at hm
    · rw [M.off i z] at hm
      cases hd : (es.getD i dEv).deed with
      | mark => rw [hd] at hm; simp [mv2] at hm
      | send l => rw [hd] at hm; simp [mv2] at hm
      | hear k =>
        rw [hd] at hm
        obtain ⟨h1, l, h2⟩ := (hv.ev i hi).hear k hd
        have h3 := M.send h2
        simp only [mv2, linkAt, h3] at hm
        simp only [mv2, linkAt, h2]
        exact hm
end
end KL
namespace KL
open PySem PySem.Spec PyProof.Rows L2 G Th AL K37 Fr
section
variable {S : Sto} {Q : Val → Sto → Prop} {x y : Val} {vs ws : List Val}
theorem vNeNil {a b : Nat} {ns : List Int} (hx : x = .ref a) (hy : y = .ref b) (h0 : S[a]? = some (.lst (ns.map .int))) (h1 : S[b]? = some (.lst [])) (q : Q (.bl (!ns.isEmpty)) S) : Wp (gNe x y S) Q := by
  subst hx hy
  exact ⟨_, _, ne_nil h0 h1, q⟩
end
theorem kept_wp {fl : Fl} {es : List Ev} {S : Sto} (ok : HiOk fl es) : Wp (kept_pairs_ [hiV fl es] S) fun v T => v = .tup ((pairsUp fl es es.length).map prV) ∧ Kn S T := by
  obtain ⟨S', e, h⟩ := kept_eq ok
  exact ⟨_, _, e, rfl, h⟩
end KL
namespace K08
open PySem PySem.Spec PyProof.Rows L2 G Th AL K37 KL Fr
theorem wm {a b : Int} (h : a.natAbs < 2 ^ 64) (h2 : b.natAbs < 2 ^ 64) : CMulW a b := wide_mul h h2 (by decide) (by decide) (by decide)
theorem wd {a b : Int} (h0 : 0 < b) (h : b < 2 ^ 60) : CDivW a b := by
  have h60 := p60
  have n64 : (2 : Nat) ^ 64 = 18446744073709551616 := by decide
  exact wide_div (b := 64) h0 (by omega) (by decide) (by decide)
theorem ws_cut {r : Res} {N N' : Rho → Sto → Prop} {R : Val → Sto → Prop} (h : Ws r N' R) (i : ∀ ρ S, N' ρ S → N ρ S) : Ws r N R := by
  obtain ⟨h⟩ := h
  constructor
  cases r with
  | nx ρ S => exact i ρ S h
  | rt v S => exact h
  | stuck => exact h
  | bk _ _ => exact h
  | ct _ _ => exact h
end K08
namespace K08
open PySem PySem.Spec PyProof.Rows L2 G Th AL K37 KL Fr
end K08
namespace K08
open PySem PySem.Spec PyProof.Rows L2 G Th AL K37 KL Fr
def pool8 : List Str := ["a", "ab", "b", "h", "hh", "x", "zz", "zzzzzzzz"]
def gaits : List (Fq × Fq) := [((1, 1), (1, 1)), ((1, 2), (2, 1)), ((3, 4), (5, 4)), ((1, 1), (3, 2)), ((1, 2), (1, 1))]
def least8 : List Fq := [(0, 1), (1, 2), (1, 1), (3, 1)]
structure L8 (nm : List Str) (l : Lk) : Prop where
  fr : l.fr ∈ nm
  to : l.to ∈ nm
  ne : l.fr ≠ l.to
  least : l.least ∈ least8
  most : ∀ m, l.most = some m → m = l.least ∨ m = Fr.mk (l.least.1 + l.least.2) l.least.2 ∨ m = Fr.mk (l.least.1 + 9 * l.least.2) l.least.2
structure F8 (fl : Fl) : Prop where
  sub : (fl.hs.map Hs.name).Sublist pool8
  ne : 0 < fl.hs.length
  few : fl.hs.length ≤ 6
  gait : ∀ h ∈ fl.hs, (h.slow, h.fast) ∈ gaits
  one : ∀ h ∈ fl.hs, h.name = fl.src → h.slow = (1, 1) ∧ h.fast = (1, 1)
  src : fl.src ∈ fl.hs.map Hs.name
  lk : ∀ l ∈ fl.ls, L8 (fl.hs.map Hs.name) l
  lfew : fl.ls.length ≤ 8
end K08
namespace K08
open PySem PySem.Spec PyProof.Rows L2 G Th AL K37 KL Fr
def Fits (l : Lk) (s n : Fq) : Prop := q l.least ≤ q n - q s ∧ ∀ m, l.most = some m → q n - q s ≤ q m
def DdOk (fl : Fl) (es : List Ev) (ws : List Fq) (house : Str) (now : Fq) : Dd → Prop
  | .mark => True
  | .send l => ∃ lk, fl.ls[l]? = some lk ∧ lk.fr = house
  | .hear k => k < es.length ∧ ∃ l lk, (es.getD k dEv).deed = .send l ∧ fl.ls[l]? = some lk ∧ lk.to = house ∧ Fits lk (ws.getD k (0, 1)) now
end K08
namespace KL
open PySem PySem.Spec PyProof.Rows L2 G Th AL K37 Fr
def QN (N : Int) (M : Nat) (x : Fq) : Prop := ∃ k : Int, Is x k N ∧ k.natAbs ≤ M
section
variable {N : Int} {M M' : Nat} {x y : Fq}
theorem QN.mono (h : QN N M x) (hm : M ≤ M') : QN N M' x := by
  obtain ⟨k, h1, h2⟩ := h
  exact ⟨k, h1, by omega⟩
theorem QN.ok {n : Nat} (h : QN N M x) (hM : M < 2 ^ n) (hN : N.natAbs < 2 ^ n) : Fr.Ok n x := by
  obtain ⟨k, h1, h2⟩ := h
  rw [h1.1]
  exact mk_ok h1.2 (by omega) hN
theorem QN.add (h : QN N M x) (h' : QN N M' y) : QN N (M + M') (Fr.add x y) := by
  obtain ⟨k, h1, h2⟩ := h
  obtain ⟨k', h3, h4⟩ := h'
  have a := h1.add h3
  refine ⟨k + k', ⟨?_, h1.2⟩, by omega⟩
  rw [a.1]
  exact mk_eq a.2 h1.2 (by grind)
theorem QN.sub (h : QN N M x) (h' : QN N M' y) : QN N (M + M') (Fr.sub x y) := by
  obtain ⟨k, h1, h2⟩ := h
  obtain ⟨k', h3, h4⟩ := h'
  have a := h1.sub h3
  refine ⟨k - k', ⟨?_, h1.2⟩, by omega⟩
  rw [a.1]
  exact mk_eq a.2 h1.2 (by grind)
theorem QN.up {c : Int} (h : QN N M x) (hc : 0 < c) : QN (N * c) (M * c.natAbs) x := by
  obtain ⟨k, h1, h2⟩ := h
  refine ⟨k * c, ⟨?_, Int.mul_ne_zero h1.2 (by omega)⟩, ?_⟩
  · rw [h1.1]
    exact mk_eq h1.2 (Int.mul_ne_zero h1.2 (by omega)) (by grind)
  · rw [Int.natAbs_mul]
    exact Nat.mul_le_mul_right _ h2
theorem QN.rate (h : QN 4 M x) {r : Fq} (hr : r ∈ slows ∨ r ∈ fasts) : QN 120 (M * 60) (Fr.div x r) := by
  obtain ⟨k, h1, h2⟩ := h
  have go : ∀ (a b c : Int), Is r a b → a ≠ 0 → c.natAbs ≤ 60 → 120 * b = c * (4 * a) → QN 120 (M * 60) (Fr.div x r) := by
    intro a b c hi ha hc e
    have d := h1.div hi ha
    refine ⟨k * c, ⟨?_, by decide⟩, ?_⟩
    · rw [d.1]
      refine mk_eq d.2 (by decide) ?_
      grind
    · rw [Int.natAbs_mul]
      exact Nat.mul_le_mul h2 hc
  simp only [slows, fasts, List.mem_cons, List.not_mem_nil, or_false] at hr
  rcases hr with (rfl | rfl | rfl) | (rfl | rfl | rfl | rfl)
  · exact go 1 1 30 ⟨by decide +kernel, by decide⟩ (by decide) (by decide) (by decide)
  · exact go 1 2 60 ⟨by decide +kernel, by decide⟩ (by decide) (by decide) (by decide)
  · exact go 3 4 40 ⟨by decide +kernel, by decide⟩ (by decide) (by decide) (by decide)
  · exact go 1 1 30 ⟨by decide +kernel, by decide⟩ (by decide) (by decide) (by decide)
  · exact go 5 4 24 ⟨by decide +kernel, by decide⟩ (by decide) (by decide) (by decide)
  · exact go 3 2 20 ⟨by decide +kernel, by decide⟩ (by decide) (by decide) (by decide)
  · exact go 2 1 15 ⟨by decide +kernel, by decide⟩ (by decide) (by decide) (by decide)
theorem _root_.K37.StOk.qn (h : StOk x) : QN 4 1000 x := by
  obtain ⟨k, e, b⟩ := h
  exact ⟨k, ⟨e, by decide⟩, b⟩
end
section
variable {fl : Fl} {es : List Ev}
theorem least_qn {x : Fq} (h : x ∈ leasts) : QN 2 4 x := by
  simp only [leasts, List.mem_cons, List.not_mem_nil, or_false] at h
  rcases h with rfl | rfl | rfl | rfl
  · exact ⟨0, ⟨by decide +kernel, by decide⟩, by decide⟩
  · exact ⟨1, ⟨by decide +kernel, by decide⟩, by decide⟩
  · exact ⟨2, ⟨by decide +kernel, by decide⟩, by decide⟩
  · exact ⟨4, ⟨by decide +kernel, by decide⟩, by decide⟩
theorem more_qn {x : Fq} (h : some x ∈ mores) : QN 2 6 x := by
  simp only [mores, List.mem_cons, List.not_mem_nil, or_false, Option.some.injEq, reduceCtorEq, false_or] at h
  rcases h with rfl | rfl | rfl
  · exact ⟨0, ⟨by decide +kernel, by decide⟩, by decide⟩
  · exact ⟨2, ⟨by decide +kernel, by decide⟩, by decide⟩
  · exact ⟨6, ⟨by decide +kernel, by decide⟩, by decide⟩
theorem _root_.K37.LkS.qn {l : Lk} (h : LkS l) : QN 120 600 l.least ∧ ∀ m, l.most = some m → QN 120 600 m := by
  have a := least_qn h.1.1
  refine ⟨(a.up (c := 60) (by decide)).mono (by decide), fun m hm => ?_⟩
  obtain ⟨x, hx, rfl⟩ := h.2 m hm
  exact ((a.add (more_qn hx)).up (c := 60) (by decide)).mono (by decide)
theorem row_qn (fo : FlOk fl) (hv : HV fl es) {i : Nat} (hi : i < es.length) {m : Mv} (hm : m ∈ row fl es i) : QN 120 120000 m.lo ∧ ∀ x, m.hi = some x → QN 120 120000 x := by
  unfold row movesInto at hm
  rcases List.mem_append.mp hm with hm | hm
  · unfold mv1 at hm
    split at hm
    · next j h hj hh =>
      simp only [List.mem_cons, List.not_mem_nil, or_false] at hm
      subst hm
      have lt := lastAt_lt hj
      obtain ⟨r1, r2⟩ := fo.rate h (List.mem_of_find?_eq_some hh)
      have g := (hv.ev i hi).st.qn.sub (hv.ev j (by omega)).st.qn
      exact ⟨(g.rate (.inr r2)).mono (by decide), fun x hx => by cases hx; exact (g.rate (.inl r1)).mono (by decide)⟩
    · simp at hm
  · unfold mv2 at hm
    split at hm
    · next k hk =>
      split at hm
      · next l hl =>
        simp only [List.mem_cons, List.not_mem_nil, or_false] at hm
        subst hm
        have lm : l ∈ fl.ls := by
          unfold linkAt at hl
          split at hl
          · exact List.mem_of_getElem? hl
          · cases hl
        have := (fo.lks l lm).qn
        exact ⟨this.1.mono (by decide), fun x hx => (this.2 x hx).mono (by decide)⟩
      · simp at hm
    · simp at hm

theorem pairs_qn (fo : FlOk fl) (hv : HV fl es) : ∀ i, i ≤ es.length → ∀ j, j < i → ∀ b x, sel b ((pairsUp fl es i).getD j (none, none)) = some x → QN 120 (120000 * (j + 2)) x
  | 0, _, j, h => by omega
  | i + 1, hi, j, hj => by
    have ih := pairs_qn fo hv i (by omega)
    have pl := pairsUp_len fl es i
    rw [pairsUp]
    by_cases z : j < i
    · rw [getD_snoc_l (by omega)]
      exact ih j z
    · have : j = i := by omega
      subst this
      have key : ∀ (b : Bool) (x : Fq), x ∈ (row fl es j).filterMap (endOf (pairsUp fl es j) b) → QN 120 (120000 * (j + 2)) x := by
        intro b x hx
        obtain ⟨m, hm, he⟩ := List.mem_filterMap.mp hx
        obtain ⟨a, c, h1, h2, rfl⟩ := endOf_some he
        obtain ⟨lt, _, _⟩ := row_mem fo hv (show j < es.length by omega) hm
        obtain ⟨o1, o2⟩ := row_qn fo hv (show j < es.length by omega) hm
        have qa := ih m.x lt b a h1
        have qc : QN 120 120000 c := by
          cases b with
          | true => exact o2 c (by simpa [sel] using h2)
          | false => simp only [sel, Bool.false_eq_true, if_false, Option.some.injEq] at h2; subst h2; exact o1
        exact (qa.add qc).mono (by omega)
      have gd := getD_snoc_r (ps := pairsUp fl es j) (p := keptOf fl (es.getD j dEv) (row fl es j) (pairsUp fl es j))
      rw [pl] at gd
      rw [gd]
      intro b x hx
      unfold keptOf at hx
      by_cases sr : (es.getD j dEv).name = fl.src
      · rw [if_pos sr] at hx
        have e : x = (es.getD j dEv).stamp := by cases b <;> simpa [sel, eq_comm] using hx
        subst e
        exact ((hv.ev j (by omega)).st.qn.up (c := 30) (by decide)).mono (by show 1000 * 30 ≤ _; omega)
      · rw [if_neg sr] at hx
        cases b with
        | false =>
          rcases gr_spec (qs := (row fl es j).filterMap (endOf (pairsUp fl es j) false)) (fun x hx => ends_pos fo hv (by omega) hx) with ⟨_, e⟩ | ⟨g, hg, e, _⟩
          · simp [sel, e] at hx
          · simp only [sel, e, Bool.false_eq_true, if_false, Option.some.injEq] at hx
            subst hx
            exact key false _ hg
        | true =>
          rcases le_spec (qs := (row fl es j).filterMap (endOf (pairsUp fl es j) true)) (fun x hx => ends_pos fo hv (by omega) hx) with ⟨_, e⟩ | ⟨g, hg, e, _⟩
          · simp [sel, e] at hx
          · simp only [sel, e, if_true, Option.some.injEq] at hx
            subst hx
            exact key true _ hg
end

def Rise (es : List Ev) : Prop := ∀ j i, j < es.length → lastAt es j (es.getD j dEv).name = some i → q (es.getD i dEv).stamp ≤ q (es.getD j dEv).stamp
theorem Rise.nil : Rise [] := fun j i h => by simp at h
theorem Rise.snoc {es : List Ev} {e : Ev} (h : Rise es) (h1 : ∀ i, lastAt es es.length e.name = some i → q (es.getD i dEv).stamp ≤ q e.stamp) : Rise (es ++ [e]) := by
  intro j i hj hi
  by_cases z : j < es.length
  · rw [getD_l z] at hi ⊢
    rw [lastAt_app _ (by omega)] at hi
    have := lastAt_lt hi
    rw [getD_l (by omega)]
    exact h j i z hi
  · have : j = es.length := by simp at hj; omega
    subst this
    rw [getD_r] at hi ⊢
    rw [lastAt_app _ (Nat.le_refl _)] at hi
    have := lastAt_lt hi
    rw [getD_l (by omega)]
    exact h1 i hi
theorem Tru.rise {fl : Fl} {es : List Ev} {bg : Int} {hrs : List Int} (T : Tru fl es bg hrs) (fo : FlOk fl) (hv : HV fl es) : Rise es := by
  intro j i hj hi
  obtain ⟨h, hh, hm⟩ := drift_some (hv.ev j hj).name
  obtain ⟨t1, t2, t3⟩ := T.go j i h hj hi hh
  have nn : (0 : Rat) ≤ ((hrs.getD j 0 - hrs.getD i 0 : Int) : Rat) := Rat.intCast_nonneg.mpr (by omega)
  have := Rat.mul_nonneg (Rat.le_of_lt (slow_le (fo.rate h hm).1).2) nn
  grind

end KL
namespace K08
open PySem PySem.Spec PyProof.Rows L2 G Th AL K37 KL Fr
abbrev wAt (ws : List Fq) (i : Nat) : Fq := ws.getD i (0, 1)
structure Sc (fl : Fl) (es : List Ev) (ws : List Fq) : Prop where
  len : ws.length = es.length
  nm : ∀ i, i < es.length → (es.getD i dEv).name ∈ fl.hs.map Hs.name
  tm : ∀ i, i < es.length → QN 2 60 (wAt ws i) ∧ 0 ≤ q (wAt ws i)
  st : ∀ i, i < es.length → QN 8 (80 + 960 * (i + 1)) (es.getD i dEv).stamp
  rise : ∀ i j, i ≤ j → j < es.length → q (wAt ws i) ≤ q (wAt ws j)
  dd : ∀ i, i < es.length → DdOk fl (es.take i) ws (es.getD i dEv).name (wAt ws i) (es.getD i dEv).deed
  go : ∀ j i h, j < es.length → lastAt es j (es.getD j dEv).name = some i → driftOf fl (es.getD j dEv).name = some h →
    q h.slow * (q (wAt ws j) - q (wAt ws i)) ≤ q (es.getD j dEv).stamp - q (es.getD i dEv).stamp ∧ q (es.getD j dEv).stamp - q (es.getD i dEv).stamp ≤ q h.fast * (q (wAt ws j) - q (wAt ws i))
  src : ∀ i j, i < es.length → j < es.length → (es.getD i dEv).name = fl.src → (es.getD j dEv).name = fl.src → q (es.getD i dEv).stamp - q (wAt ws i) = q (es.getD j dEv).stamp - q (wAt ws j)
theorem wget_l {ws : List Fq} {x : Fq} {j : Nat} (h : j < ws.length) : wAt (ws ++ [x]) j = wAt ws j := by
  simp [wAt, List.getD, List.getElem?_append_left h]
theorem wget_r {ws : List Fq} {x : Fq} : wAt (ws ++ [x]) ws.length = x := by
  simp [wAt, List.getD]
theorem DdOk.ext {fl : Fl} {es es' : List Ev} {ws ws' : List Fq} {n : Str} {w : Fq} {d : Dd} (h : DdOk fl es ws n w d) (h1 : ∀ k, k < es.length → es'.getD k dEv = es.getD k dEv ∧ wAt ws' k = wAt ws k) (h2 : es.length ≤ es'.length) : DdOk fl es' ws' n w d := by
  cases d with
  | mark => trivial
  | send l => exact h
  | hear k =>
    obtain ⟨hk, l, lk, a, b, c, d⟩ := h
    obtain ⟨e1, e2⟩ := h1 k hk
    refine ⟨by omega, l, lk, by rw [e1]; exact a, b, c, ?_⟩
    show Fits lk (wAt ws' k) w
    rw [e2]
    exact d
theorem Sc.snoc {fl : Fl} {es : List Ev} {ws : List Fq} (H : Sc fl es ws) {e : Ev} {w : Fq} (nm : e.name ∈ fl.hs.map Hs.name) (tm : QN 2 60 w ∧ 0 ≤ q w) (st : QN 8 (80 + 960 * (es.length + 1)) e.stamp) (rise : ∀ i, i < es.length → q (wAt ws i) ≤ q w) (dd : DdOk fl es ws e.name w e.deed)
    (go : ∀ i h, lastAt es es.length e.name = some i → driftOf fl e.name = some h → q h.slow * (q w - q (wAt ws i)) ≤ q e.stamp - q (es.getD i dEv).stamp ∧ q e.stamp - q (es.getD i dEv).stamp ≤ q h.fast * (q w - q (wAt ws i)))
    (src : ∀ i, i < es.length → e.name = fl.src → (es.getD i dEv).name = fl.src → q (es.getD i dEv).stamp - q (wAt ws i) = q e.stamp - q w) : Sc fl (es ++ [e]) (ws ++ [w]) := by
  have hl := H.len
  have el : ∀ i, i < (es ++ [e]).length → i < es.length ∨ i = es.length := fun i hi => by simp at hi; omega
  have wr : wAt (ws ++ [w]) es.length = w := by rw [← hl]; exact wget_r
  have wl : ∀ i, i < es.length → wAt (ws ++ [w]) i = wAt ws i := fun i hi => wget_l (by omega)
  have gl : ∀ i, i < es.length → (es ++ [e]).getD i dEv = es.getD i dEv := fun i hi => getD_l hi
  have gr : (es ++ [e]).getD es.length dEv = e := getD_r
  refine ⟨by simp [hl], fun i hi => ?_, fun i hi => ?_, fun i hi => ?_, fun i j ij hj => ?_, fun i hi => ?_, fun j i h hj hi hd => ?_, fun i j hi hj ni nj => ?_⟩
  · rcases el i hi with z | rfl
    · rw [gl i z]; exact H.nm i z
    · rw [gr]; exact nm
  · rcases el i hi with z | rfl
    · rw [wl i z]; exact H.tm i z
    · rw [wr]; exact tm
  · rcases el i hi with z | rfl
    · rw [gl i z]; exact H.st i z
    · rw [gr]; exact st
  · rcases el j hj with z | rfl
    · rw [wl i (by omega), wl j z]; exact H.rise i j ij z
    · rcases Nat.lt_or_ge i es.length with z | z
      · rw [wl i z, wr]; exact rise i z
      · have : i = es.length := by omega
        subst this
        exact Rat.le_refl
  · rcases el i hi with z | rfl
    · rw [gl i z, wl i z, List.take_append_of_le_length (by omega)]
      refine (H.dd i z).ext (fun k hk => ⟨rfl, wl k ?_⟩) (Nat.le_refl _)
      rw [List.length_take] at hk
      omega
    · rw [gr, wr, List.take_append_of_le_length (Nat.le_refl _), List.take_length]
      exact dd.ext (fun k hk => ⟨rfl, wl k hk⟩) (Nat.le_refl _)
  · rcases el j hj with z | rfl
    · rw [gl j z] at hi hd ⊢
      rw [lastAt_app _ (by omega)] at hi
      have := lastAt_lt hi
      rw [wl j z, wl i (by omega), gl i (by omega)]
      exact H.go j i h z hi hd
    · rw [gr] at hi hd ⊢
      rw [lastAt_app _ (Nat.le_refl _)] at hi
      have := lastAt_lt hi
      rw [wr, wl i (by omega), gl i (by omega)]
      exact go i h hi hd
  · rcases el i hi with z | rfl
    · rw [gl i z] at ni ⊢
      rw [wl i z]
      rcases el j hj with z' | rfl
      · rw [gl j z'] at nj ⊢
        rw [wl j z']
        exact H.src i j z z' ni nj
      · rw [gr] at nj ⊢
        rw [wr]
        exact src i z nj ni
    · rw [gr] at ni ⊢
      rw [wr]
      rcases el j hj with z' | rfl
      · rw [gl j z'] at nj ⊢
        rw [wl j z']
        exact (src j z' ni nj).symm
      · rw [gr, wr]
theorem Sc.nil (fl : Fl) : Sc fl [] [] := ⟨rfl, fun i hi => by simp at hi, fun i hi => by simp at hi, fun i hi => by simp at hi, fun i j _ hi => by simp at hi, fun i hi => by simp at hi, fun j i h hi => by simp at hi, fun i j hi => by simp at hi⟩
end K08
namespace K08
open PySem PySem.Spec PyProof.Rows L2 G Th AL K37 KL Fr
end K08
namespace K08
open PySem PySem.Spec PyProof.Rows L2 G Th AL K37 KL Fr
structure Own (es : List Ev) (n : Str) (ks : List Nat) (i : Nat) : Prop where
  len : ks.length ≤ i
  is : ∀ k ∈ ks, k < i ∧ (es.getD k dEv).name = n
  all : ∀ k, k < i → (es.getD k dEv).name = n → k ∈ ks
theorem Own.nil {es : List Ev} {n : Str} : Own es n [] 0 := ⟨Nat.le_refl _, fun _ z => by simp at z, fun _ z => by omega⟩
theorem Own.put {es : List Ev} {n : Str} {ks : List Nat} {i : Nat} (h : Own es n ks i) (e : (es.getD i dEv).name = n) : Own es n (ks ++ [i]) (i + 1) := by
  have := h.len
  refine ⟨by simp; omega, fun k hk => ?_, fun k hk hn => ?_⟩
  · rcases List.mem_append.mp hk with z | z
    · have := h.is k z
      exact ⟨by omega, this.2⟩
    · simp only [List.mem_singleton] at z
      subst z
      exact ⟨by omega, e⟩
  · rcases Nat.lt_or_ge k i with z | z
    · exact List.mem_append_left _ (h.all k z hn)
    · have : k = i := by omega
      subst this
      simp
theorem Own.skip {es : List Ev} {n : Str} {ks : List Nat} {i : Nat} (h : Own es n ks i) (e : (es.getD i dEv).name ≠ n) : Own es n ks (i + 1) := by
  have := h.len
  refine ⟨by omega, fun k hk => ?_, fun k hk hn => ?_⟩
  · have := h.is k hk
    exact ⟨by omega, this.2⟩
  · rcases Nat.lt_or_ge k i with z | z
    · exact h.all k z hn
    · have : k = i := by omega
      subst this
      exact absurd hn e
end K08
namespace K57
open PySem PySem.Spec PyProof.Rows L2 G Th AL KL Fr
open K37 (fmod_lt small_pow pow18 at_ints p60 p40)
open K08 (wm wd ws_cut)
def fd (i q n : Int) : List (Key × Val) := [(.inr "cells", .ref 2), (.inr "at", .int i), (.inr "left", .int q), (.inr "turn", .int n)]
theorem fd_turn {i q n : Int} : valA (fd i q n) (.inr "turn") = some (.int n) := by rfl
theorem fd_left {i q n : Int} : valA (fd i q n) (.inr "left") = some (.int q) := by rfl
theorem fd_at {i q n : Int} : valA (fd i q n) (.inr "at") = some (.int i) := by rfl
theorem fd_cells {i q n : Int} : valA (fd i q n) (.inr "cells") = some (.ref 2) := by rfl
theorem put_turn {i q n m : Int} : putA (fd i q n) (.inr "turn") (.int m) = fd i q m := by rfl
theorem put_left {i q n m : Int} : putA (fd i q n) (.inr "left") (.int m) = fd i m n := by rfl
theorem put_at {i q n m : Int} : putA (fd i q n) (.inr "at") (.int m) = fd m q n := by rfl
structure Tf (S : Sto) (B : Int) : Prop where
  ex : ∃ (ns : List Int) (i q n : Int), S[2]? = some (.lst (ns.map .int)) ∧ S[0]? = some (.dic (fd i q n)) ∧ 0 ≤ i ∧ 0 ≤ q ∧ 0 ≤ n ∧ n ≤ B ∧ ns.length ≤ 63
theorem Tf.mono {S : Sto} {B B' : Int} (h : Tf S B) (hb : B ≤ B') : Tf S B' := by
  obtain ⟨ns, i, q, n, h0, h1, a, b, c, d, e⟩ := h.ex
  exact ⟨ns, i, q, n, h0, h1, a, b, c, by omega, e⟩
theorem Tf.fr {S T : Sto} {B : Int} (h : Tf S B) (k : Kn S T) : Tf T B := by
  obtain ⟨ns, i, q, n, h0, h1, r⟩ := h.ex
  exact ⟨ns, i, q, n, k _ _ h0, k _ _ h1, r⟩
theorem Tf.kx {S T : Sto} {B : Int} {n : Nat} (h : Tf S B) (k : Kx n S T) (hn : 3 ≤ n) : Tf T B := by
  obtain ⟨ns, i, q, m, h0, h1, r⟩ := h.ex
  exact ⟨ns, i, q, m, k _ _ (by omega) h0, k _ _ (by omega) h1, r⟩
theorem draw_wp {S : Sto} {B m : Int} (T : Tf S B) (m0 : 0 < m) (m1 : m < 2 ^ 60) (hB : B < 2 ^ 40) : Wp (drawL_ [.ref 0, .int m] S) fun v S' => ∃ d, v = .int d ∧ 0 ≤ d ∧ d < m ∧ Tf S' (B + 1) ∧ Kx 0 S S' := by
  have h60 := p60
  have h40 := p40
  have h63 : (2 : Int) ^ 63 = 9223372036854775808 := by decide
  have n64 : (2 : Nat) ^ 64 = 18446744073709551616 := by decide
  obtain ⟨ns, i, q, n, h2, h0, i0, q0, n0, nB, nl⟩ := T.ex
  have fm : ∀ a : Int, 0 ≤ a.fmod m ∧ a.fmod m < m := fun a => fmod_lt m0
  have sz : ∀ i q n : Int, (fd i q n).length < sizeLine := fun _ _ _ => small (by simp [fd])
  refine AL.wf ?_; simp only [List.map_cons, List.map_nil, List.length_cons, List.length_nil, Nat.reduceAdd, Nat.reduceSub, List.replicate_succ, List.replicate_zero, List.cons_append, List.nil_append]; unfold drawL_B; array_get_dec
  refine vIxD rfl h0 rfl fd_turn ?_
  array_get_dec
  refine vPut h0 rfl ?_ (sz _ _ _)
  rw [put_turn]
  intro S1 l_S1 g_S1 k_S1
  have h21 : S1[2]? = some (.lst (ns.map .int)) := by array_mem_dec
  have tp1 : ∀ (T' : Sto) (i' q' : Int), T'[2]? = some (.lst (ns.map .int)) → T'[0]? = some (.dic (fd i' q' (n + 1))) → 0 ≤ i' → 0 ≤ q' → Tf T' (B + 1) := fun T' i' q' a b c d => ⟨ns, i', q', n + 1, a, b, c, d, by omega, by omega, nl⟩
  array_get_dec
  refine vIxD rfl g_S1 rfl fd_left ?_
  array_get_dec
  by_cases hq : 0 < q
  · refine brT (decide_eq_true hq) ?_
    array_get_dec
    refine vIxD rfl g_S1 rfl fd_left ?_
    array_get_dec
    · refine vIxD rfl g_S1 rfl fd_left ?_
      array_get_dec
      · refine vPut g_S1 rfl ?_ (sz _ _ _)
        rw [put_left]
        intro S2 l_S2 g_S2 k_S2
        array_get_dec
        exact ⟨_, rfl, (fm q).1, (fm q).2, tp1 S2 i (q / m) (by array_mem_dec) g_S2 i0 (Int.ediv_nonneg q0 (by omega)), k_S1.trans k_S2⟩
      · exact wd m0 m1
    · omega
  · refine brF (decide_eq_false hq) ?_
    array_get_dec
    refine vIxD rfl g_S1 rfl fd_at ?_
    array_get_dec
    refine vPut g_S1 rfl ?_ (sz _ _ _)
    rw [put_at]
    intro S2 l_S2 g_S2 k_S2
    have h22 : S2[2]? = some (.lst (ns.map .int)) := by array_mem_dec
    have k02 : Kx 0 S S2 := k_S1.trans k_S2
    refine ws_seq (ws_asg (wc (bn rfl (ws_seq (ws_cut (N' := fun ρ T => ∃ c : Int, ρ = [some (.ref 0), some (.int m), some (.int (n + 1)), some (.int i), some (.int c), none, none] ∧ Kn S2 T) ?_ ?_)))))
    · array_get_dec
      refine vIxD rfl g_S2 rfl fd_cells ?_
      array_get_dec
      intro S3 r3 e_r3 l_S3 g_r3 k_S3
      array_get_dec
      have h23 : S3[2]? = some (.lst (ns.map .int)) := by array_mem_dec
      have g3 : S3[0]? = some (.dic (fd (i + 1) q (n + 1))) := by array_mem_dec
      refine vNeNil rfl rfl h23 g_r3 ?_
      array_get_dec
      cases hns : ns with
      | nil => exact brF rfl (ws_nil ⟨_, rfl, k_S3⟩)
      | cons y ys =>
        rw [hns] at h23
        refine brT rfl ?_
        array_get_dec
        refine vIxD rfl g3 rfl fd_cells ?_
        array_get_dec
        refine vIxD rfl g3 rfl fd_cells ?_
        array_get_dec
        · obtain ⟨a, b⟩ := fmod_lt (a := i) (b := ((y :: ys).length : Int)) (by simp)
          obtain ⟨v, hv, _⟩ := at_ints (L := y :: ys) a b
          refine vIxL rfl rfl h23 (by rw [List.length_map]; exact hv) ?_
          array_get_dec
          exact ⟨_, rfl, k_S3⟩
        · simp
          omega
    · rintro _ S3 ⟨c, rfl, k3⟩
      have g3 : S3[0]? = some (.dic (fd (i + 1) q (n + 1))) := by array_mem_dec
      have h23 : S3[2]? = some (.lst (ns.map .int)) := by array_mem_dec
      have k03 : Kx 0 S S3 := k02.trans (k3.kx 0)
      refine ws_seq (ws_cut (N' := fun ρ T => ρ = [some (.ref 0), some (.int m), some (.int (n + 1)), some (.int i), some (.int c), none, none] ∧ T = S3) ?_ ?_)
      · array_get_dec
        refine vPow rfl rfl ?_ pow18
        array_get_dec
        refine Br.of (fun c1 => ?_) (fun c1 => ?_)
        · have c1 : (10 : Int) ^ (18 : Int).toNat ≤ c := of_decide_eq_true c1
          array_get_dec
          refine vIxD rfl g3 rfl fd_cells ?_
          array_get_dec
          refine Br.of (fun c2 => ?_) (fun c2 => ?_)
          · array_get_dec
            · refine vPut g3 rfl ?_ (sz _ _ _)
              rw [put_left]
              intro S4 l_S4 g_S4 k_S4
              array_get_dec
              · exact ⟨_, rfl, (fm c).1, (fm c).2, tp1 S4 (i + 1) (c / m) (by array_mem_dec) g_S4 (by omega) (Int.ediv_nonneg (Int.le_trans (by decide) c1) (by omega)), k03.trans k_S4⟩
              · omega
            · exact wd m0 m1
          · array_get_dec
            exact ⟨rfl, rfl⟩
        · array_get_dec
          exact ⟨rfl, rfl⟩
      · rintro _ _ ⟨rfl, rfl⟩
        have cm := fmod_lt (a := c) (b := 2147483629) (by decide)
        have p1 := small_pow (x := c.fmod 2147483629 + 7919 * (n + 1) + 1) (by omega) (by omega)
        have r1 := fmod_lt (a := (c.fmod 2147483629 + 7919 * (n + 1) + 1) ^ (5 : Int).toNat) (b := 2147483647) (by decide)
        have p2 := small_pow (x := ((c.fmod 2147483629 + 7919 * (n + 1) + 1) ^ (5 : Int).toNat).fmod 2147483647 + 104729 * (n + 1)) (by omega) (by omega)
        array_get_dec
        all_goals first | refine vPow rfl rfl ?_ p1 | decide | exact wm (by omega) (by omega) | skip
        array_get_dec
        all_goals first | refine vPow rfl rfl ?_ p2 | decide | exact wm (by omega) (by omega) | skip
        array_get_dec
        all_goals first | exact ⟨_, rfl, (fm _).1, (fm _).2, tp1 _ (i + 1) q h23 g3 (by omega) q0, k03⟩ | exact wd (by decide) (by decide) | omega | decide
theorem feed_wp (ns : List Int) (h : ns.length ≤ 63) : Wp (feedL_ [.scr ns] []) fun v S => v = .ref 0 ∧ Tf S 0 := by
  refine ⟨.ref 0, [.dic (fd 0 0 0), .lst (cutL (ns.map Val.int) none (some 63)), .lst (cutL (ns.map Val.int) none (some 63))], ?_, rfl, ?_⟩
  · rfl
  · refine ⟨(ns.drop (HT.sIx ns.length 0 none)).take (HT.sIx ns.length ns.length (some 63) - HT.sIx ns.length 0 none), 0, 0, 0, ?_, rfl, by omega, by omega, by omega, by omega, ?_⟩
    · show some (Ob.lst (cutL (ns.map Val.int) none (some 63))) = _
      unfold cutL
      rw [List.length_map, ← List.map_drop, ← List.map_take]
    · rw [List.length_take, List.length_drop]
      omega
end K57
namespace AL
open PySem PySem.Spec PyProof.Rows L2 G Th K37
structure Dt (S : Sto) (n w : Nat) (v : Val) (d : PyData) : Prop where
  ok : okD d = true
  wt : d.weight ≤ w
  dp : d.depth ≤ n
  td : ∀ k, n < k → toD S k v = some d
structure DtL (S : Sto) (n w : Nat) (vs : List Val) (ds : List PyData) : Prop where
  ok : okAll ds = true
  wt : PyData.weightAll ds ≤ w
  dp : PyData.depthAll ds ≤ n
  td : ∀ k, n < k → mapO (toD S k) vs = some ds
theorem Dt.of {n w : Nat} {v : Val} (h : Sh n w v) : ∃ d, ∀ S, Dt S n w v d := by
  obtain ⟨d, h1, h2, h3, h4⟩ := h
  exact ⟨d, fun S => ⟨h1, h2, h3, fun k hk => h4 S k hk⟩⟩
theorem DtL.nil {S : Sto} {n w : Nat} : DtL S n w [] [] := ⟨rfl, by simp [PyData.weightAll], by simp [PyData.depthAll], fun _ _ => rfl⟩
theorem DtL.cons {S : Sto} {n w w' : Nat} {v : Val} {vs : List Val} {d : PyData} {ds : List PyData} (h : Dt S n w v d) (g : DtL S n w' vs ds) : DtL S n (w + w' + 1) (v :: vs) (d :: ds) := by
  have h2 := h.wt
  have g2 := g.wt
  have h3 := h.dp
  have g3 := g.dp
  refine ⟨?_, ?_, ?_, fun k hk => ?_⟩
  · show (okD d && okAll ds) = true
    rw [h.ok, g.ok]
    rfl
  · show d.weight + 1 + PyData.weightAll ds ≤ _
    omega
  · simp only [PyData.depthAll]
    omega
  · unfold mapO
    rw [h.td k hk, g.td k hk]
    rfl
theorem Dt.mono {S : Sto} {n w n' w' : Nat} {v : Val} {d : PyData} (h : Dt S n w v d) (hn : n ≤ n') (hw : w ≤ w') : Dt S n' w' v d := ⟨h.ok, by have := h.wt; omega, by have := h.dp; omega, fun k hk => h.td k (by omega)⟩
theorem Dt.lst {S : Sto} {n w a : Nat} {vs : List Val} {ds : List PyData} (h : S[a]? = some (.lst vs)) (r : DtL S n w vs ds) : Dt S (n + 1) w (.ref a) (.list ds) := by
  refine ⟨r.ok, r.wt, by have := r.dp; simp only [PyData.depth]; omega, fun k hk => ?_⟩
  obtain ⟨k, rfl⟩ : ∃ j, k = j + 1 := ⟨k - 1, by omega⟩
  rw [toD]
  simp only [h]
  rw [r.td k (by omega)]
  rfl
theorem Dt.tup {S : Sto} {n w : Nat} {vs : List Val} {ds : List PyData} (r : DtL S n w vs ds) : Dt S (n + 1) w (.tup vs) (.tuple ds) := by
  refine ⟨r.ok, r.wt, by have := r.dp; simp only [PyData.depth]; omega, fun k hk => ?_⟩
  obtain ⟨k, rfl⟩ : ∃ j, k = j + 1 := ⟨k - 1, by omega⟩
  show (mapO (toD S k) vs).map PyData.tuple = _
  rw [r.td k (by omega)]
  rfl
theorem Dt.str {S : Sto} {x : Str} (h : TxOk x) : Dt S 0 8 (.str x) (.str x) := by
  refine ⟨h.1, by simp only [PyData.weight]; exact h.2, by simp [PyData.depth], fun k hk => ?_⟩
  obtain ⟨k, rfl⟩ : ∃ j, k = j + 1 := ⟨k - 1, by omega⟩
  rfl
theorem Dt.repr {S : Sto} {n w : Nat} {v : Val} {d : PyData} (h : Dt S n w v d) (hn : n < 40) (hw : w ≤ 40000) : gRepr [v] S = some (.str d.shown, S) := by
  have h2 := h.wt
  have h3 := h.dp
  unfold gRepr
  simp only [h.td 40 hn]
  rw [if_pos ⟨h.ok, by omega, by omega⟩]

theorem Dt.two {S : Sto} {n w a : Nat} {x : Str} {v : Val} {d : PyData} (hx : TxOk x) (h : S[a]? = some (.lst [.str x, v])) (r : Dt S n w v d) : Dt S (n + 1) (w + 12) (.ref a) (.list [.str x, d]) := by
  have := DtL.cons ((Dt.str (S := S) hx).mono (Nat.zero_le n) (Nat.le_refl _)) (DtL.cons r (DtL.nil (w := 0)))
  exact (Dt.lst h this).mono (Nat.le_refl _) (by omega)
end AL
namespace K57
open PySem PySem.Spec PyProof.Rows L2 G Th AL KL Fr
open K37 (fmod_lt p60 p40)
open K08 (ws_cut)

def K2 (a b : Nat) (S T : Sto) : Prop := ∀ (k : Nat) (o : Ob), k ≠ a → k ≠ b → S[k]? = some o → T[k]? = some o
theorem K2.refl {a b : Nat} (S : Sto) : K2 a b S S := fun _ _ _ _ h => h
theorem K2.trans {a b : Nat} {S T U : Sto} (h : K2 a b S T) (g : K2 a b T U) : K2 a b S U := fun k o x y z => g k o x y (h k o x y z)
theorem K2.kn {a b : Nat} {S T : Sto} (h : Kn S T) : K2 a b S T := fun k o _ _ z => h k o z
theorem K2.kx {a b : Nat} {S T : Sto} (h : Kx a S T) : K2 a b S T := fun k o x _ z => h k o x z
theorem K2.ky {a b : Nat} {S T : Sto} (h : Kx b S T) : K2 a b S T := fun k o _ x z => h k o x z
theorem Tf.k2 {S T : Sto} {B : Int} {n : Nat} (h : Tf S B) (k : Kx n S T) (hn : 3 ≤ n) : Tf T B := h.kx k hn
theorem erase_perm {α : Type} : ∀ {zs : List α} {k : Nat} {z : α}, zs[k]? = some z → ([z] ++ zs.eraseIdx k).Perm zs
  | [], k, _, h => by simp at h
  | a :: l, 0, z, h => by cases h; exact .refl _
  | a :: l, k + 1, z, h => by
    have h : l[k]? = some z := by simpa using h
    rw [List.eraseIdx_cons_succ]
    exact (List.Perm.swap a z _).trans ((erase_perm h).cons a)
theorem erase_map {α β : Type} (f : α → β) : ∀ (l : List α) (k : Nat), (l.map f).eraseIdx k = (l.eraseIdx k).map f
  | [], _ => rfl
  | _ :: _, 0 => rfl
  | a :: l, k + 1 => by rw [List.map_cons, List.eraseIdx_cons_succ, List.eraseIdx_cons_succ, List.map_cons, erase_map f l k]
theorem perm_pop {α : Type} {ys zs xs : List α} {k : Nat} {z : α} (h : (ys ++ zs).Perm xs) (hk : zs[k]? = some z) : ((ys ++ [z]) ++ zs.eraseIdx k).Perm xs := by
  refine List.Perm.trans ?_ h
  rw [List.append_assoc]
  exact List.Perm.append_left ys (erase_perm hk)
end K57
namespace K57
open PySem PySem.Spec PyProof.Rows L2 G Th AL KL Fr Od
open K37 (fmod_lt p60 p40 TxOk Sh ShL)
open K08 (ws_cut)
section
variable {S : Sto} {Q : Val → Sto → Prop} {x y : Val} {a b : Str}
theorem or_some {α : Type} {o p : Option α} {z : α} (h : o = some z) : o.or p = some z := by rw [h]; rfl
theorem strs_map : ∀ ss : List Str, strsOf (ss.map .str) = some ss
  | [] => rfl
  | x :: r => by rw [List.map_cons, strsOf, strs_map r]; rfl
theorem vSortGS {n : Nat} {ss : List Str} (hx : x = .ref n) (h : S[n]? = some (.lst (ss.map .str))) (hl : ss.length < 64) (q : Nw S (.lst ((sortS ss).map .str)) Q) : Wp (gSortedG [x] S) Q := by
  subst hx
  exact ⟨_, _, or_some (by simp only [gSorted, h, strs_map, if_pos hl]), q.use⟩
theorem sortS_perm (l : List Str) : (sortS l).Perm l := List.mergeSort_perm l leS
end
abbrev tl (x : Str) : List Nat := x.cps.toList
def wireV (w : Str × Str) : Val := .tup [.str w.1, .str w.2]
def wr (o : List Str) (p : Nat × Nat) : Str × Str :=
  let a := o.getD p.1 ""; let b := o.getD p.2 ""
  (if tl b < tl a then b else a, if tl a < tl b then b else a)
structure Mb where
  name : Str
  pri : Int
  cls : Int
def mbV (m : Mb) : Val := .tup [.str m.name, .int m.pri, .int m.cls]
structure Net where
  ms : List Mb
  ws : List (Str × Str)
def Net.names (n : Net) : List Str := n.ms.map Mb.name
def pool : List Str := ["a", "ab", "b", "c", "d", "yy", "z", "zzzzzzzz"]

def poolX : List Str := pool ++ [("e" : Str)]
structure WOk (ns : List Str) (ws : List (Str × Str)) : Prop where
  nd : ws.Nodup
  len : ws.length ≤ 12
  mem : ∀ w ∈ ws, w.1 ∈ ns ∧ w.2 ∈ ns ∧ tl w.1 < tl w.2
structure NOk (n : Net) : Prop where
  nd : n.names.Nodup
  pos : 0 < n.ms.length
  len : n.ms.length ≤ 8
  inp : ∀ x ∈ n.names, x ∈ poolX
  num : ∀ m ∈ n.ms, 0 ≤ m.pri ∧ m.pri < 4 ∧ 0 ≤ m.cls ∧ m.cls < 3
  w : WOk n.names n.ws
  srt : Srt (n.ws.map wireV)
  nsrt : sortS n.names = n.names

def NmOk (x : Str) : Prop := PyData.strOk x = true ∧ x.cps.size ≤ 8
theorem nm_pool {x : Str} (h : x ∈ pool) : NmOk x := by
  simp only [pool, List.mem_cons, List.not_mem_nil, or_false] at h
  rcases h with rfl | rfl | rfl | rfl | rfl | rfl | rfl | rfl <;> exact ⟨by decide +kernel, by decide +kernel⟩
theorem nm_poolX {x : Str} (h : x ∈ poolX) : NmOk x := by
  rcases List.mem_append.mp h with h | h
  · exact nm_pool h
  · rw [List.mem_singleton.mp h]
    exact ⟨by decide +kernel, by decide +kernel⟩
theorem pool_nd : pool.Nodup := by decide +kernel
theorem NOk.nm {n : Net} (h : NOk n) {x : Str} (hx : x ∈ n.names) : NmOk x := nm_poolX (h.inp x hx)
end K57
namespace K57
open PySem PySem.Spec PyProof.Rows L2 G Th AL KL Fr Od
open K37 (fmod_lt p60 p40 TxOk Sh ShL)
open K08 (ws_cut)

structure Pr (sz k j : Nat) (L : List (Nat × Nat)) : Prop where
  nd : L.Nodup
  lt : ∀ p ∈ L, p.1 < p.2 ∧ p.2 < sz ∧ (p.2 < k ∨ (p.2 = k ∧ p.1 < j))
  len : L.length ≤ 12
theorem Pr.next {sz k j : Nat} {L : List (Nat × Nat)} (h : Pr sz k j L) : Pr sz k (j + 1) L := ⟨h.nd, fun p hp => by have := h.lt p hp; omega, h.len⟩
theorem Pr.row {sz k : Nat} {L : List (Nat × Nat)} (h : Pr sz k k L) : Pr sz (k + 1) 0 L := ⟨h.nd, fun p hp => by have := h.lt p hp; omega, h.len⟩
theorem Pr.add {sz k j : Nat} {L : List (Nat × Nat)} (h : Pr sz k j L) (hj : j < k) (hk : k < sz) (hl : L.length < 12) : Pr sz k (j + 1) (L ++ [(j, k)]) := by
  refine ⟨?_, fun p hp => ?_, by rw [List.length_append, List.length_singleton]; omega⟩
  · rw [List.nodup_append]
    refine ⟨h.nd, by simp, fun a ha b hb e => ?_⟩
    have := h.lt a ha
    rw [List.mem_singleton.mp hb] at e
    rw [e] at this
    simp only at this
    omega
  · rcases List.mem_append.mp hp with hp | hp
    · have := h.lt p hp
      omega
    · rw [List.mem_singleton.mp hp]
      exact ⟨hj, hk, .inr ⟨rfl, Nat.lt_succ_self _⟩⟩
theorem WOk.names {ns ms : List Str} {ws : List (Str × Str)} (h : WOk ns ws) (e : ∀ x, x ∈ ns → x ∈ ms) : WOk ms ws := ⟨h.nd, h.len, fun w hw => by obtain ⟨a, b, c⟩ := h.mem w hw; exact ⟨e _ a, e _ b, c⟩⟩
section
variable {S : Sto} {B : Int} {a1 a2 a3 a4 a5 a13 : Option Val} {ro rf : Nat} {o : List Str} {sz wy : Nat}

end
end K57
namespace K57
open PySem PySem.Spec PyProof.Rows L2 G Th AL KL Fr Od
open K37 (fmod_lt p60 p40 TxOk Sh ShL)
open K08 (ws_cut)
theorem sortS_pw (l : List Str) : (sortS l).Pairwise (fun a b => leS a b = true) := List.pairwise_mergeSort leS_trans leS_total l
theorem names_nd {ys zs : List Str} (h : (ys ++ zs).Perm pool) : ys.Nodup ∧ ∀ x ∈ ys, x ∈ pool := by
  have := h.nodup_iff.mpr pool_nd
  exact ⟨(List.nodup_append.mp this).1, fun x hx => h.mem_iff.mp (List.mem_append_left _ hx)⟩
end K57
namespace K57
open PySem PySem.Spec PyProof.Rows L2 G Th AL KL Fr Od
open K37 (fmod_lt p60 p40 TxOk Sh ShL)
open K08 (ws_cut)
def endsL (ws : List (Str × Str)) (x : Str) : List Str := (ws.filter fun w => decide (w.2 = x)).map (·.1) ++ (ws.filter fun w => decide (w.1 = x)).map (·.2)
def ends (ws : List (Str × Str)) (x : Str) : List Str := sortS (endsL ws x)

def oes (ws : List (Str × Str)) (x : Str) : List Str := (ws.filter fun w => decide (x = w.1) || decide (x = w.2)).map fun w => if w.1 = x then w.2 else w.1
theorem tl_irr (x : Str) : ¬ tl x < tl x := fun h => by
  have := strKind.irrefl (tl x)
  rw [show strKind.blt (tl x) (tl x) = decide (tl x < tl x) from rfl, decide_eq_true h] at this
  cases this
theorem tl_asym {x y : Str} (h : tl x < tl y) : ¬ tl y < tl x := fun g => by
  have := strKind.trans (tl x) (tl y) (tl x) (decide_eq_true h) (decide_eq_true g)
  rw [strKind.irrefl] at this
  cases this
theorem oes_perm {x : Str} : ∀ {ws : List (Str × Str)}, (∀ w ∈ ws, tl w.1 < tl w.2) → (oes ws x).Perm (endsL ws x)
  | [], _ => .refl _
  | w :: ws, h => by
    have ih := oes_perm (x := x) (ws := ws) fun u hu => h u (List.mem_cons_of_mem _ hu)
    have lt := h w List.mem_cons_self
    unfold oes endsL at ih ⊢
    by_cases a : w.1 = x
    · have b : ¬ w.2 = x := fun b => tl_irr x (by rw [a, b] at lt; exact lt)
      rw [List.filter_cons_of_pos (by simp [a]), List.filter_cons_of_neg (by simp [b]), List.filter_cons_of_pos (by simp [a]), List.map_cons, List.map_cons, if_pos a]
      exact (ih.cons _).trans List.perm_middle.symm
    · by_cases b : w.2 = x
      · rw [List.filter_cons_of_pos (by simp [b]), List.filter_cons_of_pos (by simp [b]), List.filter_cons_of_neg (by simp [a]), List.map_cons, List.map_cons, if_neg a]
        exact ih.cons _
      · have a' : ¬ x = w.1 := fun z => a z.symm
        have b' : ¬ x = w.2 := fun z => b z.symm
        rw [List.filter_cons_of_neg (by simp [a', b']), List.filter_cons_of_neg (by simp [b]), List.filter_cons_of_neg (by simp [a])]
        exact ih
theorem mem_endsL {ws : List (Str × Str)} {x y : Str} : y ∈ endsL ws x ↔ (y, x) ∈ ws ∨ (x, y) ∈ ws := by
  unfold endsL
  simp only [List.mem_append, List.mem_map, List.mem_filter, decide_eq_true_eq]
  constructor
  · rintro (⟨w, ⟨h, e⟩, e2⟩ | ⟨w, ⟨h, e⟩, e2⟩)
    · exact .inl (by rw [← e, ← e2]; exact h)
    · exact .inr (by rw [← e, ← e2]; exact h)
  · rintro (h | h)
    · exact .inl ⟨_, ⟨h, rfl⟩, rfl⟩
    · exact .inr ⟨_, ⟨h, rfl⟩, rfl⟩
theorem WOk.ends_nd {ns : List Str} {ws : List (Str × Str)} (h : WOk ns ws) (x : Str) : (endsL ws x).Nodup := by
  unfold endsL
  rw [List.nodup_append]
  have n1 : ((ws.filter fun w => decide (w.2 = x)).map (·.1)).Nodup := by
    refine List.pairwise_map.mpr ((h.nd.filter _).imp_of_mem fun {a b} ha hb ne e => ne ?_)
    simp only [List.mem_filter, decide_eq_true_eq] at ha hb
    exact Prod.ext e (ha.2.trans hb.2.symm)
  have n2 : ((ws.filter fun w => decide (w.1 = x)).map (·.2)).Nodup := by
    refine List.pairwise_map.mpr ((h.nd.filter _).imp_of_mem fun {a b} ha hb ne e => ne ?_)
    simp only [List.mem_filter, decide_eq_true_eq] at ha hb
    exact Prod.ext (ha.2.trans hb.2.symm) e
  refine ⟨n1, n2, fun a ha b hb e => ?_⟩
  simp only [List.mem_map, List.mem_filter, decide_eq_true_eq] at ha hb
  obtain ⟨w, ⟨h1, e1⟩, rfl⟩ := ha
  obtain ⟨u, ⟨h2, e2⟩, rfl⟩ := hb
  have l1 := (h.mem w h1).2.2
  have l2 := (h.mem u h2).2.2
  rw [e1, e] at l1
  rw [e2] at l2
  exact tl_asym l1 l2
theorem WOk.ends_in {ns : List Str} {ws : List (Str × Str)} (h : WOk ns ws) {x y : Str} (hy : y ∈ endsL ws x) : y ∈ ns := by
  rcases mem_endsL.mp hy with m | m
  · exact (h.mem _ m).1
  · exact (h.mem _ m).2.1
theorem nd_len {α : Type} [DecidableEq α] : ∀ {xs ys : List α}, xs.Nodup → (∀ x ∈ xs, x ∈ ys) → xs.length ≤ ys.length
  | [], ys, _, _ => Nat.zero_le _
  | x :: xs, ys, nd, h => by
    obtain ⟨h1, h2⟩ := List.nodup_cons.mp nd
    have hx := h x List.mem_cons_self
    have := nd_len (xs := xs) (ys := ys.erase x) h2 fun z hz => (List.mem_erase_of_ne (fun e => h1 (by rw [← e]; exact hz))).mpr (h z (List.mem_cons_of_mem _ hz))
    rw [List.length_erase_of_mem hx] at this
    have := List.length_pos_of_mem hx
    simp only [List.length_cons]
    omega
section
variable {S : Sto} {B : Int}
def g1 : Val → Val
  | .tup [a, _] => a
  | _ => .non
def g2 : Val → Val
  | .tup [_, a] => a
  | _ => .non
def isS (x : Str) : Val → Bool
  | .str y => decide (y = x)
  | _ => false
theorem endsL_wp {ws : List (Str × Str)} {x : Str} (hl : ws.length ≤ 12) : Wp (endsL_ [.tup (ws.map wireV), .str x] S) fun v U => ∃ r, v = .ref r ∧ U[r]? = some (.lst ((ends ws x).map .str)) ∧ Kn S U ∧ S.length ≤ r := by
  have m1 : ∀ (f : Str × Str → Bool), ((ws.map wireV).filter (fun v => isS x (g2 v))).map g1 = ((ws.filter fun w => decide (w.2 = x)).map (·.1)).map Val.str := fun _ => by
    rw [List.filter_map, List.map_map, List.map_map]
    rfl
  have m2 : ((ws.map wireV).filter (fun v => isS x (g1 v))).map g2 = ((ws.filter fun w => decide (w.1 = x)).map (·.2)).map Val.str := by
    rw [List.filter_map, List.map_map, List.map_map]
    rfl
  have fl : ∀ f : Str × Str → Bool, (ws.filter f).length ≤ 12 := fun f => Nat.le_trans (List.length_filter_le _ _) hl
  refine AL.wf ?_; simp only [List.map_cons, List.map_nil, List.length_cons, List.length_nil, Nat.reduceAdd, Nat.reduceSub, List.replicate_succ, List.replicate_zero, List.cons_append, List.nil_append]; unfold endsL_B; array_get_dec
  refine .inl ⟨_, rfl, ?_⟩
  refine lc_pure (fun v => isS x (g2 v)) g1 trivial (by rw [List.length_map]; omega) (fun v hv => ?_) ?_
  · obtain ⟨w, _, rfl⟩ := List.mem_map.mp hv
    refine bn rfl ?_
    array_get_dec
    exact ⟨rfl, rfl, fun _ => by array_get_dec; exact ⟨rfl, rfl⟩⟩
  · rw [m1 fun _ => true]
    intro U1 r1 e_r1 l_U1 g_r1 k_U1
    array_get_dec
    refine .inl ⟨_, rfl, ?_⟩
    refine lc_pure (fun v => isS x (g1 v)) g2 trivial (by rw [List.length_map]; omega) (fun v hv => ?_) ?_
    · obtain ⟨w, _, rfl⟩ := List.mem_map.mp hv
      refine bn rfl ?_
      array_get_dec
      exact ⟨rfl, rfl, fun _ => by array_get_dec; exact ⟨rfl, rfl⟩⟩
    · rw [m2]
      intro U2 r2 e_r2 l_U2 g_r2 k_U2
      array_get_dec
      have f1 := fl fun w => decide (w.2 = x)
      have f2 := fl fun w => decide (w.1 = x)
      refine vCatL rfl rfl (k_U2 _ _ g_r1) g_r2 (by simp only [List.length_map]; omega) ?_
      rw [← List.map_append]
      intro U3 r3 e_r3 l_U3 g_r3 k_U3
      array_get_dec
      refine vSortGS rfl g_r3 (by simp only [List.length_append, List.length_map]; omega) ?_
      intro U4 r4 e_r4 l_U4 g_r4 k_U4
      refine ⟨r4, rfl, g_r4, k_U1.trans (k_U2.trans (k_U3.trans k_U4)), by omega⟩
end
end K57
namespace K57
open PySem PySem.Spec PyProof.Rows L2 G Th AL KL Fr Od
open K37 (fmod_lt p60 p40 TxOk Sh ShL)
open K08 (ws_cut)
structure Ky where
  p : Int
  c : Int
  nm : Str
def keyV (k : Ky) : Val := .tup [.int k.p, .int k.c, .str k.nm]
structure Bs where
  key : Ky
  st : Int
  who : Str
def bsV (b : Bs) : Val := .tup [keyV b.key, .int b.st, .str b.who]
def boV : Option Bs → Val
  | none => .non
  | some b => bsV b
structure Hd where
  who : Str
  key : Ky
  st : Int
  old : Int
def hdV (h : Hd) : Val := .tup [.str h.who, keyV h.key, .int h.st, .int h.old]
structure Rw where
  name : Str
  best : Option Bs
  hs : List Hd
def rwV (r : Rw) : Val := .tup [.str r.name, boV r.best, .tup (r.hs.map hdV)]
structure KyOk (k : Ky) : Prop where
  p0 : 0 ≤ k.p
  p1 : k.p < 4
  c0 : 0 ≤ k.c
  c1 : k.c < 3
  nm : NmOk k.nm
structure BsOk (ns : List Str) (b : Bs) : Prop where
  key : KyOk b.key
  s0 : 0 ≤ b.st
  s1 : b.st ≤ 9
  who : b.who ∈ ns
structure HdOk (ns : List Str) (h : Hd) : Prop where
  key : KyOk h.key
  s0 : 0 ≤ h.st
  s1 : h.st ≤ 9
  o0 : 0 ≤ h.old
  o1 : h.old ≤ 4
  who : h.who ∈ ns
structure RwOk (ns : List Str) (r : Rw) : Prop where
  best : ∀ b, r.best = some b → BsOk ns b
  hs : ∀ h ∈ r.hs, HdOk ns h
  nd : (r.hs.map Hd.who).Nodup
structure SOk (n : Net) (s : List Rw) : Prop where
  nm : s.map Rw.name = n.names
  row : ∀ r ∈ s, RwOk n.names r
theorem RwOk.len {n : Net} (hn : NOk n) {r : Rw} (h : RwOk n.names r) : r.hs.length ≤ 8 := by
  have := nd_len h.nd (ys := n.names) fun x hx => by
    obtain ⟨d, hd, rfl⟩ := List.mem_map.mp hx
    exact (h.hs d hd).who
  rw [List.length_map] at this
  have l := hn.len
  unfold Net.names at this
  rw [List.length_map] at this
  omega
section
variable {S : Sto} {B : Int} {n : Net}
def mkey (m : Mb) : Ky := ⟨m.pri, m.cls, m.name⟩
theorem mkey_ok (hn : NOk n) {m : Mb} (hm : m ∈ n.ms) : KyOk (mkey m) := by
  obtain ⟨a, b, c, d⟩ := hn.num m hm
  exact ⟨a, b, c, d, hn.nm (List.mem_map_of_mem hm)⟩
theorem WOk.filter {ns : List Str} {ws : List (Str × Str)} (h : WOk ns ws) (us : List (Str × Str)) (s : us.Sublist ws) : WOk ns us := ⟨h.nd.sublist s, Nat.le_trans s.length_le h.len, fun w hw => h.mem w (s.subset hw)⟩
theorem K2.len {a b : Nat} {S T : Sto} (h : K2 a b S T) (l : a + 1 < S.length ∧ b + 1 < S.length ∨ ∃ o, S[S.length - 1]? = some o ∧ S.length - 1 ≠ a ∧ S.length - 1 ≠ b) : S.length ≤ T.length := by
  have go : ∀ k : Nat, k ≠ a → k ≠ b → k < S.length → k < T.length := fun k ha hb hk => lt_of_at (h k _ ha hb (List.getElem?_eq_getElem hk))
  rcases l with ⟨l1, l2⟩ | ⟨o, h1, h2, h3⟩
  · have := go (S.length - 1) (by omega) (by omega) (by omega)
    omega
  · have := lt_of_at h1
    have := go (S.length - 1) h2 h3 (by omega)
    omega

end
end K57
namespace K57
open PySem PySem.Spec PyProof.Rows L2 G Th AL KL Fr Od
open K37 (fmod_lt p60 p40 TxOk Sh ShL)
open K08 (ws_cut)
def bestOf (s : List Rw) (x : Str) : Option Bs := (s.find? fun r => decide (r.name = x)).bind (·.best)
theorem bestOf_at {s : List Rw} (nd : (s.map Rw.name).Nodup) {r : Rw} (h : r ∈ s) : bestOf s r.name = r.best := by
  induction s with
  | nil => simp at h
  | cons q s ih =>
    rw [List.map_cons, List.nodup_cons] at nd
    unfold bestOf
    rw [List.find?_cons]
    rcases List.mem_cons.mp h with rfl | h
    · simp
    · have ne : ¬ q.name = r.name := fun e => nd.1 (e ▸ List.mem_map_of_mem h)
      rw [decide_eq_false ne]
      exact ih nd.2 h
theorem bestOf_ok {n : Net} {s : List Rw} (so : SOk n s) {x : Str} {b : Bs} (h : bestOf s x = some b) : BsOk n.names b := by
  unfold bestOf at h
  obtain ⟨r, h1, h2⟩ := Option.bind_eq_some_iff.mp h
  exact (so.row r (List.mem_of_find?_eq_some h1)).best b h2
def frs (s : List Rw) (es : List Str) : List Hd := es.filterMap fun e => (bestOf s e).map fun b => ⟨e, b.key, b.st, 0⟩
def kps (fr hs : List Hd) (age : Int) : List Hd := (hs.filter fun h => !decide (h.who ∈ fr.map Hd.who) && decide (h.old < age)).map fun h => ⟨h.who, h.key, h.st, h.old + 1⟩
def sortH (l : List Hd) : List Hd := l.mergeSort fun a b => leS a.who b.who
theorem sortH_perm (l : List Hd) : (sortH l).Perm l := List.mergeSort_perm _ _
theorem sortH_pw (l : List Hd) : (sortH l).Pairwise fun a b => leS a.who b.who = true := List.pairwise_mergeSort (le := fun a b : Hd => leS a.who b.who) (fun a b c => leS_trans _ _ _) (fun a b => leS_total _ _) l
theorem frs_who (s : List Rw) : ∀ es : List Str, ((frs s es).map Hd.who).Sublist es
  | [] => by simp [frs]
  | e :: es => by
    have ih := frs_who s es
    unfold frs at ih ⊢
    rw [List.filterMap_cons]
    cases bestOf s e with
    | none => exact ih.trans (List.sublist_cons_self _ _)
    | some b => exact ih.cons_cons e
theorem mem_frs {s : List Rw} {es : List Str} {h : Hd} : h ∈ frs s es ↔ ∃ b, h.who ∈ es ∧ bestOf s h.who = some b ∧ h = ⟨h.who, b.key, b.st, 0⟩ := by
  unfold frs
  rw [List.mem_filterMap]
  constructor
  · rintro ⟨e, he, h1⟩
    obtain ⟨b, hb, rfl⟩ := Option.map_eq_some_iff.mp h1
    exact ⟨b, he, hb, rfl⟩
  · rintro ⟨b, h1, h2, h3⟩
    exact ⟨h.who, h1, by rw [h2]; exact congrArg some h3.symm⟩
theorem mem_kps {fr hs : List Hd} {age : Int} {h : Hd} : h ∈ kps fr hs age ↔ ∃ g ∈ hs, g.who ∉ fr.map Hd.who ∧ g.old < age ∧ h = ⟨g.who, g.key, g.st, g.old + 1⟩ := by
  unfold kps
  simp only [List.mem_map, List.mem_filter, Bool.and_eq_true, Bool.not_eq_true', decide_eq_false_iff_not, decide_eq_true_eq]
  constructor
  · rintro ⟨g, ⟨h1, h2, h3⟩, rfl⟩
    exact ⟨g, h1, h2, h3, rfl⟩
  · rintro ⟨g, h1, h2, h3, rfl⟩
    exact ⟨g, ⟨h1, h2, h3⟩, rfl⟩
theorem kps_who (fr hs : List Hd) (age : Int) : ((kps fr hs age).map Hd.who).Sublist (hs.map Hd.who) := by
  unfold kps
  rw [List.map_map]
  exact (List.filter_sublist (l := hs)).map Hd.who
theorem both_nd {s : List Rw} {es : List Str} {hs : List Hd} {age : Int} (n1 : es.Nodup) (n2 : (hs.map Hd.who).Nodup) : ((frs s es ++ kps (frs s es) hs age).map Hd.who).Nodup := by
  rw [List.map_append, List.nodup_append]
  refine ⟨(frs_who s es).nodup n1, (kps_who _ _ _).nodup n2, fun a ha b hb e => ?_⟩
  obtain ⟨h, hh, rfl⟩ := List.mem_map.mp hb
  obtain ⟨g, _, h2, _, rfl⟩ := mem_kps.mp hh
  exact h2 (e ▸ ha)

theorem who_inj {l : List Hd} (nd : (l.map Hd.who).Nodup) : ∀ {a b : Hd}, a ∈ l → b ∈ l → a.who = b.who → a = b := by
  induction l with
  | nil => intro a b h; simp at h
  | cons x l ih =>
    rw [List.map_cons, List.nodup_cons] at nd
    intro a b ha hb e
    rcases List.mem_cons.mp ha with e1 | ha <;> rcases List.mem_cons.mp hb with e2 | hb
    · rw [e1, e2]
    · exact absurd (by rw [← e1, e]; exact List.mem_map_of_mem hb) nd.1
    · exact absurd (by rw [← e2, ← e]; exact List.mem_map_of_mem ha) nd.1
    · exact ih nd.2 ha hb e
theorem sortH_uniq {l m : List Hd} (nd : (m.map Hd.who).Nodup) (h : l.Pairwise fun a b => leS a.who b.who = true) (p : l.Perm m) : l = sortH m :=
  List.Perm.eq_of_pairwise (fun a b ha hb h1 h2 => who_inj nd (p.mem_iff.mp ha) ((sortH_perm m).mem_iff.mp hb) (leS_anti h1 h2)) h (sortH_pw m) (p.trans (sortH_perm m).symm)
theorem nd_perm {l m : List Hd} (h : ∀ x, x ∈ l ↔ x ∈ m) (n1 : (l.map Hd.who).Nodup) (n2 : (m.map Hd.who).Nodup) : l.Perm m := by
  have a : l.Nodup := (List.pairwise_map.mp n1).imp fun h e => h (by rw [e])
  have b : m.Nodup := (List.pairwise_map.mp n2).imp fun h e => h (by rw [e])
  exact (List.perm_ext_iff_of_nodup a b).mpr h
def offers (most : Int) (l : List Hd) : List Bs := (l.filter fun h => decide (h.st < most)).map fun h => ⟨h.key, h.st + 1, h.who⟩
def bet (b o : Bs) : Bs := if ltV (bsV o) (bsV b) = true then o else b
def minB (b : Bs) (l : List Bs) : Bs := l.foldl bet b
theorem minB_mem : ∀ (l : List Bs) (b : Bs), minB b l = b ∨ minB b l ∈ l
  | [], b => .inl rfl
  | o :: l, b => by
    have e : minB b (o :: l) = minB (bet b o) l := rfl
    rw [e]
    rcases minB_mem l (bet b o) with h | h
    · rw [h]
      unfold bet
      split
      · exact .inr List.mem_cons_self
      · exact .inl rfl
    · exact .inr (List.mem_cons_of_mem _ h)
def own (m : Mb) : Bs := ⟨mkey m, 0, m.name⟩
def heardN (s : List Rw) (ws : List (Str × Str)) (age : Int) (r : Rw) : List Hd := sortH (frs s (oes ws r.name) ++ kps (frs s (oes ws r.name)) r.hs age)
def rowN (s : List Rw) (ws : List (Str × Str)) (most age : Int) (m : Mb) (r : Rw) : Rw := match r.best with
  | none => r
  | some _ => ⟨r.name, some (minB (own m) (offers most (heardN s ws age r))), heardN s ws age r⟩
def rnd (n : Net) (s : List Rw) (ws : List (Str × Str)) (most age : Int) : List Rw := List.zipWith (rowN s ws most age) n.ms s
section
variable {n : Net} {s : List Rw} {ws : List (Str × Str)} {most age : Int}
theorem SOk.len (so : SOk n s) : s.length = n.ms.length := by
  have := congrArg List.length so.nm
  unfold Net.names at this
  rwa [List.length_map, List.length_map] at this
theorem SOk.nd (hn : NOk n) (so : SOk n s) : (s.map Rw.name).Nodup := so.nm ▸ hn.nd
theorem oes_in (w : WOk n.names ws) {x y : Str} (h : y ∈ oes ws x) : y ∈ n.names := w.ends_in ((oes_perm fun u hu => (w.mem u hu).2.2).mem_iff.mp h)
theorem oes_nd (w : WOk n.names ws) (x : Str) : (oes ws x).Nodup := (oes_perm fun u hu => (w.mem u hu).2.2).nodup_iff.mpr (w.ends_nd x)
theorem hd_fr (so : SOk n s) {es : List Str} (he : ∀ x ∈ es, x ∈ n.names) {h : Hd} (hh : h ∈ frs s es) : HdOk n.names h := by
  obtain ⟨b, h1, h2, h3⟩ := mem_frs.mp hh
  have ok := bestOf_ok so h2
  rw [h3]
  exact ⟨ok.key, ok.s0, ok.s1, by show (0 : Int) ≤ 0; omega, by show (0 : Int) ≤ 4; omega, he _ h1⟩
theorem hd_kp {r : Rw} {fr : List Hd} (ro : RwOk n.names r) (a4 : age ≤ 4) {h : Hd} (hh : h ∈ kps fr r.hs age) : HdOk n.names h := by
  obtain ⟨g, h1, _, h3, rfl⟩ := mem_kps.mp hh
  have ok := ro.hs g h1
  exact ⟨ok.key, ok.s0, ok.s1, by have := ok.o0; show (0 : Int) ≤ g.old + 1; omega, by show g.old + 1 ≤ 4; omega, ok.who⟩
theorem row_ok (hn : NOk n) (so : SOk n s) (w : WOk n.names ws) (a4 : age ≤ 4) (m9 : most ≤ 9) {m : Mb} {r : Rw} (hm : m ∈ n.ms) (hr : r ∈ s) : RwOk n.names (rowN s ws most age m r) ∧ (rowN s ws most age m r).name = r.name := by
  have ro := so.row r hr
  unfold rowN
  cases hb : r.best with
  | none => exact ⟨ro, rfl⟩
  | some b =>
    have nd := both_nd (s := s) (age := age) (oes_nd w r.name) ro.nd
    have all : ∀ h ∈ heardN s ws age r, HdOk n.names h := fun h hh => by
      rcases List.mem_append.mp ((sortH_perm _).mem_iff.mp hh) with hh | hh
      · exact hd_fr so (fun x hx => oes_in w hx) hh
      · exact hd_kp ro a4 hh
    refine ⟨⟨fun b' hb' => ?_, all, ((sortH_perm _).map Hd.who).nodup_iff.mpr nd⟩, rfl⟩
    cases hb'
    rcases minB_mem (offers most (heardN s ws age r)) (own m) with e | h
    · rw [e]
      exact ⟨mkey_ok hn hm, by show (0 : Int) ≤ 0; omega, by show (0 : Int) ≤ 9; omega, List.mem_map_of_mem hm⟩
    · obtain ⟨g, hg, e⟩ := List.mem_map.mp h
      obtain ⟨h1, h2⟩ := List.mem_filter.mp hg
      have h2 := of_decide_eq_true h2
      have ok := all g h1
      rw [← e]
      exact ⟨ok.key, by have := ok.s0; show (0 : Int) ≤ g.st + 1; omega, by show g.st + 1 ≤ 9; omega, ok.who⟩
theorem zip_names {f : Mb → Rw → Rw} : ∀ {ms : List Mb} {s : List Rw}, ms.length = s.length → (∀ m ∈ ms, ∀ r ∈ s, (f m r).name = r.name) → (List.zipWith f ms s).map Rw.name = s.map Rw.name
  | [], [], _, _ => rfl
  | m :: ms, r :: s, h, g => by
    rw [List.zipWith_cons_cons, List.map_cons, List.map_cons, g m List.mem_cons_self r List.mem_cons_self, zip_names (by simpa using h) fun m hm r hr => g m (List.mem_cons_of_mem _ hm) r (List.mem_cons_of_mem _ hr)]
theorem rnd_ok (hn : NOk n) (so : SOk n s) (w : WOk n.names ws) (a4 : age ≤ 4) (m9 : most ≤ 9) : SOk n (rnd n s ws most age) := by
  refine ⟨?_, fun q hq => ?_⟩
  · rw [← so.nm]
    exact zip_names so.len.symm fun m hm r hr => (row_ok hn so w a4 m9 hm hr).2
  · unfold rnd at hq
    obtain ⟨i, hi⟩ := List.getElem?_of_mem hq
    rw [List.getElem?_zipWith] at hi
    cases e1 : n.ms[i]? with
    | none => rw [e1] at hi; cases hi
    | some m =>
      cases e2 : s[i]? with
      | none => rw [e1, e2] at hi; cases hi
      | some r =>
        rw [e1, e2] at hi
        cases hi
        exact (row_ok hn so w a4 m9 (List.mem_of_getElem? e1) (List.mem_of_getElem? e2)).1
end
end K57
namespace K57
open PySem PySem.Spec PyProof.Rows L2 G Th AL KL Fr Od
open K37 (fmod_lt p60 p40 TxOk Sh ShL valA_put putA_len merge_app)
open K08 (ws_cut)
section
variable {S : Sto} {Q : Val → Sto → Prop} {x : Str}
theorem in_strs (x : Str) : ∀ ss : List Str, inA (.str x) (ss.map .str) = decide (x ∈ ss)
  | [] => rfl
  | a :: ss => by
    have ih := in_strs x ss
    unfold inA at ih ⊢
    rw [List.map_cons, List.any_cons, ih]
    show (a == x || decide (x ∈ ss)) = _
    by_cases e : a = x
    · simp [e]
    · have e2 : ¬ x = a := fun z => e z.symm
      simp [e, e2]
theorem flat_strs : ∀ ss : List Str, (ss.map Val.str).all flatA = true
  | [] => rfl
  | a :: ss => by rw [List.map_cons, List.all_cons, flat_strs ss]; rfl
theorem vInL {n : Nat} {neg : Bool} {ss : List Str} (h : S[n]? = some (.lst (ss.map .str))) (q : Q (.bl (if neg then !decide (x ∈ ss) else decide (x ∈ ss))) S) : Wp (gIn neg (.str x) (.ref n) S) Q := by
  refine ⟨_, S, ?_, q⟩
  simp only [gIn, gInS, h, flat_strs, in_strs, flatA, Bool.true_and, if_true]
theorem vInD {n : Nat} {neg : Bool} {kvs : List (Key × Val)} (h : S[n]? = some (.dic kvs)) (q : Q (.bl (if neg then !(valA kvs (.inr x)).isSome else (valA kvs (.inr x)).isSome)) S) : Wp (gIn neg (.str x) (.ref n) S) Q := vIn rfl h rfl q
end
end K57
namespace K57
open PySem PySem.Spec PyProof.Rows L2 G Th AL KL Fr Od
open K37 (fmod_lt p60 p40 TxOk Sh ShL valA_put putA_len merge_app)
open K08 (ws_cut)
section
variable {S : Sto} {n : Net} {s : List Rw} {ws : List (Str × Str)} {most age : Int}
theorem SOk.name (so : SOk n s) {i : Nat} (h1 : i < s.length) (h2 : i < n.ms.length) : s[i].name = n.ms[i].name := by
  have := so.nm
  have e : (s.map Rw.name)[i]? = (n.names)[i]? := by rw [this]
  unfold Net.names at e
  rw [List.getElem?_map, List.getElem?_map, List.getElem?_eq_getElem h1, List.getElem?_eq_getElem h2] at e
  exact Option.some.inj e
end
end K57
namespace K57
open PySem PySem.Spec PyProof.Rows L2 G Th AL KL Fr Od
open K37 (fmod_lt p60 p40 TxOk Sh ShL valA_put putA_len merge_app)
open K08 (ws_cut)
section
variable {S : Sto} {Q : Val → Sto → Prop}
theorem Kn.up {S U V : Sto} {r : Nat} (h : Kn S U) (k : Kx r U V) (l : S.length ≤ r) : Kn S V := fun q o hq => k q o (by have := lt_of_at hq; omega) (h q o hq)
theorem pairs_map {α : Type} (f : α → Str) (g : α → Val) : ∀ l : List α, pairsK (l.map fun a => .tup [.str (f a), g a]) = some (l.map fun a => (.inr (f a), g a))
  | [] => rfl
  | a :: l => by
    have ih := pairs_map f g l
    unfold pairsK at ih ⊢
    rw [List.map_cons, mapO, ih]
    rfl
theorem val_map {α : Type} (f : α → Str) (g : α → Val) (x : Str) : ∀ l : List α, valA (l.map fun a => (.inr (f a), g a)) (.inr x) = (l.find? fun a => decide (f a = x)).map g
  | [] => rfl
  | a :: l => by
    have ih := val_map f g x l
    unfold valA at ih ⊢
    rw [List.map_cons, List.find?_cons, List.find?_cons]
    by_cases e : f a = x
    · simp [e]
    · have e2 : ¬ ((Sum.inr (f a) : Key) = .inr x) := fun z => e (Sum.inr.inj z)
      rw [decide_eq_false e, decide_eq_false e2]
      exact ih
theorem nd_inr {α : Type} (f : α → Str) (g : α → Val) {l : List α} (h : (l.map f).Nodup) : ((l.map fun a => ((.inr (f a), g a) : Key × Val)).map (·.1)).Nodup := by
  rw [List.map_map]
  exact List.pairwise_map.mpr ((List.pairwise_map.mp h).imp fun h e => h (Sum.inr.inj e))
structure Kpt (s : List Rw) (D0 : List Hd) (es : List Str) (Ds : List Hd) : Prop where
  nd : (Ds.map Hd.who).Nodup
  mem : ∀ h, h ∈ Ds ↔ h ∈ frs s es ∨ (h ∈ D0 ∧ h.who ∉ (frs s es).map Hd.who)
  len : Ds.length ≤ D0.length + es.length
theorem frs_app (s : List Rw) (es : List Str) (e : Str) : frs s (es ++ [e]) = frs s es ++ (match bestOf s e with | some b => [⟨e, b.key, b.st, 0⟩] | none => []) := by
  unfold frs
  rw [List.filterMap_append]
  congr 1
  cases h : bestOf s e with
  | none => simp [h]
  | some b => simp [h]
theorem Kpt.no {s : List Rw} {D0 Ds : List Hd} {es : List Str} {e : Str} (h : Kpt s D0 es Ds) (hb : bestOf s e = none) : Kpt s D0 (es ++ [e]) Ds := by
  have e1 : frs s (es ++ [e]) = frs s es := by rw [frs_app, hb]; simp
  exact ⟨h.nd, by rw [e1]; exact h.mem, by have := h.len; rw [List.length_append]; omega⟩
def kps0 (hs : List Hd) (age : Int) : List Hd := (hs.filter fun h => decide (h.old < age)).map fun h => ⟨h.who, h.key, h.st, h.old + 1⟩
theorem mem_kps0 {hs : List Hd} {age : Int} {h : Hd} : h ∈ kps0 hs age ↔ ∃ g ∈ hs, g.old < age ∧ h = ⟨g.who, g.key, g.st, g.old + 1⟩ := by
  unfold kps0
  simp only [List.mem_map, List.mem_filter, decide_eq_true_eq]
  constructor
  · rintro ⟨g, ⟨h1, h3⟩, rfl⟩
    exact ⟨g, h1, h3, rfl⟩
  · rintro ⟨g, h1, h3, rfl⟩
    exact ⟨g, ⟨h1, h3⟩, rfl⟩
theorem frs_iff {s : List Rw} {es es' : List Str} (h : ∀ x, x ∈ es ↔ x ∈ es') (z : Hd) : z ∈ frs s es ↔ z ∈ frs s es' := by
  rw [mem_frs, mem_frs]
  exact ⟨fun ⟨b, a, c⟩ => ⟨b, (h _).mp a, c⟩, fun ⟨b, a, c⟩ => ⟨b, (h _).mpr a, c⟩⟩

theorem Kpt.all {s : List Rw} {hs Ds : List Hd} {es es' : List Str} {age : Int} (h : Kpt s (kps0 hs age) es Ds) (e : ∀ x, x ∈ es ↔ x ∈ es') (nd' : es'.Nodup) (ndh : (hs.map Hd.who).Nodup) : sortH Ds = sortH (frs s es' ++ kps (frs s es') hs age) := by
  have fw : ∀ x, x ∈ (frs s es).map Hd.who ↔ x ∈ (frs s es').map Hd.who := fun x => by
    simp only [List.mem_map]
    exact ⟨fun ⟨a, b, c⟩ => ⟨a, (frs_iff e a).mp b, c⟩, fun ⟨a, b, c⟩ => ⟨a, (frs_iff e a).mpr b, c⟩⟩
  refine sortH_uniq (both_nd nd' ndh) (sortH_pw Ds) ((sortH_perm Ds).trans (nd_perm (fun x => ?_) h.nd (both_nd nd' ndh)))
  rw [h.mem, List.mem_append, frs_iff e, fw]
  refine or_congr Iff.rfl ?_
  rw [mem_kps0, mem_kps]
  constructor
  · rintro ⟨⟨g, h1, h2, rfl⟩, h3⟩
    exact ⟨g, h1, h3, h2, rfl⟩
  · rintro ⟨g, h1, h3, h2, rfl⟩
    exact ⟨⟨g, h1, h2, rfl⟩, h3⟩
end
end K57
namespace K57
open PySem PySem.Spec PyProof.Rows L2 G Th AL KL Fr Od
open K37 (fmod_lt p60 p40 TxOk Sh ShL valA_put putA_len merge_app)
open K08 (ws_cut)
section
variable {S : Sto} {n : Net} {s : List Rw} {ws : List (Str × Str)} {most age : Int}
end
end K57
namespace K57
open PySem PySem.Spec PyProof.Rows L2 G Th AL KL Fr Od
open K37 (fmod_lt p60 p40 TxOk Sh ShL valA_put putA_len merge_app)
open K08 (ws_cut)
section
variable {n : Net} {s : List Rw} {ws : List (Str × Str)} {most age : Int}
def itr (n : Net) (ws : List (Str × Str)) (most age : Int) (s : List Rw) : Nat → List Rw
  | 0 => s
  | k + 1 => rnd n (itr n ws most age s k) ws most age
theorem itr_ok (hn : NOk n) (so : SOk n s) (w : WOk n.names ws) (a4 : age ≤ 4) (m9 : most ≤ 9) : ∀ k, SOk n (itr n ws most age s k)
  | 0 => so
  | k + 1 => rnd_ok hn (itr_ok hn so w a4 m9 k) w a4 m9
variable {S : Sto}
end
end K57
namespace K57
open PySem PySem.Spec PyProof.Rows L2 G Th AL KL Fr Od
open K37 (fmod_lt p60 p40 TxOk Sh ShL valA_put putA_len merge_app)
open K08 (ws_cut)
end K57
namespace Bf
section
variable {α : Type} {nb : α → α → Prop} {s x y z : α}

inductive W (nb : α → α → Prop) (s : α) : Nat → α → Prop
  | nil : W nb s 0 s
  | snoc {n : Nat} {x y : α} : W nb s n x → nb x y → W nb s (n + 1) y
theorem W.trans {n : Nat} (h : W nb s n x) : ∀ {m : Nat} {y : α}, W nb x m y → W nb s (n + m) y := by
  intro m y g
  induction g with
  | nil => exact h
  | snoc _ e ih => exact ih.snoc e
theorem W.one (h : nb x y) : W nb x 1 y := .snoc .nil h
theorem W.symm (sy : ∀ a b, nb a b → nb b a) {n : Nat} (h : W nb s n x) : W nb x n s := by
  induction h with
  | nil => exact .nil
  | @snoc n x y _ e ih =>
    have := (W.one (sy _ _ e)).trans ih
    rwa [Nat.add_comm] at this
def Rc (nb : α → α → Prop) (s x : α) : Prop := ∃ n, W nb s n x
theorem Rc.refl : Rc nb s s := ⟨0, .nil⟩
theorem Rc.trans (h : Rc nb s x) (g : Rc nb x y) : Rc nb s y := let ⟨n, a⟩ := h; let ⟨m, b⟩ := g; ⟨n + m, a.trans b⟩
theorem Rc.symm (sy : ∀ a b, nb a b → nb b a) (h : Rc nb s x) : Rc nb x s := let ⟨n, a⟩ := h; ⟨n, a.symm sy⟩

structure BF (nb : α → α → Prop) (s : α) (D : List (α × Nat)) : Prop where
  nd : (D.map (·.1)).Nodup
  st : (s, 0) ∈ D
  wk : ∀ x d, (x, d) ∈ D → W nb s d x
  cl : ∀ x d y, (x, d) ∈ D → nb x y → ∃ e, e ≤ d + 1 ∧ (y, e) ∈ D
theorem at_uniq : ∀ {D : List (α × Nat)} {x : α} {d e : Nat}, (D.map (·.1)).Nodup → (x, d) ∈ D → (x, e) ∈ D → d = e
  | [], _, _, _, _, h, _ => nomatch h
  | p :: D, x, d, e, nd, h, g => by
    rw [List.map_cons, List.nodup_cons] at nd
    have out : ∀ {c : Nat}, (p.1, c) ∈ D → False := fun {c} g => nd.1 (List.mem_map_of_mem (f := (·.1)) g)
    rcases List.mem_cons.mp h with h1 | h1 <;> rcases List.mem_cons.mp g with g1 | g1
    · rw [← h1] at g1
      exact (congrArg Prod.snd g1).symm
    · exact (out (by rw [← h1]; exact g1)).elim
    · exact (out (by rw [← g1]; exact h1)).elim
    · exact at_uniq nd.2 h1 g1
theorem BF.all {D : List (α × Nat)} (h : BF nb s D) {n : Nat} (w : W nb s n x) : ∃ d, d ≤ n ∧ (x, d) ∈ D := by
  induction w with
  | nil => exact ⟨0, Nat.le_refl _, h.st⟩
  | snoc _ e ih =>
    obtain ⟨d, l, m⟩ := ih
    obtain ⟨d', l', m'⟩ := h.cl _ _ _ m e
    exact ⟨d', by omega, m'⟩
theorem BF.le {D : List (α × Nat)} (h : BF nb s D) {n d : Nat} (w : W nb s n x) (m : (x, d) ∈ D) : d ≤ n := by
  obtain ⟨d', l, m'⟩ := h.all w
  rw [at_uniq h.nd m m']
  exact l
theorem BF.mem {D : List (α × Nat)} (h : BF nb s D) : x ∈ D.map (·.1) ↔ Rc nb s x := by
  constructor
  · intro m
    obtain ⟨⟨y, d⟩, m', rfl⟩ := List.mem_map.mp m
    exact ⟨d, h.wk _ _ m'⟩
  · rintro ⟨n, w⟩
    obtain ⟨d, _, m⟩ := h.all w
    exact List.mem_map_of_mem (f := (·.1)) m

theorem BF.zero {D : List (α × Nat)} (h : BF nb s D) (m : (x, 0) ∈ D) : x = s := by
  have w := h.wk _ _ m
  cases w with
  | nil => rfl

structure Qu (nb : α → α → Prop) (s : α) (D : List (α × Nat)) (p : Nat) : Prop where
  nd : (D.map (·.1)).Nodup
  st : (s, 0) ∈ D
  wk : ∀ x d, (x, d) ∈ D → W nb s d x
  so : D.Pairwise fun a b => a.2 ≤ b.2
  le : p ≤ D.length
  hi : ∀ q, D[p]? = some q → ∀ r ∈ D, r.2 ≤ q.2 + 1
  cl : ∀ i x d y, i < p → D[i]? = some (x, d) → nb x y → ∃ e, e ≤ d + 1 ∧ (y, e) ∈ D
theorem Qu.init : Qu nb s [(s, 0)] 0 := ⟨by simp, by simp, fun x d h => by
  rw [List.mem_singleton] at h
  cases h
  exact .nil, by simp, by simp, fun q hq r hr => by
    rw [List.mem_singleton] at hr
    subst hr
    exact Nat.zero_le _, fun i x d y h => absurd h (Nat.not_lt_zero _)⟩
theorem Qu.fin {D : List (α × Nat)} (h : Qu nb s D D.length) : BF nb s D := ⟨h.nd, h.st, h.wk, fun x d y m e => by
  obtain ⟨i, hi⟩ := List.getElem?_of_mem m
  exact h.cl i x d y (List.getElem?_eq_some_iff.mp hi).1 hi e⟩

structure Qi (nb : α → α → Prop) (s : α) (D : List (α × Nat)) (p : Nat) (x : α) (d : Nat) (ys : List α) : Prop where
  at_ : D[p]? = some (x, d)
  nd : (D.map (·.1)).Nodup
  st : (s, 0) ∈ D
  wk : ∀ x d, (x, d) ∈ D → W nb s d x
  so : D.Pairwise fun a b => a.2 ≤ b.2
  hi : ∀ r ∈ D, r.2 ≤ d + 1
  cl : ∀ i x d y, i < p → D[i]? = some (x, d) → nb x y → ∃ e, e ≤ d + 1 ∧ (y, e) ∈ D
  ys : ∀ y ∈ ys, ∃ e, e ≤ d + 1 ∧ (y, e) ∈ D
theorem Qu.open_ {D : List (α × Nat)} {p : Nat} {d : Nat} (h : Qu nb s D p) (e : D[p]? = some (x, d)) : Qi nb s D p x d [] := ⟨e, h.nd, h.st, h.wk, h.so, h.hi _ e, h.cl, fun _ h => nomatch h⟩
theorem Qi.old {D : List (α × Nat)} {p d : Nat} {ys : List α} (h : Qi nb s D p x d ys) (m : y ∈ D.map (·.1)) : Qi nb s D p x d (ys ++ [y]) := ⟨h.at_, h.nd, h.st, h.wk, h.so, h.hi, h.cl, fun z hz => by
  rcases List.mem_append.mp hz with hz | hz
  · exact h.ys z hz
  · rw [List.mem_singleton] at hz
    subst hz
    obtain ⟨⟨z, e⟩, m', rfl⟩ := List.mem_map.mp m
    exact ⟨e, h.hi _ m', m'⟩⟩
theorem Qi.new {D : List (α × Nat)} {p d : Nat} {ys : List α} (h : Qi nb s D p x d ys) (m : y ∉ D.map (·.1)) (e : nb x y) : Qi nb s (D ++ [(y, d + 1)]) p x d (ys ++ [y]) := by
  have lp := (List.getElem?_eq_some_iff.mp h.at_).1
  refine ⟨by rw [List.getElem?_append_left lp]; exact h.at_, ?_, List.mem_append_left _ h.st, fun z c hz => ?_, ?_, fun r hr => ?_, fun i z c u hi hz hn => ?_, fun z hz => ?_⟩
  · rw [List.map_append, List.nodup_append]
    refine ⟨h.nd, by simp, fun a ha b hb => ?_⟩
    simp only [List.map_cons, List.map_nil, List.mem_singleton] at hb
    subst hb
    exact fun q => m (q ▸ ha)
  · rcases List.mem_append.mp hz with hz | hz
    · exact h.wk _ _ hz
    · rw [List.mem_singleton] at hz
      cases hz
      exact (h.wk _ _ (List.mem_of_getElem? h.at_)).snoc e
  · rw [List.pairwise_append]
    refine ⟨h.so, by simp, fun a ha b hb => ?_⟩
    rw [List.mem_singleton] at hb
    subst hb
    exact h.hi a ha
  · rcases List.mem_append.mp hr with hr | hr
    · exact h.hi r hr
    · rw [List.mem_singleton] at hr
      subst hr
      exact Nat.le_refl _
  · rw [List.getElem?_append_left (by omega)] at hz
    obtain ⟨c', l, m⟩ := h.cl i z c u hi hz hn
    exact ⟨c', l, List.mem_append_left _ m⟩
  · rcases List.mem_append.mp hz with hz | hz
    · obtain ⟨c', l, m⟩ := h.ys z hz
      exact ⟨c', l, List.mem_append_left _ m⟩
    · rw [List.mem_singleton] at hz
      subst hz
      exact ⟨d + 1, Nat.le_refl _, by simp⟩
theorem Qi.close {D : List (α × Nat)} {p d : Nat} {ys : List α} (h : Qi nb s D p x d ys) (all : ∀ y, nb x y → y ∈ ys) : Qu nb s D (p + 1) := by
  have lp := (List.getElem?_eq_some_iff.mp h.at_).1
  refine ⟨h.nd, h.st, h.wk, h.so, lp, fun q hq r hr => ?_, fun i z c u hi hz hn => ?_⟩
  · have h1 := h.hi r hr
    have h2 : d ≤ q.2 := by
      obtain ⟨l2, e2⟩ := List.getElem?_eq_some_iff.mp hq
      obtain ⟨l1, e1⟩ := List.getElem?_eq_some_iff.mp h.at_
      have := List.pairwise_iff_getElem.mp h.so p (p + 1) l1 l2 (Nat.lt_succ_self _)
      rw [e1, e2] at this
      exact this
    omega
  · rcases Nat.lt_or_ge i p with c | c
    · exact h.cl i _ _ u c hz hn
    · obtain rfl : i = p := by omega
      rw [h.at_] at hz
      cases hz
      exact h.ys u (all u hn)

structure Lv (nb : α → α → Prop) (s : α) (D : List (α × Nat)) (E : List α) (m : Nat) : Prop where
  nd : (D.map (·.1)).Nodup
  st : (s, 0) ∈ D
  wk : ∀ x d, (x, d) ∈ D → W nb s d x
  hi : ∀ r ∈ D, r.2 ≤ m
  ed : ∀ x, x ∈ E ↔ (x, m) ∈ D
  cl : ∀ x d y, d < m → (x, d) ∈ D → nb x y → ∃ e, e ≤ d + 1 ∧ (y, e) ∈ D
theorem Lv.init : Lv nb s [(s, 0)] [s] 0 := ⟨by simp, by simp, fun x d h => by
  rw [List.mem_singleton] at h
  cases h
  exact .nil, by simp, by simp, fun x d y h => absurd h (Nat.not_lt_zero _)⟩
theorem Lv.fin {D : List (α × Nat)} {m : Nat} (h : Lv nb s D [] m) : BF nb s D := ⟨h.nd, h.st, h.wk, fun x d y hm e => by
  have h1 := h.hi _ hm
  have h2 : d ≠ m := fun z => by
    subst z
    exact nomatch (h.ed x).mpr hm
  have h1 : d ≤ m := h1
  exact h.cl x d y (by omega) hm e⟩

structure Li (nb : α → α → Prop) (s : α) (D : List (α × Nat)) (E : List α) (m : Nat) (M : List α) (xs : List α) (x : α) (ys : List α) : Prop where
  nd : (D.map (·.1)).Nodup
  st : (s, 0) ∈ D
  wk : ∀ x d, (x, d) ∈ D → W nb s d x
  hi : ∀ r ∈ D, r.2 ≤ m + 1
  ed : ∀ x, x ∈ E ↔ (x, m) ∈ D
  mo : ∀ x, x ∈ M ↔ (x, m + 1) ∈ D
  cl : ∀ x d y, d < m → (x, d) ∈ D → nb x y → ∃ e, e ≤ d + 1 ∧ (y, e) ∈ D
  xs : ∀ x ∈ xs, ∀ y, nb x y → y ∈ D.map (·.1)
  ys : ∀ y ∈ ys, nb x y → y ∈ D.map (·.1)
theorem Lv.open_ {D : List (α × Nat)} {E : List α} {m : Nat} (h : Lv nb s D E m) (x : α) : Li nb s D E m [] [] x [] := by
  refine ⟨h.nd, h.st, h.wk, fun r hr => Nat.le_succ_of_le (h.hi r hr), h.ed, fun x => ⟨fun z => (List.not_mem_nil z).elim, fun z => ?_⟩, h.cl, fun _ h => (List.not_mem_nil h).elim, fun _ h => (List.not_mem_nil h).elim⟩
  have : m + 1 ≤ m := h.hi _ z
  omega
theorem Li.old {D : List (α × Nat)} {E M : List α} {m : Nat} {xs ys : List α} (h : Li nb s D E m M xs x ys) (q : nb x y → y ∈ D.map (·.1)) : Li nb s D E m M xs x (ys ++ [y]) := ⟨h.nd, h.st, h.wk, h.hi, h.ed, h.mo, h.cl, h.xs, fun z hz => by
  rcases List.mem_append.mp hz with hz | hz
  · exact h.ys z hz
  · rw [List.mem_singleton] at hz
    subst hz
    exact q⟩
theorem Li.new {D : List (α × Nat)} {E M : List α} {m : Nat} {xs ys : List α} (h : Li nb s D E m M xs x ys) (hx : x ∈ E) (q : y ∉ D.map (·.1)) (e : nb x y) : Li nb s (D ++ [(y, m + 1)]) E m (M ++ [y]) xs x (ys ++ [y]) := by
  have up : ∀ z, z ∈ D.map (·.1) → z ∈ (D ++ [(y, m + 1)]).map (·.1) := fun z hz => by rw [List.map_append]; exact List.mem_append_left _ hz
  refine ⟨?_, List.mem_append_left _ h.st, fun z c hz => ?_, fun r hr => ?_, fun z => ?_, fun z => ?_, fun z c u hc hz hn => ?_, fun z hz u hu => up _ (h.xs z hz u hu), fun z hz hu => ?_⟩
  · rw [List.map_append, List.nodup_append]
    refine ⟨h.nd, by simp, fun a ha b hb => ?_⟩
    simp only [List.map_cons, List.map_nil, List.mem_singleton] at hb
    subst hb
    exact fun z => q (z ▸ ha)
  · rcases List.mem_append.mp hz with hz | hz
    · exact h.wk _ _ hz
    · rw [List.mem_singleton] at hz
      cases hz
      exact (h.wk _ _ ((h.ed x).mp hx)).snoc e
  · rcases List.mem_append.mp hr with hr | hr
    · exact h.hi r hr
    · rw [List.mem_singleton] at hr
      subst hr
      exact Nat.le_refl _
  · rw [h.ed z, List.mem_append, List.mem_singleton]
    exact ⟨.inl, fun g => g.elim id fun z => by cases z⟩
  · rw [List.mem_append, h.mo z, List.mem_append, List.mem_singleton, List.mem_singleton]
    exact ⟨fun g => g.imp id fun z => by rw [z], fun g => g.imp id fun z => (Prod.mk.inj z).1⟩
  · rcases List.mem_append.mp hz with hz | hz
    · obtain ⟨c', l, m⟩ := h.cl z c u hc hz hn
      exact ⟨c', l, List.mem_append_left _ m⟩
    · rw [List.mem_singleton] at hz
      cases hz
      omega
  · rcases List.mem_append.mp hz with hz | hz
    · exact up _ (h.ys z hz hu)
    · rw [List.mem_singleton] at hz
      subst hz
      simp
theorem Li.next {D : List (α × Nat)} {E M : List α} {m : Nat} {xs ys : List α} (h : Li nb s D E m M xs x ys) (all : ∀ y, nb x y → y ∈ ys) (x' : α) : Li nb s D E m M (xs ++ [x]) x' [] := ⟨h.nd, h.st, h.wk, h.hi, h.ed, h.mo, h.cl, fun z hz u hu => by
  rcases List.mem_append.mp hz with hz | hz
  · exact h.xs z hz u hu
  · rw [List.mem_singleton] at hz
    subst hz
    exact h.ys u (all u hu) hu, fun _ h => nomatch h⟩
theorem Li.close {D : List (α × Nat)} {E M : List α} {m : Nat} {xs ys : List α} (h : Li nb s D E m M xs x ys) (all : ∀ z ∈ E, z ∈ xs) : Lv nb s D M (m + 1) := ⟨h.nd, h.st, h.wk, h.hi, h.mo, fun z c u hc hz hn => by
  rcases Nat.lt_or_ge c m with l | l
  · exact h.cl z c u l hz hn
  · obtain rfl : c = m := by omega
    have := h.xs z (all z ((h.ed z).mpr hz)) u hn
    obtain ⟨⟨u', e⟩, m', rfl⟩ := List.mem_map.mp this
    exact ⟨e, h.hi _ m', m'⟩⟩
end
end Bf
namespace K13
open PySem PySem.Spec PyProof.Rows L2 G Th AL
open K37 (common_divisor_ common_divisor_B ratio_ ratio_B less_ less_B parted_ parted_B drift_of_ drift_of_B moves_into_ moves_into_B history_moves_ history_moves_B)

end K13
namespace K13
open PySem PySem.Spec PyProof.Rows L2 G Th AL K37 KL Fr
open K08 (F8 Sc wAt)
theorem wDspP {ρ : Rho} {S : Sto} {ga : AF} {Q : Val → Sto → Prop} {vs : List Val} {kvs : List (Key × Val)} (h : ∀ T, Wp (ga ρ T) fun ws T' => ws = vs ∧ T' = T) (hk : pairUp vs = some kvs) (h15 : kvs.length ≤ 15) (q : Nw S (.dic (mergeA [] kvs)) Q) : Wp (eDsp ga ρ S) Q := by
  obtain ⟨ws, T, e, rfl, rfl⟩ := h (S ++ [.dic []])
  refine ⟨.ref S.length, S ++ [.dic (mergeA [] kvs)], ?_, q.use⟩
  unfold eDsp
  rw [e]
  have z : (S ++ [Ob.dic []])[S.length]? = some (.dic []) := by simp
  simp only [Option.bind_some, hk, z]
  rw [if_pos h15]
  simp
theorem at_last {xs : List Val} {v : Val} : atI (xs ++ [v]) (-1) = some v := by
  have e : ixN (xs ++ [v]).length (-1) = some xs.length := by
    unfold ixN
    simp
    omega
  unfold atI
  rw [e]
  simp
def Stp (es : List Ev) (a b : Nat) : Prop := (es.getD b dEv).deed = .hear a ∨ lastAt es b (es.getD b dEv).name = some a
inductive Rch (es : List Ev) (x : Nat) : Nat → Prop
  | refl : Rch es x x
  | step {a b : Nat} : Rch es x a → Stp es a b → Rch es x b
section
variable {fl : Fl} {es : List Ev} {ws : List Fq} {x a b k : Nat}
theorem stp_lt (ok : ∀ i, i < es.length → RowOk fl es i) (hb : b < es.length) (h : Stp es a b) : a < b := by
  rcases h with h | h
  · exact ((ok b hb).d a h).2
  · exact lastAt_lt h
theorem stp_row (ok : RowOk fl es b) (h : Stp es a b) : ∃ m ∈ row fl es b, m.x = a := by
  unfold row movesInto
  rcases h with h | h
  · obtain ⟨⟨kl, l, lk, h1, h2⟩, _⟩ := ok.d a h
    have e : linkAt fl es a = some lk := by unfold linkAt; rw [h1]; exact h2
    refine ⟨⟨a, lk.least, lk.most⟩, List.mem_append_right _ ?_, rfl⟩
    rw [h, mv2, e]
    simp
  · obtain ⟨_, ⟨hs, hd, _⟩, _⟩ := ok.l a h
    refine ⟨⟨a, Fr.div (Fr.sub (es.getD b dEv).stamp (es.getD a dEv).stamp) hs.fast, some (Fr.div (Fr.sub (es.getD b dEv).stamp (es.getD a dEv).stamp) hs.slow)⟩, List.mem_append_left _ ?_, rfl⟩
    unfold mv1
    rw [h, hd]
    simp
theorem rch_ge (ok : ∀ i, i < es.length → RowOk fl es i) : ∀ {b}, b < es.length → Rch es x b → x ≤ b ∧ (b = x ∨ ∃ a, Rch es x a ∧ Stp es a b ∧ a < b ∧ x ≤ a) := by
  intro b hb h
  induction h with
  | refl => exact ⟨Nat.le_refl _, .inl rfl⟩
  | step h1 h2 ih =>
    have lt := stp_lt ok hb h2
    have := (ih (by omega)).1
    exact ⟨by omega, .inr ⟨_, h1, h2, lt, this⟩⟩
end
end K13
namespace K60
open PySem PySem.Spec PyProof.Rows L2 G Th AL KL Fr Od Bf
open K57 (feedL_ feedL_B drawL_ drawL_B endsL_ endsL_B)
open K57 (wireV Mb mbV Net pool WOk NOk NmOk endsL ends oes oes_perm mem_endsL endsL_wp keyV mkey own bsV vInL vInD pairs_map val_map nd_inr nd_len tl sortS_perm sortS_pw oes_in oes_nd)
open K37 (fmod_lt p60 p40 TxOk Sh ShL valA_put putA_len merge_app)
open K08 (ws_cut)
def nbl (ws : List (Str × Str)) (up : List Str) (x : Str) : List Str := (oes ws x).filter fun y => decide (y ∈ up)
def Nb (ws : List (Str × Str)) (up : List Str) (x y : Str) : Prop := y ∈ up ∧ y ∈ endsL ws x

structure UOk (n : Net) (up : List Str) (ws : List (Str × Str)) : Prop where
  sub : up.Sublist n.names
  w : WOk n.names ws
theorem nm_tx {x : Str} (h : NmOk x) : TxOk x := h
section
variable {n : Net} {up : List Str} {ws : List (Str × Str)} {S : Sto} {x y s : Str}
theorem UOk.nd (hn : NOk n) (u : UOk n up ws) : up.Nodup := u.sub.nodup hn.nd
theorem UOk.len (hn : NOk n) (u : UOk n up ws) : up.length ≤ 8 := by
  have := u.sub.length_le
  have h := hn.len
  unfold Net.names at this
  rw [List.length_map] at this
  omega
theorem UOk.nm (hn : NOk n) (u : UOk n up ws) (h : x ∈ up) : NmOk x := hn.nm (u.sub.subset h)
theorem UOk.oes (u : UOk n up ws) (x : Str) : (oes ws x).Perm (endsL ws x) := oes_perm fun v hv => (u.w.mem v hv).2.2
theorem nb_symm (hx : x ∈ up) (h : Nb ws up x y) : Nb ws up y x := ⟨hx, by
  have := h.2
  rw [mem_endsL] at this ⊢
  exact this.symm⟩
theorem putA_no {kvs : List (Key × Val)} {k : Key} {v : Val} (h : k ∉ kvs.map (·.1)) : putA kvs k v = kvs ++ [(k, v)] := by
  unfold putA
  rw [if_neg]
  intro z
  obtain ⟨q, hq, e⟩ := List.any_eq_true.mp z
  exact h (List.mem_map.mpr ⟨q, hq, of_decide_eq_true e⟩)
theorem valA_at : ∀ {kvs : List (Key × Val)} {k : Key} {v : Val}, (kvs.map (·.1)).Nodup → (k, v) ∈ kvs → valA kvs k = some v
  | [], _, _, _, h => nomatch h
  | p :: kvs, k, v, nd, h => by
    rw [List.map_cons, List.nodup_cons] at nd
    unfold valA
    by_cases e : p.1 = k
    · have : p = (k, v) := by
        rcases List.mem_cons.mp h with h | h
        · exact h.symm
        · exact absurd (List.mem_map.mpr ⟨_, h, rfl⟩) (e ▸ nd.1)
      rw [List.find?_cons, show decide (p.1 = k) = true from decide_eq_true e, this]
      rfl
    · rw [List.find?_cons, show decide (p.1 = k) = false from decide_eq_false e]
      refine valA_at nd.2 ?_
      rcases List.mem_cons.mp h with h | h
      · exact absurd (congrArg Prod.fst h).symm e
      · exact h
theorem valA_no {kvs : List (Key × Val)} {k : Key} (h : k ∉ kvs.map (·.1)) : valA kvs k = none := by
  unfold valA
  rw [List.find?_eq_none.mpr]
  · rfl
  · intro q hq e
    exact h (List.mem_map.mpr ⟨q, hq, of_decide_eq_true e⟩)
structure Nr (S : Sto) (d : Nat) (ws : List (Str × Str)) (up : List Str) : Prop where
  dic : ∃ kvs, S[d]? = some (.dic kvs) ∧ ∀ x ∈ up, ∃ r, valA kvs (.inr x) = some (.ref r) ∧ S[r]? = some (.lst ((K60.nbl ws up x).map .str))
theorem Nr.kn {T : Sto} {d : Nat} (h : Nr S d ws up) (k : Kn S T) : Nr T d ws up := by
  obtain ⟨kvs, h1, h2⟩ := h.dic
  refine ⟨kvs, k _ _ h1, fun x hx => ?_⟩
  obtain ⟨r, e, g⟩ := h2 x hx
  exact ⟨r, e, k _ _ g⟩
theorem vInT {neg : Bool} {Q : Val → Sto → Prop} (q : Q (.bl (if neg then !decide (x ∈ up) else decide (x ∈ up))) S) : Wp (gIn neg (.str x) (.tup (up.map .str)) S) Q := by
  refine ⟨_, S, ?_, q⟩
  simp only [gIn, gInS, K57.flat_strs, K57.in_strs, flatA, Bool.true_and, Bool.and_true, Bool.and_self, if_true]
end
end K60
namespace K47
open PySem PySem.Spec PyProof.Rows L2 G Th AL K37 KL Fr
def lowOk (p : Pr) (x : Fq) : Bool := match p.1 with
  | none => true
  | some l => !decide (x.1 * l.2 < l.1 * x.2)
def highOk (p : Pr) (x : Fq) : Bool := match p.2 with
  | none => true
  | some h => !decide (h.1 * x.2 < x.1 * h.2)
def isIn (p : Pr) (x : Fq) : Bool := lowOk p x && highOk p x
structure SpOk (p : Pr) : Prop where
  lo : ∀ l, p.1 = some l → Bd l
  hi : ∀ h, p.2 = some h → Bd h
def count (ps : List Pr) (x : Fq) : Nat := (ps.filter fun p => isIn p x).length
def opens (b : Bool) (ps : List Pr) : Nat := (ps.filter fun p => (sel b p).isNone).length
def most (ps : List Pr) : Int := maxI (opens false ps : Nat) ((ps.filterMap (sel false)).map fun e => (count ps e : Int))
end K47
namespace K47
open PySem PySem.Spec PyProof.Rows L2 G Th AL K37 KL Fr
section
variable {S : Sto} {Q : Val → Sto → Prop}
theorem shL_shaped {n w : Nat} {vs : List Val} (h : ShL n w vs) (hn : n < 39) {a : Nat} (ha : S[a]? = some (.lst vs)) : ∃ ds, toD S 40 (.ref a) = some (.list ds) ∧ SeqAt.shaped (.list ds) = true ∧ mapO (toD S 39) vs = some ds := by
  obtain ⟨ds, o1, o2, o3, o4⟩ := h
  have e := o4 S 39 (by omega)
  have dl : toD S 40 (.ref a) = some (.list ds) := by
    rw [show (40 : Nat) = 39 + 1 from rfl, toD]
    simp only [ha, e, Option.map_some]
  refine ⟨ds, dl, ?_, e⟩
  have c := (ok_showAll ds o1).2.2.1
  show (PyData.canLayAll0 ds && decide ((PyData.list ds).depth ≤ 64)) = true
  rw [c, decide_eq_true (by simp only [PyData.depth]; omega)]
  rfl
theorem mapO_len {f : Val → Option PyData} : ∀ {vs : List Val} {ds : List PyData}, mapO f vs = some ds → ds.length = vs.length
  | [], _, h => by cases h; rfl
  | v :: vs, ds, h => by
    simp only [mapO] at h
    obtain ⟨b, _, h⟩ := Option.bind_eq_some_iff.mp h
    obtain ⟨bs, h2, h⟩ := Option.bind_eq_some_iff.mp h
    cases h
    rw [List.length_cons, List.length_cons, mapO_len h2]
theorem eqv_nil {ds : List PyData} : PyData.eqv (.list ds) (.list []) = ds.isEmpty := by
  cases ds <;> rfl
theorem empty_len {α β : Type} {xs : List α} {ys : List β} (h : xs.length = ys.length) : xs.isEmpty = ys.isEmpty := by
  cases xs <;> cases ys <;> first | rfl | cases h
theorem vNeNilL {n w a b : Nat} {x y : Val} {vs : List Val} (h : ShL n w vs) (hn : n < 39) (hx : x = .ref a) (hy : y = .ref b) (ha : S[a]? = some (.lst vs)) (hb : S[b]? = some (.lst [])) (q : Q (.bl (!vs.isEmpty)) S) : Wp (gNe x y S) Q := by
  subst hx hy
  obtain ⟨ds, e1, e2, e3⟩ := shL_shaped h hn ha
  obtain ⟨_, f1, f2, f3⟩ := shL_shaped (S := S) (ShL.nil (n := 0) (w := 0)) (by decide) hb
  cases f3
  refine ⟨_, _, ?_, q⟩
  simp only [gNe, eqA, eqS, e1, f1, e2, f2, and_self, if_true, Option.map_some, eqv_nil, empty_len (mapO_len e3)]
end
end K47
namespace K60
open PySem PySem.Spec PyProof.Rows L2 G Th AL KL Fr Od Bf
open K57 (feedL_ feedL_B drawL_ drawL_B endsL_ endsL_B)
open K57 (wireV Mb mbV Net pool WOk NOk NmOk endsL ends oes oes_perm mem_endsL endsL_wp keyV mkey own bsV vInL vInD pairs_map val_map nd_inr nd_len tl sortS_perm sortS_pw oes_in oes_nd K2)
open K37 (fmod_lt p60 p40 TxOk Sh ShL valA_put putA_len merge_app)
open K08 (ws_cut)
open K13 (wDspP)
open K47 (vNeNilL)
def dK (D : List (Str × Nat)) : List (Key × Val) := D.map fun p => (.inr p.1, .int ((p.2 : Nat) : Int))
theorem dK_keys (D : List (Str × Nat)) : (dK D).map (·.1) = (D.map (·.1)).map Sum.inr := by
  unfold dK
  rw [List.map_map, List.map_map]
  rfl
theorem dK_nd {D : List (Str × Nat)} (nd : (D.map (·.1)).Nodup) : ((dK D).map (·.1)).Nodup := by
  rw [dK_keys]
  exact List.Pairwise.map _ (fun a b h z => h (Sum.inr.inj z)) nd
theorem dK_at {D : List (Str × Nat)} (nd : (D.map (·.1)).Nodup) {x : Str} {d : Nat} (h : (x, d) ∈ D) : valA (dK D) (.inr x) = some (.int ((d : Nat) : Int)) := valA_at (dK_nd nd) (List.mem_map.mpr ⟨_, h, rfl⟩)
theorem dK_in {D : List (Str × Nat)} (nd : (D.map (·.1)).Nodup) (x : Str) : (valA (dK D) (.inr x)).isSome = decide (x ∈ D.map (·.1)) := by
  by_cases h : x ∈ D.map (·.1)
  · obtain ⟨⟨y, d⟩, hd, rfl⟩ := List.mem_map.mp h
    rw [dK_at nd hd]
    simp [h]
  · rw [valA_no]
    · simp [h]
    · rw [dK_keys]
      intro z
      obtain ⟨y, hy, e⟩ := List.mem_map.mp z
      cases e
      exact h hy
theorem dK_put {D : List (Str × Nat)} {x : Str} {d : Nat} (h : x ∉ D.map (·.1)) : putA (dK D) (.inr x) (.int ((d : Nat) : Int)) = dK (D ++ [(x, d)]) := by
  rw [putA_no]
  · unfold dK
    rw [List.map_append]
    rfl
  · rw [dK_keys]
    intro z
    obtain ⟨y, hy, e⟩ := List.mem_map.mp z
    cases e
    exact h hy
theorem dK_len (D : List (Str × Nat)) : (dK D).length = D.length := List.length_map ..
section
variable {n : Net} {up : List Str} {ws : List (Str × Str)} {S : Sto} {x y s : Str}
theorem keys_len {D : List (Str × Nat)} (nd : (D.map (·.1)).Nodup) (su : ∀ x ∈ D.map (·.1), x ∈ up) (u8 : up.length ≤ 8) : D.length ≤ 8 := by
  have := nd_len nd su
  rw [List.length_map] at this
  omega
theorem sub_snoc {D : List (Str × Nat)} {d : Nat} (su : ∀ x ∈ D.map (·.1), x ∈ up) (hy : y ∈ up) : ∀ x ∈ (D ++ [(y, d)]).map (·.1), x ∈ up := fun x hx => by
  rw [List.map_append] at hx
  rcases List.mem_append.mp hx with hx | hx
  · exact su x hx
  · simp only [List.map_cons, List.map_nil, List.mem_singleton] at hx
    exact hx ▸ hy
def esz : Option Ob → Nat
  | some (.lst []) => 0
  | _ => 1
theorem sh_names (hn : NOk n) (u : UOk n up ws) : ∀ {E : List Str}, (∀ x ∈ E, x ∈ up) → ShL 0 (9 * E.length) (E.map .str) := fun {E} h => ShL.map (f := Val.str) E fun x hx => Sh.str (nm_tx (u.nm hn (h x hx)))
theorem far_wp (hn : NOk n) (u : UOk n up ws) (hs : s ∈ up) :
    Wp (farL_ [.tup (up.map .str), .tup (ws.map wireV), .str s] S) fun v U => ∃ r D, v = .ref r ∧ U[r]? = some (.dic (dK D)) ∧ BF (Nb ws up) s D ∧ (∀ x ∈ D.map (·.1), x ∈ up) ∧ Kn S U ∧ S.length ≤ r := by
  have u8 := u.len hn
  refine AL.wf ?_; simp only [List.map_cons, List.map_nil, List.length_cons, List.length_nil, Nat.reduceAdd, Nat.reduceSub, List.replicate_succ, List.replicate_zero, List.cons_append, List.nil_append]; unfold farL_B; array_get_dec
  refine wDspP (vs := [.str s, .int 0]) (kvs := [(.inr s, .int 0)]) (fun T => ?_) rfl (by simp) ?_
  · array_get_dec
    exact ⟨rfl, rfl⟩
  intro S1 rd e_rd l_S1 g_rd k_S1
  have gd1 : S1[rd]? = some (.dic (dK [(s, 0)])) := g_rd
  array_get_dec
  intro S2 re e_re l_S2 g_re k_S2
  have gd2 := k_S2 _ _ gd1
  have ge2 : S2[re]? = some (.lst (([s] : List Str).map .str)) := g_re
  have l1 : rd < S1.length := lt_of_at gd1
  have l0 : S.length ≤ rd := by omega
  have kn2 : Kn S S2 := k_S1.trans k_S2
  array_get_dec
  refine ws_while (fun ρ T => match T[rd]?, ρ with | some (.dic kvs), [_, _, _, _, some (.ref re), _, _, _, _] => 2 * (8 - kvs.length) + esz T[re]? | _, _ => 0)
    (fun ρ T => ∃ (a6 a7 a8 : Option Val) (D : List (Str × Nat)) (E : List Str) (m re : Nat), ρ = [some (.tup (up.map .str)), some (.tup (ws.map wireV)), some (.str s), some (.ref rd), some (.ref re), some (.int (m : Nat)), a6, a7, a8] ∧ T[rd]? = some (.dic (dK D)) ∧ T[re]? = some (.lst (E.map .str)) ∧ Lv (Nb ws up) s D E m ∧ (∀ x ∈ D.map (·.1), x ∈ up) ∧ Kn S T ∧ re ≠ rd ∧ E.length ≤ D.length)
    ⟨none, none, none, [(s, 0)], [s], 0, re, rfl, gd2, ge2, Lv.init, by simpa using hs, kn2, by omega, by simp⟩ ?_
  rintro _ T ⟨a6, a7, a8, D, E, m, re, rfl, gd, ge, q, su, kT, ne, lE⟩
  have D8 := keys_len q.nd su u8
  have eu : ∀ x ∈ E, x ∈ up := fun x hx => su x (List.mem_map.mpr ⟨_, (q.ed x).mp hx, rfl⟩)
  array_get_dec
  intro T1 r0 e_r0 l_T1 g_r0 k_T1
  refine vNeNilL (sh_names hn u eu) (by decide) rfl rfl (k_T1 _ _ ge) g_r0 ?_
  refine tb rfl (Br.of (fun c => ?_) (fun c => ?_))
  · have eN : E ≠ [] := by
      intro z
      subst z
      cases c
    have ez : esz T[re]? = 1 := by
      rw [ge]
      cases E with
      | nil => exact absurd rfl eN
      | cons a b => rfl
    array_get_dec
    intro T2 rm e_rm l_T2 g_rm k_T2
    have gd2 : T2[rd]? = some (.dic (dK D)) := k_T2 _ _ (k_T1 _ _ gd)
    have ge2 : T2[re]? = some (.lst (E.map .str)) := k_T2 _ _ (k_T1 _ _ ge)
    have kn2 : Kn S T2 := kT.trans (k_T1.trans k_T2)
    have lrd := lt_of_at gd
    have lre := lt_of_at ge
    have ll : T.length ≤ T1.length := by omega
    array_get_dec
    rw [show ((m : Nat) : Int) + 1 = ((m + 1 : Nat) : Int) by omega]
    refine .inr ⟨re, _, rfl, ge2, ?_⟩
    refine ws_loop (fun i ρ U => ∃ (a6 a8 : Option Val) (D' : List (Str × Nat)) (M : List Str), ρ = [some (.tup (up.map .str)), some (.tup (ws.map wireV)), some (.str s), some (.ref rd), some (.ref re), some (.int ((m + 1 : Nat) : Int)), a6, some (.ref rm), a8] ∧ U[rd]? = some (.dic (dK D')) ∧ U[rm]? = some (.lst (M.map .str)) ∧ (∀ x, Li (Nb ws up) s D' E m M (E.take i) x []) ∧ (∀ x ∈ D'.map (·.1), x ∈ up) ∧ K2 rd rm T2 U ∧ D'.length = D.length + M.length)
      ⟨_, _, D, [], rfl, gd2, g_rm, fun x => by rw [List.take_zero]; exact q.open_ x, su, K2.refl _, rfl⟩ (fun i ρ U _ ⟨_, _, _, _, _, _, _, _, _, k, _⟩ => k _ _ (by omega) (by omega) ge2) ?_ ?_
    · rintro i v ρ U hv ⟨a6, a8, D', M, rfl, gd', gm', li, su', kU, lM⟩
      rw [List.getElem?_map] at hv
      obtain ⟨x, hx, rfl⟩ := Option.map_eq_some_iff.mp hv
      obtain ⟨lt, ex⟩ := List.getElem?_eq_some_iff.mp hx
      have tk : E.take (i + 1) = E.take i ++ [x] := by rw [List.take_succ_eq_append_getElem lt, ex]
      have xE := List.mem_of_getElem? hx
      refine bn rfl ?_
      array_get_dec
      refine (endsL_wp u.w.len).imp ?_
      rintro _ U1 ⟨r, rfl, g1, k1, lr⟩
      refine .inr ⟨r, _, rfl, g1, ?_⟩
      have ld' := lt_of_at gd'
      have lm' := lt_of_at gm'
      refine ws_loop (fun j ρ V => ∃ (a8 : Option Val) (D' : List (Str × Nat)) (M : List Str), ρ = [some (.tup (up.map .str)), some (.tup (ws.map wireV)), some (.str s), some (.ref rd), some (.ref re), some (.int ((m + 1 : Nat) : Int)), some (.str x), some (.ref rm), a8] ∧ V[rd]? = some (.dic (dK D')) ∧ V[rm]? = some (.lst (M.map .str)) ∧ Li (Nb ws up) s D' E m M (E.take i) x ((ends ws x).take j) ∧ (∀ x ∈ D'.map (·.1), x ∈ up) ∧ K2 rd rm U1 V ∧ D'.length = D.length + M.length)
        ⟨_, D', M, rfl, k1 _ _ gd', k1 _ _ gm', by rw [List.take_zero]; exact li x, su', K2.refl _, lM⟩ (fun i ρ V _ ⟨_, _, _, _, _, _, _, _, k, _⟩ => k _ _ (by omega) (by omega) g1) ?_ ?_
      · rintro j v ρ V hv ⟨a8, D', M, rfl, gd', gm', li, su', kV, lM⟩
        rw [List.getElem?_map] at hv
        obtain ⟨y, hy, rfl⟩ := Option.map_eq_some_iff.mp hv
        obtain ⟨lt, ey⟩ := List.getElem?_eq_some_iff.mp hy
        have tk : (ends ws x).take (j + 1) = (ends ws x).take j ++ [y] := by rw [List.take_succ_eq_append_getElem lt, ey]
        have yE : y ∈ endsL ws x := (sortS_perm _).mem_iff.mp (List.mem_of_getElem? hy)
        have D8' := keys_len li.nd su' u8
        refine bn rfl ?_
        array_get_dec
        refine vInT ?_
        array_get_dec
        refine Br.of (fun c => ?_) (fun c => ?_)
        · have yu : y ∈ up := by
            have c : decide (y ∈ up) = true := c
            exact of_decide_eq_true c
          array_get_dec
          refine vInD gd' ?_
          array_get_dec
          have e0 : (!(valA (dK D') (.inr y)).isSome) = !decide (y ∈ D'.map (·.1)) := by rw [dK_in li.nd]
          refine Br.of (fun c => ?_) (fun c => ?_)
          · have c : (!(valA (dK D') (.inr y)).isSome) = true := c
            rw [e0] at c
            have nin : y ∉ D'.map (·.1) := by simpa using c
            array_get_dec
            refine vPut gd' rfl ?_ (small (by rw [dK_len]; omega))
            rw [dK_put nin]
            intro V1 l_V1 g_V1 k_V1
            array_get_dec
            refine vApp rfl (k_V1 _ _ (by omega) gm') ?_ (small (by rw [List.length_map]; omega))
            intro V2 l_V2 g_V2 k_V2
            refine ⟨_, D' ++ [(y, m + 1)], M ++ [y], rfl, k_V2 _ _ (by omega) g_V1, by rw [g_V2, List.map_append]; rfl, by rw [tk]; exact li.new xE nin ⟨yu, yE⟩, sub_snoc su' yu, kV.trans ((K2.kx k_V1).trans (K2.ky k_V2)), by simp; omega⟩
          · have c : (!(valA (dK D') (.inr y)).isSome) = false := c
            rw [e0] at c
            have yin : y ∈ D'.map (·.1) := by simpa using c
            array_get_dec
            exact ⟨_, D', M, rfl, gd', gm', by rw [tk]; exact li.old fun _ => yin, su', kV, lM⟩
        · have yu : y ∉ up := by
            have c : decide (y ∈ up) = false := c
            exact of_decide_eq_false c
          array_get_dec
          exact ⟨_, D', M, rfl, gd', gm', by rw [tk]; exact li.old fun h => absurd h.1 yu, su', kV, lM⟩
      · rintro ρ V ⟨a8, D', M, rfl, gd', gm', li, su', kV, lM⟩
        rw [List.length_map, List.take_length] at li
        exact ⟨_, _, D', M, rfl, gd', gm', fun x' => by rw [tk]; exact li.next (fun y hy => (sortS_perm _).mem_iff.mpr hy.2) x', su', kU.trans ((K2.kn k1).trans kV), lM⟩
    · rintro ρ U ⟨a6, a8, D', M, rfl, gd', gm', li, su', kU, lM⟩
      rw [List.length_map, List.take_length] at li
      have D8' := keys_len (li s).nd su' u8
      array_get_dec
      refine ⟨⟨_, _, _, D', M, m + 1, rm, rfl, gd', gm', (li s).close fun _ h => h, su', fun k o ho => ?_, by omega, by omega⟩, ?_⟩
      · have := lt_of_at ho
        have h2 := kn2 k o ho
        have := lt_of_at (kT k o ho)
        exact kU k o (by omega) (by omega) h2
      · simp only [gd', gd, gm', ez, dK_len]
        cases M with
        | nil =>
          have e1 : esz (some (.lst (List.map Val.str []))) = 0 := rfl
          rw [e1]
          simp at lM
          omega
        | cons a b =>
          have e1 : esz (some (.lst (List.map Val.str (a :: b)))) = 1 := rfl
          rw [e1]
          simp at lM
          omega
  · have eN : E = [] := by
      cases E with
      | nil => rfl
      | cons a b => cases c
    subst eN
    array_get_dec
    exact ⟨rd, D, rfl, k_T1 _ _ gd, q.fin, su, kT.trans k_T1, l0⟩
end
end K60
namespace K60
open PySem PySem.Spec PyProof.Rows L2 G Th AL KL Fr Od Bf
open K57 (feedL_ feedL_B drawL_ drawL_B endsL_ endsL_B)
open K57 (wireV Mb mbV Net pool WOk NOk NmOk endsL ends oes oes_perm mem_endsL endsL_wp keyV mkey own bsV vInL vInD pairs_map val_map nd_inr nd_len tl tl_asym sortS_perm sortS_pw oes_in oes_nd K2 vSortGS)
open K37 (fmod_lt p60 p40 TxOk Sh ShL valA_put putA_len merge_app)
open K08 (ws_cut)
section
variable {n : Net} {up : List Str} {ws : List (Str × Str)} {S : Sto} {x y s : Str}
open Classical in
noncomputable def piece (ws : List (Str × Str)) (up : List Str) (x : Str) : List Str := up.filter fun y => decide (Rc (Nb ws up) x y)
theorem mem_piece : y ∈ piece ws up x ↔ y ∈ up ∧ Rc (Nb ws up) x y := by
  unfold piece
  rw [List.mem_filter]
  simp
theorem UOk.pw (hn : NOk n) (u : UOk n up ws) : up.Pairwise fun a b => leS a b = true := by
  have := sortS_pw n.names
  rw [hn.nsrt] at this
  exact this.sublist u.sub
theorem rc_up (hx : x ∈ up) (h : Rc (Nb ws up) x y) : y ∈ up := by
  obtain ⟨k, w⟩ := h
  cases w with
  | nil => exact hx
  | snoc _ e => exact e.1
theorem rc_symm (hx : x ∈ up) (h : Rc (Nb ws up) x y) : Rc (Nb ws up) y x := by
  obtain ⟨k, w⟩ := h
  have key : ∀ {k : Nat} {y : Str}, W (Nb ws up) x k y → W (Nb ws up) y k x := fun {k y} w => by
    induction w with
    | nil => exact .nil
    | @snoc k a b w e ih =>
      have au : a ∈ up := rc_up hx ⟨k, w⟩
      have := (W.one (nb_symm au e)).trans ih
      rwa [Nat.add_comm] at this
  exact ⟨k, key w⟩
def lead (ws : List (Str × Str)) (up : List Str) (x : Str) : Prop := ∀ y ∈ up, Rc (Nb ws up) x y → leS x y = true
open Classical in
noncomputable def leads (ws : List (Str × Str)) (up l : List Str) : List Str := l.filter fun x => decide (lead ws up x)
end
end K60
namespace K60
open PySem PySem.Spec PyProof.Rows L2 G Th AL KL Fr Od Bf
open K57 (feedL_ feedL_B drawL_ drawL_B endsL_ endsL_B)
open K57 (wireV Mb mbV Net pool WOk NOk NmOk endsL ends oes oes_perm mem_endsL endsL_wp keyV mkey own bsV vInL vInD pairs_map val_map nd_inr nd_len tl tl_asym sortS_perm sortS_pw oes_in oes_nd K2 vSortGS Ky KyOk mkey_ok)
open K37 (fmod_lt p60 p40 TxOk Sh ShL valA_put putA_len merge_app)
open K08 (ws_cut)
section
variable {n : Net} {up : List Str} {ws : List (Str × Str)} {S : Sto} {x y z s : Str}
def keyN (n : Net) (x : Str) : Ky := match n.ms.find? fun m => decide (m.name = x) with
  | some m => mkey m
  | none => ⟨0, 0, x⟩
theorem keyN_at (hn : NOk n) {m : Mb} (hm : m ∈ n.ms) : keyN n m.name = mkey m := by
  have go : ∀ {l : List Mb}, (l.map Mb.name).Nodup → m ∈ l → l.find? (fun q => decide (q.name = m.name)) = some m := fun {l} nd hm => by
    induction l with
    | nil => cases hm
    | cons q l ih =>
      rw [List.map_cons, List.nodup_cons] at nd
      rcases List.mem_cons.mp hm with rfl | hm
      · simp
      · have : q.name ≠ m.name := fun e => nd.1 (e ▸ List.mem_map_of_mem hm)
        simp [this, ih nd.2 hm]
  have := go hn.nd hm
  unfold keyN
  rw [this]
theorem keyN_nm (n : Net) (x : Str) : (keyN n x).nm = x := by
  unfold keyN
  split
  · next m hm => exact of_decide_eq_true (List.find?_some (p := fun m : Mb => decide (m.name = x)) hm)
  · rfl
def kyV (n : Net) (x : Str) : Val := keyV (keyN n x)
theorem kyV_inj (h : kyV n x = kyV n y) : x = y := by
  have : (keyN n x).nm = (keyN n y).nm := by
    simp only [kyV, keyV, Val.tup.injEq, List.cons.injEq, Val.int.injEq, Val.str.injEq] at h
    exact h.2.2.1
  rwa [keyN_nm, keyN_nm] at this
theorem kyV_pure : pureV (kyV n x) = true := rfl
open Classical in
noncomputable def ldr (n : Net) (ws : List (Str × Str)) (up : List Str) (x : Str) : Str := if h : ∃ y ∈ piece ws up x, ∀ z ∈ piece ws up x, ltV (kyV n z) (kyV n y) = false then h.choose else x
theorem ldr_of (hx : x ∈ up) {l : List Str} (hl : ∀ y, y ∈ l ↔ y ∈ piece ws up x) : ∃ a r, l = a :: r ∧ minT (kyV n a) (r.map (kyV n)) = kyV n (ldr n ws up x) ∧ ldr n ws up x ∈ piece ws up x := by
  cases e : l with
  | nil =>
    subst e
    exact absurd ((hl x).mpr (mem_piece.mpr ⟨hx, Rc.refl⟩)) (by simp)
  | cons a r =>
    refine ⟨a, r, rfl, ?_⟩
    rw [e] at hl
    have m1 := minT_mem (kyV n a) (r.map (kyV n))
    rw [← List.map_cons] at m1
    obtain ⟨y, hy, ey⟩ := List.mem_map.mp m1
    have le : ∀ z ∈ piece ws up x, ltV (kyV n z) (kyV n y) = false := fun z hz => by
      rw [ey]
      refine minT_le _ _ _ ?_
      rw [← List.map_cons]
      exact List.mem_map_of_mem ((hl z).mpr hz)
    have ex : ∃ y ∈ piece ws up x, ∀ z ∈ piece ws up x, ltV (kyV n z) (kyV n y) = false := ⟨y, (hl y).mp hy, le⟩
    have sp := ex.choose_spec
    have el : ldr n ws up x = ex.choose := by
      unfold ldr
      rw [dif_pos ex]
    rw [el]
    refine ⟨?_, sp.1⟩
    rw [← ey]
    exact trV_inj _ _ kyV_pure kyV_pure (tot _ _ (sp.2 y ((hl y).mp hy)) (le _ sp.1))
def IsD (ws : List (Str × Str)) (up : List Str) (s x : Str) (d : Nat) : Prop := W (Nb ws up) s d x ∧ ∀ e, W (Nb ws up) s e x → d ≤ e
open Classical in
noncomputable def dst (ws : List (Str × Str)) (up : List Str) (s x : Str) : Nat := if h : ∃ d, IsD ws up s x d then h.choose else 0
theorem dst_of {d : Nat} (h : IsD ws up s x d) : dst ws up s x = d := by
  have ex : ∃ d, IsD ws up s x d := ⟨d, h⟩
  have sp := ex.choose_spec
  have el : dst ws up s x = ex.choose := by
    unfold dst
    rw [dif_pos ex]
  rw [el]
  have h1 := sp.2 d h.1
  have h2 := h.2 _ sp.1
  omega
theorem dst_at {D : List (Str × Nat)} (b : BF (Nb ws up) s D) {d : Nat} (h : (x, d) ∈ D) : dst ws up s x = d := dst_of ⟨b.wk _ _ h, fun _ w => b.le w h⟩
theorem bf_mem {D : List (Str × Nat)} (b : BF (Nb ws up) s D) (r : Rc (Nb ws up) s x) : (x, dst ws up s x) ∈ D := by
  obtain ⟨⟨y, d⟩, h, e⟩ := List.mem_map.mp (b.mem.mpr r)
  have e : y = x := e
  subst e
  rw [dst_at b h]
  exact h
noncomputable def nrs (n : Net) (ws : List (Str × Str)) (up : List Str) (x : Str) : List Str := (ends ws x).filter fun z => decide (z ∈ up) && decide (dst ws up (ldr n ws up x) z + 1 = dst ws up (ldr n ws up x) x)
noncomputable def who (n : Net) (ws : List (Str × Str)) (up : List Str) (x : Str) : Str := (nrs n ws up x).headD x
theorem ldr_up (hx : x ∈ up) : ldr n ws up x ∈ up ∧ Rc (Nb ws up) (ldr n ws up x) x := by
  obtain ⟨_, _, _, _, h⟩ := ldr_of (n := n) (ws := ws) hx (l := piece ws up x) fun _ => .rfl
  have h := mem_piece.mp h
  exact ⟨h.1, rc_symm hx h.2⟩
end
end K60
namespace K13
open PySem PySem.Spec PyProof.Rows L2 G Th AL K37 KL Fr
open K08 (F8 Sc wAt)
abbrev at_ (d : List (Key × Val)) (b : Nat) : Option Val := valA d (.inl (b : Int))
theorem at_put {d : List (Key × Val)} {b c : Nat} {v : Val} : at_ (putA d (.inl (b : Int)) v) c = if c = b then some v else at_ d c := by
  rw [at_, valA_put]
  by_cases h : c = b
  · subst h
    rw [if_pos rfl, if_pos rfl]
  · rw [if_neg h, if_neg]
    intro z
    have := Sum.inl.inj z
    omega

structure Cf (es : List Ev) (x i : Nat) (d : List (Key × Val)) : Prop where
  sz : d.length ≤ 1 + i
  self : at_ d x = some .non
  out : ∀ b v, b ≠ x → at_ d b = some v → ∃ a : Nat, v = .int (a : Int) ∧ Stp es a b ∧ (at_ d a).isSome ∧ b < i ∧ Rch es x b ∧ x < b
  inn : ∀ b, b < i → Rch es x b → (at_ d b).isSome
section
variable {fl : Fl} {es : List Ev} {ws : List Fq} {x i : Nat} {d : List (Key × Val)}
theorem Cf.rch (h : Cf es x i d) {a : Nat} (ha : (at_ d a).isSome) : Rch es x a ∧ x ≤ a := by
  by_cases c : a = x
  · subst c
    exact ⟨.refl, Nat.le_refl _⟩
  · obtain ⟨v, hv⟩ := Option.isSome_iff_exists.mp ha
    obtain ⟨_, _, _, _, _, r, l⟩ := h.out a v c hv
    exact ⟨r, by omega⟩
theorem Cf.skip (ok : ∀ i, i < es.length → RowOk fl es i) (h : Cf es x i d) (hi : i < es.length) (no : ∀ m ∈ row fl es i, at_ d m.x = none) : Cf es x (i + 1) d := by
  refine ⟨by have := h.sz; omega, h.self, fun b v hb hv => ?_, fun b hb r => ?_⟩
  · obtain ⟨a, h1, h2, h3, h4, h5⟩ := h.out b v hb hv
    exact ⟨a, h1, h2, h3, by omega, h5⟩
  · rcases Nat.lt_or_ge b i with z | z
    · exact h.inn b z r
    · have : b = i := by omega
      subst this
      obtain ⟨_, rfl | ⟨a, ra, sa, al, _⟩⟩ := rch_ge ok hi r
      · rw [h.self]; rfl
      · obtain ⟨m, hm, rfl⟩ := stp_row (ok b hi) sa
        have := h.inn _ al ra
        rw [no m hm] at this
        cases this
theorem Cf.put (ok : ∀ i, i < es.length → RowOk fl es i) (h : Cf es x i d) (hi : i < es.length) {a : Nat} (sa : Stp es a i) (ha : (at_ d a).isSome) : Cf es x (i + 1) (putA d (.inl (i : Int)) (.int (a : Int))) := by
  obtain ⟨ra, xa⟩ := h.rch ha
  have al := stp_lt ok hi sa
  have keep : ∀ c, (at_ d c).isSome → (at_ (putA d (.inl (i : Int)) (.int (a : Int))) c).isSome := fun c hc => by
    rw [at_put]
    split
    · rfl
    · exact hc
  refine ⟨by have := h.sz; have := putA_len d (.inl (i : Int)) (.int (a : Int)); omega, ?_, fun b v hb hv => ?_, fun b hb r => ?_⟩
  · rw [at_put, if_neg (by omega)]
    exact h.self
  · rw [at_put] at hv
    by_cases c : b = i
    · subst c
      rw [if_pos rfl] at hv
      cases hv
      exact ⟨a, rfl, sa, keep a ha, by omega, .step ra sa, by omega⟩
    · rw [if_neg c] at hv
      obtain ⟨a', h1, h2, h3, h4, h5⟩ := h.out b v hb hv
      exact ⟨a', h1, h2, keep a' h3, by omega, h5⟩
  · rcases Nat.lt_or_ge b i with z | z
    · exact keep b (h.inn b z r)
    · have : b = i := by omega
      subst this
      rw [at_put, if_pos rfl]
      rfl
theorem Cf.nil : Cf es x 0 [(.inl (x : Int), .non)] := by
  have e : ∀ b : Nat, at_ [(.inl (x : Int), Val.non)] b = if b = x then some .non else none := fun b => by
    unfold at_ valA
    by_cases c : b = x
    · subst c
      simp
    · have : ¬ (x : Int) = b := by omega
      simp [c, this]
  refine ⟨by simp, by rw [e, if_pos rfl], fun b v hb hv => ?_, fun b hb => by omega⟩
  rw [e, if_neg hb] at hv
  cases hv
end
end K13
namespace K13
open PySem PySem.Spec PyProof.Rows L2 G Th AL K37 KL Fr
open K08 (F8 Sc wAt)
end K13
namespace K13
open PySem PySem.Spec PyProof.Rows L2 G Th AL K37 KL Fr
open K08 (F8 Sc wAt)
section
variable {fl : Fl} {es : List Ev} {ws : List Fq} {x : Nat} {S : Sto} {Q : Val → Sto → Prop}
end
end K13
namespace K60
open PySem PySem.Spec PyProof.Rows L2 G Th AL KL Fr Od Bf
open K57 (feedL_ feedL_B drawL_ drawL_B endsL_ endsL_B)
open K57 (wireV Mb mbV Net pool WOk NOk NmOk endsL ends oes oes_perm mem_endsL endsL_wp keyV mkey own bsV vInL vInD pairs_map val_map nd_inr nd_len tl tl_asym sortS_perm sortS_pw oes_in oes_nd K2 vSortGS Ky KyOk mkey_ok)
open K37 (fmod_lt p60 p40 TxOk Sh ShL valA_put putA_len merge_app)
open K08 (ws_cut)

section
variable {n : Net} {up : List Str} {ws : List (Str × Str)} {S : Sto} {x y z s : Str}
end
end K60
namespace K60
open PySem PySem.Spec PyProof.Rows L2 G Th AL KL Fr Od Bf
open K57 (feedL_ feedL_B drawL_ drawL_B endsL_ endsL_B)
open K57 (wireV Mb mbV Net pool WOk NOk NmOk endsL ends oes oes_perm mem_endsL endsL_wp keyV mkey own bsV vInL vInD pairs_map val_map nd_inr nd_len tl tl_asym sortS_perm sortS_pw oes_in oes_nd K2 vSortGS Ky KyOk mkey_ok Tf draw_wp feed_wp)
open K37 (fmod_lt p60 p40 TxOk Sh ShL valA_put putA_len merge_app)
open K08 (ws_cut)

section
variable {n : Net} {up : List Str} {ws : List (Str × Str)} {S : Sto} {x y z s : Str} {B : Int}
end
end K60
namespace K62
open PySem PySem.Spec PyProof.Rows L2 G Th AL KL Fr Od Bf
open K57 (wireV Mb mbV Net WOk NOk NmOk endsL keyV mkey Ky KyOk tl mem_endsL)
open K60 (UOk piece mem_piece leads kyV kyV_inj kyV_pure keyN Nb nb_symm lead rc_symm rc_up ldr ldr_of ldr_up dst dst_at dst_of IsD bf_mem far_wp nrs who)
structure Tw where
  nm : Str
  k : Str
  d : Nat
  w : Str
section
variable {n : Net} {up : List Str} {ws : List (Str × Str)} {x y z s : Str} {T : List Tw}
structure TOk (n : Net) (up : List Str) (T : List Tw) : Prop where
  nm : T.map Tw.nm = up
  k : ∀ t ∈ T, t.k ∈ n.names
structure Good (n : Net) (ws : List (Str × Str)) (up : List Str) (T : List Tw) : Prop where
  key : ∀ t ∈ T, ltV (kyV n t.nm) (kyV n t.k) = false
  zero : ∀ t ∈ T, t.d = 0 → t.k = t.nm ∧ t.w = t.nm
  next : ∀ t ∈ T, 0 < t.d → Nb ws up t.nm t.w ∧ ∃ u ∈ T, u.nm = t.w ∧ u.k = t.k ∧ u.d + 1 = t.d
  far : ∀ t ∈ T, ∀ u ∈ T, Nb ws up t.nm u.nm → u.k = t.k ∧ u.d ≤ t.d + 1 ∧ t.d ≤ u.d + 1
theorem TOk.get (h : TOk n up T) (hx : x ∈ up) : ∃ t ∈ T, t.nm = x := by
  rw [← h.nm] at hx
  exact List.mem_map.mp hx
theorem TOk.mem (h : TOk n up T) {t : Tw} (ht : t ∈ T) : t.nm ∈ up := by
  rw [← h.nm]
  exact List.mem_map_of_mem ht
theorem nm_one : ∀ {T : List Tw}, (T.map Tw.nm).Nodup → ∀ {t u : Tw}, t ∈ T → u ∈ T → t.nm = u.nm → t = u
  | [], _, _, _, h, _, _ => nomatch h
  | a :: T, nd, t, u, ht, hu, e => by
    rw [List.map_cons, List.nodup_cons] at nd
    rcases List.mem_cons.mp ht with h1 | h1 <;> rcases List.mem_cons.mp hu with h2 | h2
    · rw [h1, h2]
    · exact absurd (by rw [← h1, e]; exact List.mem_map_of_mem h2) nd.1
    · exact absurd (by rw [← h2, ← e]; exact List.mem_map_of_mem h1) nd.1
    · exact nm_one nd.2 h1 h2 e
theorem TOk.one (hn : NOk n) (u : UOk n up ws) (h : TOk n up T) {t r : Tw} (ht : t ∈ T) (hr : r ∈ T) (e : t.nm = r.nm) : t = r := nm_one (by rw [h.nm]; exact u.nd hn) ht hr e
theorem w_symm (hx : x ∈ up) {k : Nat} (w : W (Nb ws up) x k y) : W (Nb ws up) y k x := by
  induction w with
  | nil => exact .nil
  | @snoc k a b w e ih =>
    have := (W.one (nb_symm (rc_up hx ⟨k, w⟩) e)).trans ih
    rwa [Nat.add_comm] at this
theorem isD_dst (hn : NOk n) (u : UOk n up ws) (hs : s ∈ up) (r : Rc (Nb ws up) s x) : IsD ws up s x (dst ws up s x) := by
  obtain ⟨v, U, _, _, D, _, _, b, su, _⟩ := far_wp (S := []) hn u hs
  have h := bf_mem b r
  exact ⟨b.wk _ _ h, fun _ w => b.le w h⟩
theorem ldr_min (hx : x ∈ up) (h : y ∈ piece ws up x) : ltV (kyV n y) (kyV n (ldr n ws up x)) = false := by
  obtain ⟨a, r, e, m, _⟩ := ldr_of (n := n) (ws := ws) hx (l := piece ws up x) fun _ => .rfl
  rw [← m]
  refine minT_le _ _ _ ?_
  rw [← List.map_cons, ← e]
  exact List.mem_map_of_mem h
theorem Good.same (g : Good n ws up T) (ok : TOk n up T) {t : Tw} (ht : t ∈ T) {k : Nat} (w : W (Nb ws up) t.nm k y) : ∀ u ∈ T, u.nm = y → (hn : NOk n) → UOk n up ws → u.k = t.k := by
  induction w with
  | nil => exact fun u hu e hn uo => by rw [ok.one hn uo hu ht e]
  | @snoc k a b w e ih =>
    intro u hu eu hn uo
    obtain ⟨r, hr, er⟩ := ok.get (rc_up (ok.mem ht) ⟨k, w⟩)
    have := ih r hr er hn uo
    rw [← this]
    exact (g.far r hr u hu (by rw [er, eu]; exact e)).1
theorem Good.chain (g : Good n ws up T) : ∀ (d : Nat) (t : Tw), t ∈ T → t.d = d → ∃ z ∈ T, z.d = 0 ∧ z.k = z.nm ∧ z.k = t.k ∧ W (Nb ws up) t.nm d z.nm := by
  intro d
  induction d with
  | zero => exact fun t ht e => ⟨t, ht, e, (g.zero t ht e).1, rfl, .nil⟩
  | succ d ih =>
    intro t ht e
    obtain ⟨nb, u, hu, e1, e2, e3⟩ := g.next t ht (by omega)
    obtain ⟨z, hz, h1, h2, h3, w⟩ := ih u hu (by omega)
    rw [← e1] at nb
    have := (W.one nb).trans w
    rw [Nat.add_comm] at this
    exact ⟨z, hz, h1, h2, h3.trans e2, this⟩
theorem Good.told (hn : NOk n) (u : UOk n up ws) (g : Good n ws up T) (ok : TOk n up T) {t : Tw} (ht : t ∈ T) : t.k = ldr n ws up t.nm ∧ t.d = dst ws up (ldr n ws up t.nm) t.nm := by
  have tu := ok.mem ht
  obtain ⟨z, hz, z0, zk, zt, w⟩ := g.chain t.d t ht rfl
  obtain ⟨lu, lr⟩ := ldr_up (n := n) (ws := ws) tu
  obtain ⟨tl_, hl, el⟩ := ok.get lu
  have rl := rc_symm lu lr
  obtain ⟨kl, wl⟩ := rl
  have same := g.same ok ht wl tl_ hl el hn u
  have kp : t.k ∈ piece ws up t.nm := by
    rw [← zt, zk]
    exact mem_piece.mpr ⟨ok.mem hz, ⟨_, w⟩⟩
  have e1 := ldr_min (n := n) tu kp
  have e2 := g.key tl_ hl
  rw [el, same] at e2
  have ek : t.k = ldr n ws up t.nm := kyV_inj (trV_inj _ _ kyV_pure kyV_pure (tot _ _ e1 e2))
  refine ⟨ek, ?_⟩
  have zl : z.nm = ldr n ws up t.nm := by rw [← zk, zt, ek]
  have l0 : tl_.d = 0 := by
    rw [ok.one hn u hl hz (el.trans zl.symm)]
    exact z0
  have isd := isD_dst hn u lu lr
  rw [zl] at w
  have h1 := isd.2 _ (w_symm tu w)
  have lip : ∀ {k : Nat} {y : Str}, W (Nb ws up) (ldr n ws up t.nm) k y → ∀ r ∈ T, r.nm = y → r.d ≤ k := by
    intro k y w
    induction w with
    | nil => exact fun r hr e => by rw [ok.one hn u hr hl (e.trans el.symm), l0]; exact Nat.le_refl _
    | @snoc k a b w e ih =>
      intro r hr er
      obtain ⟨q, hq, eq⟩ := ok.get (rc_up lu ⟨k, w⟩)
      have h1 := ih q hq eq
      have h2 := (g.far q hq r hr (by rw [eq, er]; exact e)).2.1
      omega
  have h2 := lip isd.1 t ht rfl
  omega

end
end K62
namespace K62
open PySem PySem.Spec PyProof.Rows L2 G Th AL KL Fr Od Bf
open K57 (feedL_ feedL_B drawL_ drawL_B endsL_ endsL_B)
open K57 (wireV Mb mbV Net WOk NOk NmOk endsL keyV mkey Ky KyOk tl mem_endsL vInL vInD nd_len)

open K60 (UOk piece mem_piece kyV kyV_inj kyV_pure keyN Nb nb_symm ldr dst nrs Nr nbl valA_at putA_no)
open K37 (fmod_lt p60 p40 TxOk Sh ShL valA_put putA_len merge_app)
open K08 (ws_cut)
section
variable {n : Net} {up : List Str} {ws : List (Str × Str)} {x y z s : Str} {T : List Tw} {S : Sto}
def RowOk (n : Net) (ws : List (Str × Str)) (up : List Str) (T : List Tw) (t : Tw) : Prop :=
  ltV (kyV n t.nm) (kyV n t.k) = false ∧ (t.d = 0 → t.k = t.nm ∧ t.w = t.nm) ∧ (0 < t.d → Nb ws up t.nm t.w ∧ ∃ u ∈ T, u.nm = t.w ∧ u.k = t.k ∧ u.d + 1 = t.d)
end
end K62
namespace K62
open PySem PySem.Spec PyProof.Rows L2 G Th AL KL Fr Od Bf
open K57 (feedL_ feedL_B drawL_ drawL_B endsL_ endsL_B)
open K57 (wireV Mb mbV Net WOk NOk NmOk endsL keyV mkey Ky KyOk tl mem_endsL vInL vInD nd_len)

open K60 (UOk piece mem_piece kyV kyV_inj kyV_pure keyN Nb nb_symm ldr dst nrs Nr nbl valA_at valA_no putA_no)
open K37 (fmod_lt p60 p40 TxOk Sh ShL valA_put putA_len merge_app)
open K08 (ws_cut)
section
variable {n : Net} {up : List Str} {ws : List (Str × Str)} {x y z s : Str} {T : List Tw} {S : Sto}
def fpV (p : Str × Str) : Val := .tup [.str p.1, .str p.2]
def fpD (P : List (Str × Str)) : List (Key × Val) := P.map fun p => (.inr p.1, .str p.2)
end
end K62
namespace K62
open PySem PySem.Spec PyProof.Rows L2 G Th AL KL Fr Od Bf
open K57 (feedL_ feedL_B drawL_ drawL_B endsL_ endsL_B)
open K57 (wireV Mb mbV Net WOk NOk NmOk endsL ends keyV mkey Ky KyOk tl mem_endsL vInL vInD nd_len endsL_wp pairs_map nd_inr Tf draw_wp sortS_perm)

open K60 (UOk piece mem_piece kyV kyV_inj kyV_pure keyN keyN_at Nb nb_symm ldr dst nrs who nbl valA_at valA_no putA_no)
open K37 (fmod_lt p60 p40 TxOk Sh ShL valA_put putA_len merge_app)
open K08 (ws_cut)
section
variable {n : Net} {up : List Str} {ws : List (Str × Str)} {x y z s : Str} {T : List Tw} {S : Sto} {B : Int}
end
end K62
namespace K62
open PySem PySem.Spec PyProof.Rows L2 G Th AL KL Fr Od Bf
open K57 (feedL_ feedL_B drawL_ drawL_B endsL_ endsL_B)
open K57 (wireV Mb mbV Net WOk NOk NmOk keyV mkey Tf draw_wp feed_wp)

open K60 (UOk kyV ldr dst leads vInT)
open K37 (fmod_lt p60 p40 TxOk Sh ShL)
open K08 (ws_cut)
section
variable {n : Net} {up : List Str} {ws : List (Str × Str)} {T : List Tw} {S : Sto} {B : Int}
def c3 (n : Net) (t : Tw) : Val := .tup [.str t.nm, kyV n t.k, .int ((t.d : Nat) : Int)]
def prs (T : List Tw) : List (Str × Str) := (T.filter fun t => !decide (t.w = t.nm)).map fun t => (t.nm, t.w)
def prV : Val → Val
  | .tup [a, _, _, w] => .tup [a, w]
  | _ => .non
end
end K62
namespace K65
open PySem PySem.Spec PyProof.Rows L2 G Th AL KL Fr Od Bf
open K57 (feedL_ feedL_B drawL_ drawL_B endsL_ endsL_B)
open K57 (wireV Mb mbV Net pool WOk NOk NmOk endsL ends oes oes_perm mem_endsL keyV mkey own bsV boV vInL vInD pairs_map nd_inr nd_len tl tl_asym sortS_perm sortS_pw K2 vSortGS Ky KyOk mkey_ok Tf draw_wp Rw Bs rwV SOk RwOk BsOk bestOf bestOf_at bestOf_ok)
open K60 (farL_ farL_B)
open K60 (UOk piece mem_piece leads kyV putA_no valA_at dK far_wp keyN Nb lead nm_tx)
open K37 (fmod_lt p60 p40 TxOk Sh ShL valA_put putA_len merge_app)
open K08 (ws_cut)

section
variable {n : Net} {s : List Rw} {ws : List (Str × Str)} {S : Sto} {x : Str}
def upL (s : List Rw) : List Str := (s.filter fun r => r.best.isSome).map Rw.name
theorem upL_ok (hn : NOk n) (so : SOk n s) (w : WOk n.names ws) : UOk n (upL s) ws := ⟨by
  have : (upL s).Sublist (s.map Rw.name) := List.filter_sublist.map _
  rwa [so.nm] at this, w⟩
theorem mem_upL (hn : NOk n) (so : SOk n s) : x ∈ upL s ↔ ∃ b, bestOf s x = some b := by
  unfold upL
  rw [List.mem_map]
  constructor
  · rintro ⟨r, hr, rfl⟩
    rw [List.mem_filter] at hr
    obtain ⟨b, hb⟩ := Option.isSome_iff_exists.mp hr.2
    exact ⟨b, by rw [bestOf_at (so.nd hn) hr.1, hb]⟩
  · rintro ⟨b, hb⟩
    unfold bestOf at hb
    obtain ⟨r, hr, e⟩ := Option.bind_eq_some_iff.mp hb
    have h1 : r.name = x := of_decide_eq_true (List.find?_some (p := fun r : Rw => decide (r.name = x)) hr)
    exact ⟨r, List.mem_filter.mpr ⟨List.mem_of_find?_eq_some hr, by rw [e]; rfl⟩, h1⟩
end
end K65
namespace K67
open PySem PySem.Spec PyProof.Rows L2 G Th AL KL Fr Od Bf
open K57 (wireV Mb mbV Net WOk NOk NmOk endsL ends oes keyV mkey Ky KyOk tl tl_asym mem_endsL sortS_pw sortS_perm sortH_perm Rw Bs Hd rwV bsV boV SOk RwOk BsOk bestOf bestOf_at bestOf_ok frs kps mem_frs mem_kps offers bet minB minB_mem own heardN rowN rnd rnd_ok row_ok itr itr_ok)
open K60 (UOk piece mem_piece kyV kyV_inj kyV_pure keyN keyN_at keyN_nm Nb nb_symm rc_symm rc_up ldr ldr_up dst nrs who IsD)
open K62 (isD_dst ldr_min)
open K65 (upL mem_upL upL_ok)
section
variable {n : Net} {s : List Rw} {ws : List (Str × Str)} {x y z : Str} {mo a : Nat}
theorem rowN_name {most age : Int} (m : Mb) (r : Rw) : (rowN s ws most age m r).name = r.name ∧ (rowN s ws most age m r).best.isSome = r.best.isSome := by
  unfold rowN
  cases h : r.best with
  | none => exact ⟨rfl, by rw [h]⟩
  | some b => exact ⟨rfl, rfl⟩
theorem zip_up {f : Mb → Rw → Rw} (hf : ∀ m r, (f m r).name = r.name ∧ (f m r).best.isSome = r.best.isSome) : ∀ {ms : List Mb} {s : List Rw}, ms.length = s.length → upL (List.zipWith f ms s) = upL s
  | [], [], _ => rfl
  | m :: ms, r :: s, h => by
    have ih := zip_up hf (ms := ms) (s := s) (by simpa using h)
    unfold upL at ih ⊢
    rw [List.zipWith_cons_cons, List.filter_cons, List.filter_cons, (hf m r).2]
    split
    · rw [List.map_cons, List.map_cons, ih, (hf m r).1]
    · exact ih
theorem upL_rnd (so : SOk n s) {most age : Int} : upL (rnd n s ws most age) = upL s := zip_up (fun m r => rowN_name m r) so.len.symm
theorem upL_itr (hn : NOk n) (so : SOk n s) (w : WOk n.names ws) (a4 : a ≤ 4) (m9 : mo ≤ 9) : ∀ k, upL (itr n ws mo a s k) = upL s
  | 0 => rfl
  | k + 1 => (upL_rnd (itr_ok hn so w (by omega) (by omega) k)).trans (upL_itr hn so w a4 m9 k)

theorem rnd_row (hn : NOk n) (so : SOk n s) {most age : Int} {q : Rw} (hq : q ∈ rnd n s ws most age) : ∃ m ∈ n.ms, ∃ r ∈ s, r.name = m.name ∧ q = rowN s ws most age m r := by
  unfold rnd at hq
  obtain ⟨i, hi⟩ := List.getElem?_of_mem hq
  rw [List.getElem?_zipWith] at hi
  cases e1 : n.ms[i]? with
  | none => rw [e1] at hi; cases hi
  | some m =>
    cases e2 : s[i]? with
    | none => rw [e1, e2] at hi; cases hi
    | some r =>
      rw [e1, e2] at hi
      have e3 : (s.map Rw.name)[i]? = n.names[i]? := by rw [so.nm]
      unfold Net.names at e3
      rw [List.getElem?_map, List.getElem?_map, e1, e2] at e3
      exact ⟨m, List.mem_of_getElem? e1, r, List.mem_of_getElem? e2, Option.some.inj e3, (Option.some.inj hi).symm⟩
theorem best_row (hn : NOk n) (so : SOk n s) {b : Bs} (h : bestOf s x = some b) : ∃ r ∈ s, r.name = x ∧ r.best = some b := by
  unfold bestOf at h
  obtain ⟨r, hr, e⟩ := Option.bind_eq_some_iff.mp h
  exact ⟨r, List.mem_of_find?_eq_some hr, of_decide_eq_true (List.find?_some (p := fun r : Rw => decide (r.name = x)) hr), e⟩

def Fre (s : List Rw) (ws : List (Str × Str)) (x : Str) (h : Hd) : Prop := ∃ b, h.who ∈ oes ws x ∧ bestOf s h.who = some b ∧ h = ⟨h.who, b.key, b.st, 0⟩
theorem heard_mem {most age : Int} {r : Rw} {h : Hd} : h ∈ heardN s ws age r ↔ Fre s ws r.name h ∨ ∃ g ∈ r.hs, g.who ∉ (frs s (oes ws r.name)).map Hd.who ∧ g.old < age ∧ h = ⟨g.who, g.key, g.st, g.old + 1⟩ := by
  unfold heardN
  rw [(sortH_perm _).mem_iff, List.mem_append, mem_frs, mem_kps]
  rfl
theorem stale (hn : NOk n) (so : SOk n s) (w : WOk n.names ws) (a4 : a ≤ 4) (m9 : mo ≤ 9) : ∀ (t : Nat) (r : Rw), r ∈ itr n ws mo a s t → r.best.isSome = true → ∀ h ∈ r.hs, (0 < t ∧ Fre (itr n ws mo a s (t - 1)) ws r.name h) ∨ (t : Int) ≤ h.old
  | 0, r, hr, _, h, hh => .inr (by have := ((so.row r hr).hs h hh).o0; omega)
  | t + 1, q, hq, hb, h, hh => by
    have so_t := itr_ok hn so w (age := a) (most := mo) (by omega) (by omega) t
    obtain ⟨m, hm, r, hr, _, rfl⟩ := rnd_row hn so_t hq
    have hb2 : r.best.isSome = true := by rw [← (rowN_name m r).2]; exact hb
    obtain ⟨b, eb⟩ := Option.isSome_iff_exists.mp hb2
    have e1 : (rowN (itr n ws mo a s t) ws mo a m r).hs = heardN (itr n ws mo a s t) ws a r := by
      unfold rowN
      rw [eb]
    rw [e1] at hh
    rw [(rowN_name m r).1]
    rcases (heard_mem (most := mo)).mp hh with hf | ⟨g, hg, no, lt, rfl⟩
    · exact .inl ⟨by omega, hf⟩
    · refine .inr ?_
      rcases stale hn so w a4 m9 t r hr hb2 g hg with ⟨t0, b', h1, h2, h3⟩ | h1
      · exfalso
        have up1 : g.who ∈ upL (itr n ws mo a s (t - 1)) := (mem_upL hn (itr_ok hn so w (by omega) (by omega) _)).mpr ⟨b', h2⟩
        rw [upL_itr hn so w a4 m9, ← upL_itr hn so w a4 m9 t] at up1
        obtain ⟨b2, e2⟩ := (mem_upL hn so_t).mp up1
        exact no (List.mem_map.mpr ⟨⟨g.who, b2.key, b2.st, 0⟩, mem_frs.mpr ⟨b2, h1, e2, rfl⟩, rfl⟩)
      · show ((t + 1 : Nat) : Int) ≤ g.old + 1
        omega

theorem best_of (hn : NOk n) (so : SOk n s) (w : WOk n.names ws) (a4 : a ≤ 4) (m9 : mo ≤ 9) {t : Nat} (ht : a ≤ t) {b : Bs} (h : bestOf (itr n ws mo a s (t + 1)) x = some b) :
    ∃ m ∈ n.ms, m.name = x ∧ ∃ L : List Hd, (∀ g, g ∈ L ↔ Fre (itr n ws mo a s t) ws x g) ∧ b = minB (own m) (offers mo L) := by
  have so_t := itr_ok hn so w (age := a) (most := mo) (by omega) (by omega) t
  obtain ⟨q, hq, en, eb⟩ := best_row hn (itr_ok hn so w (by omega) (by omega) (t + 1)) h
  obtain ⟨m, hm, r, hr, e, rfl⟩ := rnd_row hn so_t hq
  rw [(rowN_name m r).1] at en
  have hb2 : r.best.isSome = true := by rw [← (rowN_name m r).2, eb]; rfl
  obtain ⟨b0, e0⟩ := Option.isSome_iff_exists.mp hb2
  have e1 : (rowN (itr n ws mo a s t) ws mo a m r).best = some (minB (own m) (offers mo (heardN (itr n ws mo a s t) ws a r))) := by
    unfold rowN
    rw [e0]
  rw [e1] at eb
  refine ⟨m, hm, e.symm.trans en, _, fun g => ?_, (Option.some.inj eb).symm⟩
  rw [heard_mem (most := mo), en]
  constructor
  · rintro (h | ⟨g, hg, no, lt, rfl⟩)
    · exact h
    · exfalso
      rcases stale hn so w a4 m9 t r hr hb2 g hg with ⟨t0, b', h1, h2, h3⟩ | h1
      · have up1 : g.who ∈ upL (itr n ws mo a s (t - 1)) := (mem_upL hn (itr_ok hn so w (by omega) (by omega) _)).mpr ⟨b', h2⟩
        rw [upL_itr hn so w a4 m9, ← upL_itr hn so w a4 m9 t] at up1
        obtain ⟨b2, e2⟩ := (mem_upL hn so_t).mp up1
        rw [en] at h1
        exact no (List.mem_map.mpr ⟨⟨g.who, b2.key, b2.st, 0⟩, mem_frs.mpr ⟨b2, h1, e2, rfl⟩, rfl⟩)
      · omega
  · exact .inl

def Lb (n : Net) (ws : List (Str × Str)) (up : List Str) (b : Bs) (x : Str) (k : Nat) : Prop := (k : Int) ≤ b.st ∨ ∃ y ∈ up, b.key = keyN n y ∧ ∃ d : Nat, W (Nb ws up) y d x ∧ (d : Int) ≤ b.st
theorem offer_of {L : List Hd} {b : Bs} (h : b ∈ offers mo L) : ∃ g ∈ L, g.st < mo ∧ b = ⟨g.key, g.st + 1, g.who⟩ := by
  obtain ⟨g, hg, e⟩ := List.mem_map.mp h
  obtain ⟨h1, h2⟩ := List.mem_filter.mp hg
  exact ⟨g, h1, of_decide_eq_true h2, e.symm⟩
theorem fre_nb (hn : NOk n) (so : SOk n s) (w : WOk n.names ws) (a4 : a ≤ 4) (m9 : mo ≤ 9) {t : Nat} {g : Hd} (hx : x ∈ upL s) (h : Fre (itr n ws mo a s t) ws x g) : g.who ∈ upL s ∧ Nb ws (upL s) x g.who ∧ ∃ b, bestOf (itr n ws mo a s t) g.who = some b ∧ g.key = b.key ∧ g.st = b.st := by
  obtain ⟨b, h1, h2, h3⟩ := h
  have up1 : g.who ∈ upL (itr n ws mo a s t) := (mem_upL hn (itr_ok hn so w (by omega) (by omega) _)).mpr ⟨b, h2⟩
  rw [upL_itr hn so w a4 m9] at up1
  have u := upL_ok hn so w
  refine ⟨up1, ⟨up1, ((u.oes x).mem_iff).mp h1⟩, b, h2, by rw [h3], by rw [h3]⟩
theorem up_of (hn : NOk n) (so : SOk n s) (w : WOk n.names ws) (a4 : a ≤ 4) (m9 : mo ≤ 9) {t : Nat} {b : Bs} (h : bestOf (itr n ws mo a s t) x = some b) : x ∈ upL s := by
  have : x ∈ upL (itr n ws mo a s t) := (mem_upL hn (itr_ok hn so w (by omega) (by omega) _)).mpr ⟨b, h⟩
  rwa [upL_itr hn so w a4 m9] at this
theorem low (hn : NOk n) (so : SOk n s) (w : WOk n.names ws) (a4 : a ≤ 4) (m9 : mo ≤ 9) : ∀ (k : Nat) {x : Str} {b : Bs}, bestOf (itr n ws mo a s (a + k)) x = some b → Lb n ws (upL s) b x k
  | 0, x, b, h => .inl (by have := (bestOf_ok (itr_ok hn so w (by omega) (by omega) _) h).s0; omega)
  | k + 1, x, b, h => by
    have hx := up_of hn so w a4 m9 h
    obtain ⟨m, hm, em, L, hL, rfl⟩ := best_of hn so w a4 m9 (t := a + k) (by omega) h
    rcases minB_mem (offers mo L) (own m) with e | e
    · rw [e]
      refine .inr ⟨x, hx, ?_, 0, .nil, Int.le_refl _⟩
      show mkey m = keyN n x
      rw [← em, keyN_at hn hm]
    · obtain ⟨g, hg, lt, e⟩ := offer_of e
      rw [e]
      obtain ⟨gu, nb, b', hb', e1, e2⟩ := fre_nb hn so w a4 m9 hx ((hL g).mp hg)
      rcases low hn so w a4 m9 k hb' with h1 | ⟨y, hy, ek, d, wd, ld⟩
      · refine .inl ?_
        show ((k + 1 : Nat) : Int) ≤ g.st + 1
        omega
      · refine .inr ⟨y, hy, e1.trans ek, d + 1, wd.snoc (nb_symm hx nb), ?_⟩
        show ((d + 1 : Nat) : Int) ≤ g.st + 1
        omega
end
end K67
namespace K65
open PySem PySem.Spec PyProof.Rows L2 G Th AL KL Fr Od Bf
open K57 (feedL_ feedL_B drawL_ drawL_B endsL_ endsL_B)
open K57 (wireV Mb mbV Net WOk NOk NmOk keyV Ky KyOk Tf draw_wp Rw rwV SOk bestOf bestOf_ok feed_wp)
open K60 (farL_ farL_B)
open K60 (UOk dst ldr nm_tx)
open K37 (fmod_lt p60 p40 TxOk Sh ShL)
open K08 (ws_cut)
section
variable {n : Net} {s : List Rw} {ws : List (Str × Str)} {up : List Str} {S : Sto} {x : Str}
noncomputable def hst (n : Net) (ws : List (Str × Str)) (up : List Str) : List Int := up.map fun x => ((dst ws up (ldr n ws up x) x : Nat) : Int)
end
end K65
namespace K67
open PySem PySem.Spec PyProof.Rows L2 G Th AL KL Fr Od Bf
open K57 (feedL_ feedL_B drawL_ drawL_B endsL_ endsL_B)

open K62 (ring_from_ ring_from_B follow_ring_ follow_ring_B)

open K57 (wireV Mb mbV Net WOk NOk NmOk oes keyV mkey Ky KyOk Rw Bs rwV bsV boV SOk RwOk bestOf bestOf_at bestOf_ok rnd rnd_ok itr itr_ok pairs_map nd_inr Tf draw_wp feed_wp)
open K60 (UOk kyV ldr ldr_up dst who keyN)
open K62 (Tw Good prs fpV)
open K65 (upL mem_upL upL_ok hst)
open K37 (fmod_lt p60 p40 TxOk Sh ShL)
open K08 (ws_cut)
section
variable {n : Net} {s : List Rw} {ws : List (Str × Str)} {up : List Str} {S : Sto} {x : Str}

end
end K67
namespace K63
open PySem PySem.Spec PyProof.Rows L2 G Th AL KL Fr Od
open K57 (val_map nd_len vInL vInD pairs_map nd_inr)
open K62 (ring_from_ ring_from_B follow_ring_ follow_ring_B fpV fpD)
open K60 (putA_no)
open K37 (merge_app)
section
variable {P : List (Str × Str)} {S : Sto} {x y z : Str} {l : List Str}

def ld (P : List (Str × Str)) (x : Str) : Option Str := (P.find? fun p => decide (p.1 = x)).map (·.2)
theorem val_ld : valA (fpD P) (.inr x) = (ld P x).map Val.str := by
  unfold fpD ld
  rw [val_map (·.1) (fun p : Str × Str => Val.str p.2) x P, Option.map_map]
  rfl
theorem ld_mem (h : ld P x = some y) : x ∈ P.map (·.1) := by
  obtain ⟨p, hp, _⟩ := Option.map_eq_some_iff.mp h
  have e : p.1 = x := of_decide_eq_true (List.find?_some (p := fun p : Str × Str => decide (p.1 = x)) hp)
  exact List.mem_map.mpr ⟨p, List.mem_of_find?_eq_some hp, e⟩

def rg (P : List (Str × Str)) (x : Str) : Nat → List Str → Str → Option (List Str)
  | 0, _, _ => none
  | n + 1, l, y => match ld P y with
    | none => none
    | some z => if z = x then some (l ++ [y]) else if z ∈ l ++ [y] then none else rg P x n (l ++ [y]) z
def RG (P : List (Str × Str)) (x : Str) : Option (List Str) := rg P x 9 [] x
structure Wk (P : List (Str × Str)) (x : Str) (l : List Str) (y : Str) : Prop where
  nd : (l ++ [y]).Nodup
  hd : (l ++ [y])[0]? = some x
  st : ∀ (i : Nat) (a b : Str), (l ++ [y])[i]? = some a → (l ++ [y])[i + 1]? = some b → ld P a = some b
theorem Wk.one : Wk P x [] x := ⟨by simp, rfl, fun i a b h1 h2 => by simp at h2⟩
theorem Wk.dom (w : Wk P x l y) : ∀ a ∈ l, a ∈ P.map (·.1) := fun a ha => by
  obtain ⟨i, hi, e⟩ := List.getElem_of_mem ha
  have h1 : (l ++ [y])[i]? = some a := by rw [List.getElem?_append_left hi, List.getElem?_eq_getElem hi, e]
  have h2 : i + 1 < (l ++ [y]).length := by simp; omega
  exact ld_mem (w.st i a _ h1 (List.getElem?_eq_getElem h2))
theorem Wk.len (w : Wk P x l y) : l.length ≤ P.length := by
  have := nd_len (List.nodup_append.mp w.nd).1 (ys := P.map (·.1)) w.dom
  rwa [List.length_map] at this
theorem Wk.len2 (w : Wk P x l y) (h : ld P y = some z) : l.length + 1 ≤ P.length := by
  have := nd_len w.nd (ys := P.map (·.1)) fun a ha => by
    rcases List.mem_append.mp ha with h1 | h1
    · exact w.dom a h1
    · rw [List.mem_singleton.mp h1]
      exact ld_mem h
  rwa [List.length_map, List.length_append, List.length_singleton] at this
theorem Wk.mem (w : Wk P x l y) : x ∈ l ++ [y] := List.mem_of_getElem? w.hd
theorem Wk.next (w : Wk P x l y) (h : ld P y = some z) (hz : z ∉ l ++ [y]) : Wk P x (l ++ [y]) z := by
  refine ⟨?_, ?_, fun i a b h1 h2 => ?_⟩
  · rw [List.nodup_append]
    exact ⟨w.nd, by simp, fun a ha b hb e => hz (by rw [← List.mem_singleton.mp hb, ← e]; exact ha)⟩
  · rw [List.getElem?_append_left (by simp)]
    exact w.hd
  · have l2 := (List.getElem?_eq_some_iff.mp h2).1
    simp only [List.length_append, List.length_singleton] at l2
    by_cases c : i + 1 < l.length + 1
    · rw [List.getElem?_append_left (by simp; omega)] at h1
      rw [List.getElem?_append_left (by simp; omega)] at h2
      exact w.st i a b h1 h2
    · have e : i = l.length := by omega
      subst e
      rw [List.getElem?_append_left (by simp), List.getElem?_concat_length] at h1
      have h2' : (l ++ [y] ++ [z])[(l ++ [y]).length]? = some b := by simpa using h2
      rw [List.getElem?_concat_length] at h2'
      cases h1
      cases h2'
      exact h

def Cyc (P : List (Str × Str)) (x y : Str) : Prop := ∃ c : List Str, x ∉ c ∧ y ∈ c ∧ ∀ z ∈ c, ∃ w ∈ c, ld P z = some w
theorem Wk.cyc (w : Wk P x l y) (h : ld P y = some z) (hz : z ∈ l ++ [y]) (ne : z ≠ x) : Cyc P x z := by
  obtain ⟨j, hj, e⟩ := List.getElem_of_mem hz
  have j0 : j ≠ 0 := fun z0 => by
    subst z0
    have := w.hd
    rw [List.getElem?_eq_getElem hj, e] at this
    exact ne (Option.some.inj this)
  have len : (l ++ [y]).length = l.length + 1 := by simp
  refine ⟨(l ++ [y]).drop j, fun hx => ?_, ?_, fun a ha => ?_⟩
  · obtain ⟨i, hi, ei⟩ := List.getElem_of_mem hx
    rw [List.getElem_drop] at ei
    rw [List.length_drop] at hi
    have h0 := w.hd
    rw [List.getElem?_eq_getElem (by omega)] at h0
    have := (List.getElem_inj w.nd).mp (ei.trans (Option.some.inj h0).symm)
    omega
  · refine List.mem_iff_getElem.mpr ⟨0, by rw [List.length_drop]; omega, ?_⟩
    rw [List.getElem_drop]
    exact e
  · obtain ⟨i, hi, ei⟩ := List.getElem_of_mem ha
    rw [List.getElem_drop] at ei
    rw [List.length_drop] at hi
    by_cases c : j + i + 1 < (l ++ [y]).length
    · refine ⟨(l ++ [y])[j + i + 1], ?_, w.st (j + i) a _ (by rw [List.getElem?_eq_getElem (by omega), ei]) (List.getElem?_eq_getElem c)⟩
      refine List.mem_iff_getElem.mpr ⟨i + 1, by rw [List.length_drop]; omega, ?_⟩
      rw [List.getElem_drop]
      congr 1
    · have e2 : j + i = l.length := by omega
      have : a = y := by
        rw [← ei]
        simp only [e2]
        simp
      subst this
      refine ⟨z, ?_, h⟩
      refine List.mem_iff_getElem.mpr ⟨0, by rw [List.length_drop]; omega, ?_⟩
      rw [List.getElem_drop]
      exact e
def ringO : Option (List Str) → Val
  | none => .non
  | some l => .tup (l.map .str)
theorem rg_none {n : Nat} (hn : 1 ≤ n) (h : ld P y = none) : rg P x n l y = none := by
  obtain ⟨k, rfl⟩ : ∃ k, n = k + 1 := ⟨n - 1, by omega⟩
  rw [rg, h]
theorem rg_ring {n : Nat} (hn : 1 ≤ n) (h : ld P y = some x) : rg P x n l y = some (l ++ [y]) := by
  obtain ⟨k, rfl⟩ : ∃ k, n = k + 1 := ⟨n - 1, by omega⟩
  rw [rg, h]
  exact if_pos rfl
theorem rg_cyc {n : Nat} (hn : 1 ≤ n) (h : ld P y = some z) (ne : z ≠ x) (hz : z ∈ l ++ [y]) : rg P x n l y = none := by
  obtain ⟨k, rfl⟩ : ∃ k, n = k + 1 := ⟨n - 1, by omega⟩
  rw [rg, h]
  exact (if_neg ne).trans (if_pos hz)
theorem rg_next {n : Nat} (h : ld P y = some z) (ne : z ≠ x) (hz : z ∉ l ++ [y]) : rg P x (n + 1) l y = rg P x n (l ++ [y]) z := by
  rw [rg, h]
  exact (if_neg ne).trans (if_neg hz)
theorem at_y : atI ((l ++ [y]).map Val.str) (-1 : Int) = some (.str y) := by
  rw [List.map_append]
  exact K13.at_last
theorem ring_from_wp (l8 : P.length ≤ 8) {rd : Nat} (gd : S[rd]? = some (.dic (fpD P))) :
    Wp (ring_from_ [.ref rd, .str x] S) fun v U => v = ringO (RG P x) ∧ Kn S U := by
  have lD : (fpD P).length = P.length := List.length_map ..
  refine AL.wf ?_; simp only [List.map_cons, List.map_nil, List.length_cons, List.length_nil, Nat.reduceAdd, Nat.reduceSub, List.replicate_succ, List.replicate_zero, List.cons_append, List.nil_append]; unfold ring_from_B; array_get_dec
  intro S1 rr e_rr l_S1 g_rr k_S1
  array_get_dec
  have lrd := lt_of_at gd
  refine ws_while (fun _ U => match U[rr]? with | some (.lst vs) => P.length + 1 - vs.length | _ => 0)
    (fun ρ U => ∃ (a3 : Option Val) (l : List Str) (y : Str), ρ = [some (.ref rd), some (.str x), some (.ref rr), a3] ∧ U[rr]? = some (.lst ((l ++ [y]).map .str)) ∧ Kx rr S1 U ∧ ((Wk P x l y ∧ RG P x = rg P x (9 - l.length) l y) ∨ (RG P x = none ∧ Cyc P x y)))
    ⟨_, [], x, rfl, g_rr, .refl _ _, .inl ⟨.one, rfl⟩⟩ ?_
  rintro _ U ⟨a3, l, y, rfl, gr, kU, hm⟩
  have gdU : U[rd]? = some (.dic (fpD P)) := kU _ _ (by omega) (k_S1 _ _ gd)
  have knU : Kn S U := fun q o ho => by
    have := lt_of_at ho
    exact kU q o (by omega) (k_S1 _ _ ho)
  array_get_dec
  refine vLenD rfl gdU ?_
  array_get_dec
  refine Br.of (fun c => ?_) (fun c => ?_)
  · have c := of_decide_eq_true c
    rw [List.length_map, List.length_append, List.length_singleton, lD] at c
    array_get_dec
    refine ⟨_, _, rfl, gdU, ?_⟩
    array_get_dec
    refine vIxL rfl rfl gr at_y ?_
    refine ⟨_, _, gdU, rfl, ?_⟩
    rw [val_ld]
    cases hv : ld P y with
    | none =>
      array_get_dec
      rcases hm with ⟨w, e⟩ | ⟨e, cy⟩
      · rw [e, rg_none (by have := w.len; omega) hv]
        exact ⟨rfl, knU⟩
      · rw [e]
        exact ⟨rfl, knU⟩
    | some w0 =>
      array_get_dec
      refine Br.of (fun c2 => ?_) (fun c2 => ?_)
      · have c2 : w0 = x := of_decide_eq_true c2
        subst c2
        array_get_dec
        rcases hm with ⟨w, e⟩ | ⟨e, cy⟩
        · rw [e, rg_ring (by have := w.len; omega) hv]
          exact ⟨rfl, knU⟩
        · obtain ⟨c, h1, h2, h3⟩ := cy
          obtain ⟨w, hw, e2⟩ := h3 y h2
          rw [hv] at e2
          cases e2
          exact absurd hw h1
      · have c2 : w0 ≠ x := of_decide_eq_false c2
        array_get_dec
        refine vApp rfl gr ?_ (small (by rw [List.length_map, List.length_append, List.length_singleton]; omega))
        intro V l_V g_V k_V
        refine ⟨⟨_, l ++ [y], w0, rfl, by rw [g_V, List.map_append (l₁ := l ++ [y])]; rfl, kU.trans k_V, ?_⟩, ?_⟩
        · rcases hm with ⟨w, e⟩ | ⟨e, cy⟩
          · have ln := w.len
            by_cases hz : w0 ∈ l ++ [y]
            · exact .inr ⟨by rw [e, rg_cyc (by omega) hv c2 hz], w.cyc hv hz c2⟩
            · refine .inl ⟨w.next hv hz, ?_⟩
              rw [e, show 9 - l.length = (9 - (l ++ [y]).length) + 1 by simp; omega]
              exact rg_next hv c2 hz
          · obtain ⟨c, h1, h2, h3⟩ := cy
            obtain ⟨w, hw, e2⟩ := h3 y h2
            rw [hv] at e2
            cases e2
            exact .inr ⟨e, c, h1, hw, h3⟩
        simp only [g_V, gr, List.length_append, List.length_map, List.length_singleton]
        omega
  · have c := of_decide_eq_false c
    rw [List.length_map, List.length_append, List.length_singleton, lD] at c
    array_get_dec
    rcases hm with ⟨w, e⟩ | ⟨e, cy⟩
    · have ln := w.len
      have : ld P y = none := by
        cases hv : ld P y with
        | none => rfl
        | some w0 => have := w.len2 hv; omega
      rw [e, rg_none (by omega) this]
      exact ⟨rfl, knU⟩
    · rw [e]
      exact ⟨rfl, knU⟩

def FR (P : List (Str × Str)) : Option (List Str) := P.findSome? fun p => RG P p.1
theorem fr_at {i : Nat} {p : Str × Str} {r : List Str} (hp : P[i]? = some p) (h : ∀ q ∈ P.take i, RG P q.1 = none) (e : RG P p.1 = some r) : FR P = some r := by
  obtain ⟨lt, ep⟩ := List.getElem?_eq_some_iff.mp hp
  unfold FR
  have : P = P.take i ++ p :: P.drop (i + 1) := by rw [← ep, ← List.drop_eq_getElem_cons lt, List.take_append_drop]
  refine List.findSome?_eq_some_iff.mpr ⟨P.take i, p, P.drop (i + 1), this, e, fun q hq => h q hq⟩
theorem fr_no (h : ∀ q ∈ P, RG P q.1 = none) : FR P = none := List.findSome?_eq_none_iff.mpr h
theorem follow_wp (nd : (P.map (·.1)).Nodup) (l8 : P.length ≤ 8) :
    Wp (follow_ring_ [.tup (P.map fpV)] S) fun v U => v = ringO (FR P) ∧ Kn S U := by
  refine AL.wf ?_; simp only [List.map_cons, List.map_nil, List.length_cons, List.length_nil, Nat.reduceAdd, Nat.reduceSub, List.replicate_succ, List.replicate_zero, List.cons_append, List.nil_append]; unfold follow_ring_B; array_get_dec
  refine wDc ?_
  array_get_dec
  refine .inl ⟨_, rfl, ?_⟩
  refine dc_inv (fun i a V => a = fpD (P.take i) ∧ i ≤ P.length ∧ V = S) (fun _ _ _ _ _ => trivial) (fun i a V ⟨h, h2, _⟩ => by rw [h]; unfold fpD; rw [List.length_map, List.length_take]; omega) ?_ ?_ ⟨rfl, Nat.zero_le _, rfl⟩
  · rintro i v a V hv ⟨rfl, h3, rfl⟩
    rw [List.getElem?_map] at hv
    obtain ⟨t, ht, rfl⟩ := Option.map_eq_some_iff.mp hv
    obtain ⟨lt, et⟩ := List.getElem?_eq_some_iff.mp ht
    have tk : P.take (i + 1) = P.take i ++ [t] := by rw [List.take_succ_eq_append_getElem lt, et]
    refine bn rfl ?_
    array_get_dec
    refine ⟨.inr t.1, rfl, ?_, lt, rfl⟩
    refine (putA_no ?_).trans ?_
    · unfold fpD
      rw [List.map_map]
      intro z
      obtain ⟨q, hq, e⟩ := List.mem_map.mp z
      have nd2 : ((P.take (i + 1)).map (·.1)).Nodup := ((List.take_sublist _ _).map _).nodup nd
      rw [tk, List.map_append, List.nodup_append] at nd2
      exact nd2.2.2 _ (List.mem_map_of_mem (f := (·.1)) hq) _ (by simp) (Sum.inr.inj e)
    · rw [tk]
      unfold fpD
      rw [List.map_append]
      rfl
  rintro a V ⟨rfl, _, rfl⟩
  rw [List.length_map, List.take_length]
  intro S1 rd e_rd l_S1 g_rd k_S1
  array_get_dec
  refine .inl ⟨_, rfl, ?_⟩
  refine ws_loop (fun i ρ U => (∃ a2 a3 a4 : Option Val, ρ = [some (.tup (P.map fpV)), some (.ref rd), a2, a3, a4]) ∧ Kn S1 U ∧ ∀ q ∈ P.take i, RG P q.1 = none) ⟨⟨_, _, _, rfl⟩, .refl _, fun q h => by simp at h⟩ (fun _ _ _ _ _ => trivial) ?_ ?_
  · rintro i v ρ U hv ⟨⟨a2, a3, a4, rfl⟩, kU, hN⟩
    rw [List.getElem?_map] at hv
    obtain ⟨t, ht, rfl⟩ := Option.map_eq_some_iff.mp hv
    obtain ⟨lt, et⟩ := List.getElem?_eq_some_iff.mp ht
    have tk : P.take (i + 1) = P.take i ++ [t] := by rw [List.take_succ_eq_append_getElem lt, et]
    refine bn rfl ?_
    dsimp only [List.set_cons_zero, List.set_cons_succ]
    array_get_dec
    refine (ring_from_wp l8 (kU _ _ g_rd)).imp ?_
    rintro _ U1 ⟨rfl, k1⟩
    cases hr : RG P t.1 with
    | none =>
      array_get_dec
      refine ⟨⟨_, _, _, rfl⟩, kU.trans k1, fun q hq => ?_⟩
      rw [tk] at hq
      rcases List.mem_append.mp hq with h | h
      · exact hN q h
      · rw [List.mem_singleton.mp h]
        exact hr
    | some r =>
      array_get_dec
      rw [fr_at ht hN hr]
      exact ⟨rfl, k_S1.trans (kU.trans k1)⟩
  · rintro ρ U ⟨⟨a2, a3, a4, rfl⟩, kU, hN⟩
    array_get_dec
    rw [fr_no fun q hq => hN q (by rw [List.length_map, List.take_length]; exact hq)]
    exact ⟨rfl, k_S1.trans kU⟩
end
end K63
namespace K63
open PySem PySem.Spec PyProof.Rows L2 G Th AL KL Fr Od
open K57 (feedL_ feedL_B drawL_ drawL_B endsL_ endsL_B)
open K57 (val_map nd_len vInL vInD pairs_map nd_inr Tf draw_wp K2 pool pool_nd nm_pool NmOk erase_map perm_pop names_nd vSortGS sortS_perm Net NOk SOk Rw rwV boV bsV feed_wp)
open K62 (ring_from_ ring_from_B follow_ring_ follow_ring_B fpV fpD)

open K60 (putA_no nm_tx)
open K37 (merge_app Sh ShL p60)
open K08 (ws_cut)
section
variable {P : List (Str × Str)} {S : Sto} {x y z : Str} {l : List Str}
structure POk (P : List (Str × Str)) : Prop where
  nd : (P.map (·.1)).Nodup
  len : P.length ≤ 8
  nm : ∀ p ∈ P, NmOk p.1 ∧ NmOk p.2
theorem out_ok : NmOk ("out" : Str) := ⟨by decide +kernel, by decide +kernel⟩
theorem pop_wp {B : Int} {n : Nat} {a2 a3 a4 a5 a6 : Option Val} (T : Tf S B) (hn : 3 ≤ n) (h : S[n]? = some (.lst (pool.map .str))) (hB : B + 20 < 2 ^ 40) :
    Wp ((eLc (.nm 5) (iRg1 (aCons (eDef drawL_ 2 (aCons (eV 0) (aCons (eC (.int 9)) aNil))) aNil)) bYes (eMt isL gPop (eV 1) (aCons (eDef drawL_ 2 (aCons (eV 0) (aCons (eCall gLen (aCons (eV 1) aNil)) aNil))) aNil)) [5]) [some (.ref 0), some (.ref n), a2, a3, a4, a5, a6] S) fun v U => ∃ (r : Nat) (ys zs : List Str), v = .ref r ∧ U[r]? = some (.lst (ys.map .str)) ∧ (ys ++ zs).Perm pool ∧ ys.length ≤ 8 ∧ Tf U (B + 9) ∧ K2 0 n S U ∧ n < r ∧ 3 ≤ r ∧ S.length ≤ r := by
  have n1 := lt_of_at h
  array_get_dec
  refine (draw_wp T (m := 9) (by omega) (by omega) (by omega)).imp ?_
  rintro _ S1 ⟨d, rfl, d0, d1, T1, k1⟩
  obtain ⟨s, rfl⟩ := Int.eq_ofNat_of_zero_le d0
  have l1 : S.length ≤ S1.length := k1.len (by omega)
  have h1 : S1[n]? = some (.lst (pool.map .str)) := k1 _ _ (by omega) h
  array_get_dec
  refine ⟨s, rfl, ?_, by omega, by omega⟩
  refine lc_inv (fun i a U => ∃ ys zs : List Str, a = ys.map Val.str ∧ U[n]? = some (.lst (zs.map .str)) ∧ (ys ++ zs).Perm pool ∧ ys.length = i ∧ i ≤ s ∧ Tf U (B + 1 + i) ∧ K2 0 n S1 U ∧ S1.length ≤ U.length) (by simp [rangeV]; omega) ⟨[], pool, rfl, h1, .refl _, rfl, by omega, by simpa using T1, .refl _, by omega⟩ (fun _ _ _ _ _ => trivial) (fun i a U ⟨ys, zs, e, _, _, l, _⟩ => by rw [e, List.length_map]; omega) ?_ ?_
  · rintro i v a U hv ⟨ys, zs, rfl, hz, pm, l, li, TU, kU, lU⟩
    have hi : i < s := by
      have := (List.getElem?_eq_some_iff.mp hv).1
      simp [rangeV] at this
      omega
    have lz : ys.length + zs.length = 8 := by rw [← List.length_append]; exact pm.length_eq
    refine bn rfl ?_
    array_get_dec
    rw [List.length_map]
    refine (draw_wp TU (m := (zs.length : Int)) (by omega) (by omega) (by omega)).imp ?_
    rintro _ U1 ⟨d, rfl, d0, d1, T2, k2⟩
    obtain ⟨k, rfl⟩ := Int.eq_ofNat_of_zero_le d0
    have hk : k < zs.length := by omega
    array_get_dec
    have z1 : U1[n]? = some (.lst (zs.map .str)) := k2 n _ (by omega) hz
    refine vPop (k := k) rfl z1 rfl (by rw [List.getElem?_map, List.getElem?_eq_getElem hk]; rfl) (by rw [List.length_map]; omega) ?_
    intro U2 l_U2 g_U2 k_U2
    have l2 : U.length ≤ U1.length := k2.len (by omega)
    refine ⟨ys ++ [zs[k]], zs.eraseIdx k, by rw [List.map_append]; rfl, by rw [g_U2, erase_map], perm_pop pm (List.getElem?_eq_getElem hk), by rw [List.length_append, l]; rfl, by omega, ?_, kU.trans ((K2.kx k2).trans (K2.ky k_U2)), by omega⟩
    have := T2.kx k_U2 hn
    rw [show (B : Int) + 1 + ((i + 1 : Nat) : Int) = B + 1 + i + 1 by omega]
    exact this
  · rintro a U ⟨ys, zs, rfl, hz, pm, l, li, TU, kU, lU⟩
    intro U1 r e_r l_U1 g_r k_U1
    have ez : (Int.toNat (s : Int)) = s := by omega
    simp only [rangeV, List.length_map, List.length_range, ez] at l TU
    have nr : n < U.length := by omega
    exact ⟨r, ys, zs, rfl, g_r, pm, by omega, (TU.mono (by omega)).fr k_U1, (K2.kx k1).trans (kU.trans (.kn k_U1)), by omega, by omega, by omega⟩
theorem pairs_wp {B : Int} (T : Tf S B) (hB : B + 60 < 2 ^ 40) : Wp (pairsL_ [.ref 0] S) fun v U => ∃ P, v = .ptu (P.map fpV) ∧ POk P ∧ Tf U (B + 40) ∧ Kx 0 S U := by
  have s3 : 3 ≤ S.length := by
    obtain ⟨_, _, _, _, h, _⟩ := T.ex
    have := lt_of_at h
    omega
  refine AL.wf ?_; simp only [List.map_cons, List.map_nil, List.length_cons, List.length_nil, Nat.reduceAdd, Nat.reduceSub, List.replicate_succ, List.replicate_zero, List.cons_append, List.nil_append]; unfold pairsL_B; array_get_dec
  intro S1 p e_p l_S1 g_p k_S1
  refine bn rfl ?_
  dsimp only [List.set_cons_zero, List.set_cons_succ]
  refine ws_seq (ws_asg (wCall (wa1 ((pop_wp (T.fr k_S1) (by omega) g_p (by omega)).imp ?_))))
  rintro _ S2 ⟨r, ys, zs, rfl, hr, pm, l8, T2, k2, pr, r3, lr⟩
  obtain ⟨nd, inp⟩ := names_nd pm
  refine wa0 (vSortGS rfl hr (by omega) ?_)
  intro S3 q e_q l_S3 g_q k_S3
  generalize hns : sortS ys = ns at g_q
  have pn : ns.Perm ys := hns ▸ sortS_perm ys
  have ln : ns.length ≤ 8 := by rw [pn.length_eq]; exact l8
  have ndn : ns.Nodup := pn.nodup_iff.mpr nd
  have inn : ∀ x ∈ ns, x ∈ pool := fun x hx => inp x (pn.mem_iff.mp hx)
  have lq : r < q := by have := lt_of_at hr; omega
  have T3 := T2.fr k_S3
  array_get_dec
  refine .inr ⟨_, _, rfl, g_q, ?_⟩
  refine lc_inv (fun i a V => ∃ P : List (Str × Str), a = P.map fpV ∧ P.map (·.1) = ns.take i ∧ (∀ p ∈ P, NmOk p.2) ∧ i ≤ ns.length ∧ Tf V (B + 9 + (i : Nat)) ∧ Kx 0 S3 V) (by rw [List.length_map]; omega) ⟨[], rfl, rfl, by simp, by omega, T3.mono (by omega), .refl _ _⟩ (fun i a V _ ⟨_, _, _, _, _, _, k⟩ => k _ _ (by omega) g_q) (fun i a V ⟨P, e, e2, _, hi, _⟩ => by rw [e, List.length_map, ← List.length_map (f := (·.1)), e2, List.length_take]; omega) ?_ ?_
  · rintro i v a V hv ⟨P, rfl, e2, nm, hi, TV, kV⟩
    rw [List.getElem?_map] at hv
    obtain ⟨x, hx, rfl⟩ := Option.map_eq_some_iff.mp hv
    obtain ⟨li, ex⟩ := List.getElem?_eq_some_iff.mp hx
    have gq : V[q]? = some (.lst (ns.map .str)) := kV _ _ (by omega) g_q
    refine bn rfl ?_
    array_get_dec
    intro V1 o e_o l_V1 g_o k_V1
    refine vCatL rfl rfl (k_V1 _ _ gq) g_o (by rw [List.length_map]; simp; omega) ?_
    intro V2 c e_c l_V2 g_c k_V2
    array_get_dec
    rw [List.length_map]
    refine (draw_wp ((TV.fr k_V1).fr k_V2) (m := (ns.length : Int) + 1) (by omega) (by omega) (by omega)).imp ?_
    rintro _ V3 ⟨d, rfl, d0, d1, T4, k4⟩
    obtain ⟨k, rfl⟩ := Int.eq_ofNat_of_zero_le d0
    have g3 : V3[c]? = some (.lst ((ns ++ [("out" : Str)]).map .str)) := by
      rw [k4 _ _ (by have := lt_of_at (k_V1 _ _ gq); omega) g_c, List.map_append]
      rfl
    have hk : k < (ns ++ [("out" : Str)]).length := by rw [List.length_append, List.length_singleton]; omega
    refine vIxL rfl rfl g3 (atI_nat (by rw [List.getElem?_map, List.getElem?_eq_getElem hk]; rfl)) ?_
    array_get_dec
    have tk : ns.take (i + 1) = ns.take i ++ [x] := by rw [List.take_succ_eq_append_getElem li, ex]
    refine ⟨P ++ [(x, (ns ++ [("out" : Str)])[k])], by rw [List.map_append]; rfl, by rw [List.map_append, e2, tk]; rfl, fun p hp => ?_, by omega, ?_, kV.trans (((k_V1.trans k_V2).kx 0).trans k4)⟩
    · rcases List.mem_append.mp hp with h | h
      · exact nm p h
      · rw [List.mem_singleton.mp h]
        have := List.getElem_mem hk
        rcases List.mem_append.mp this with h2 | h2
        · exact nm_pool (inn _ h2)
        · rw [show (ns ++ [("out" : Str)])[k] = "out" from List.mem_singleton.mp h2]
          exact out_ok
    · exact T4.mono (by omega)
  · rintro a V ⟨P, rfl, e2, nm, hi, TV, kV⟩
    rw [List.length_map, List.take_length] at e2
    rw [List.length_map] at TV
    have lP : P.length = ns.length := by rw [← e2, List.length_map]
    intro V1 o e_o l_V1 g_o k_V1
    array_get_dec
    refine .inr ⟨_, _, rfl, g_o, ?_⟩
    have o3 : 3 ≤ o := by have := lt_of_at (kV _ _ (by omega) g_q); omega
    refine lc_inv (fun i a W => ∃ R : List (Str × Str), a = R.map fpV ∧ R.Sublist (P.take i) ∧ i ≤ P.length ∧ Tf W (B + 20 + (i : Nat)) ∧ Kx 0 V1 W) (by rw [List.length_map]; omega) ⟨[], rfl, by simp, by omega, (TV.fr k_V1).mono (by omega), .refl _ _⟩ (fun i a W _ ⟨_, _, _, _, _, k⟩ => k _ _ (by omega) g_o) (fun i a W ⟨R, e, s, _⟩ => by
      rw [e, List.length_map]
      have := s.length_le
      rw [List.length_take] at this
      omega) ?_ ?_
    · rintro i v a W hv ⟨R, rfl, sb, li, TW, kW⟩
      rw [List.getElem?_map] at hv
      obtain ⟨x, hx, rfl⟩ := Option.map_eq_some_iff.mp hv
      obtain ⟨lt, ex⟩ := List.getElem?_eq_some_iff.mp hx
      have tk : P.take (i + 1) = P.take i ++ [x] := by rw [List.take_succ_eq_append_getElem lt, ex]
      refine bn rfl ?_
      array_get_dec
      refine (draw_wp TW (m := 7) (by omega) (by omega) (by omega)).imp ?_
      rintro _ W1 ⟨d, rfl, d0, d1, T5, k5⟩
      array_get_dec
      have T6 : Tf W1 (B + 20 + ((i + 1 : Nat) : Int)) := T5.mono (by omega)
      refine Br.of (fun c => ?_) (fun c => ?_)
      · array_get_dec
        exact ⟨R ++ [x], by rw [List.map_append]; rfl, by rw [tk]; exact sb.append (.refl _), lt, T6, kW.trans k5⟩
      · exact ⟨R, rfl, by rw [tk]; exact sb.trans (List.sublist_append_left _ _), lt, T6, kW.trans k5⟩
    · rintro a W ⟨R, rfl, sb, li, TW, kW⟩
      rw [List.length_map] at sb TW
      rw [List.take_length] at sb
      intro W1 r9 e_r9 l_W1 g_r9 k_W1
      array_get_dec
      refine vTupP rfl g_r9 ?_
      refine ⟨R, rfl, ⟨(sb.map _).nodup (by rw [e2]; exact ndn), by have := sb.length_le; omega, fun p hp => ⟨?_, nm p (sb.subset hp)⟩⟩, (TW.fr k_W1).mono (by omega), ?_⟩
      · have : p.1 ∈ P.map (·.1) := List.mem_map_of_mem (sb.subset hp)
        rw [e2] at this
        exact nm_pool (inn _ this)
      · intro j o' hj ho
        have h2 : S2[j]? = some o' := k2 j o' hj (by have := lt_of_at ho; omega) (k_S1 _ _ ho)
        exact k_W1 _ _ (kW _ _ hj (k_V1 _ _ (kV _ _ hj (k_S3 _ _ h2))))
theorem ringL_wp (ok : POk P) : Wp (ringL_ [.ptu (P.map fpV)] S) fun v U => v = ringO (FR P) ∧ Kn S U := by
  have l8 := ok.len
  have lD : (fpD P).length = P.length := List.length_map ..
  refine AL.wf ?_; simp only [List.map_cons, List.map_nil, List.length_cons, List.length_nil, Nat.reduceAdd, Nat.reduceSub, List.replicate_succ, List.replicate_zero, List.cons_append, List.nil_append]; unfold ringL_B; array_get_dec
  have pk : pairsK (P.map fpV) = some (fpD P) := pairs_map (fun p : Str × Str => p.1) (fun p : Str × Str => Val.str p.2) P
  refine vDictP rfl pk ?_
  rw [show mergeA [] (fpD P) = fpD P from merge_app (fpD P) [] (by rw [List.nil_append]; exact nd_inr (fun p : Str × Str => p.1) (fun p : Str × Str => Val.str p.2) ok.nd)]
  intro S1 rd e_rd l_S1 g_rd k_S1
  array_get_dec
  refine wUnp ?_
  array_get_dec
  refine .inl ⟨_, rfl, ?_⟩
  refine ws_loop (fun i ρ U => (∃ a2 a3 a4 : Option Val, ρ = [some (.ptu (P.map fpV)), some (.ref rd), a2, a3, a4]) ∧ Kn S1 U ∧ ∀ q ∈ P.take i, RG P q.1 = none) ⟨⟨_, _, _, rfl⟩, .refl _, fun q h => by simp at h⟩ (fun _ _ _ _ _ => trivial) ?_ ?_
  · rintro i v ρ U hv ⟨⟨a2, a3, a4, rfl⟩, kU, hN⟩
    rw [List.getElem?_map] at hv
    obtain ⟨t, ht, rfl⟩ := Option.map_eq_some_iff.mp hv
    obtain ⟨lt, et⟩ := List.getElem?_eq_some_iff.mp ht
    have tk : P.take (i + 1) = P.take i ++ [t] := by rw [List.take_succ_eq_append_getElem lt, et]
    have gd := kU _ _ g_rd
    refine bn rfl ?_
    dsimp only [List.set_cons_zero, List.set_cons_succ]
    array_get_dec
    intro S2 rf e_rf l_S2 g_rf k_S2
    have gd2 := k_S2 _ _ gd
    have lrd := lt_of_at gd
    array_get_dec
    refine ws_while (fun _ U => match U[rf]? with | some (.lst vs) => P.length + 2 - vs.length | _ => 0)
      (fun ρ W => ∃ (l : List Str) (y : Str), ρ = [some (.ptu (P.map fpV)), some (.ref rd), some (.str t.1), some (.str t.2), some (.ref rf)] ∧ W[rf]? = some (.lst ((l ++ [y]).map .str)) ∧ Kx rf S2 W ∧ Wk P t.1 l y ∧ RG P t.1 = rg P t.1 (9 - l.length) l y)
      ⟨[], t.1, rfl, g_rf, .refl _ _, .one, rfl⟩ ?_
    rintro _ W ⟨l, y, rfl, gr, kW, w, e⟩
    have gdW : W[rd]? = some (.dic (fpD P)) := kW _ _ (by omega) gd2
    have ln := w.len
    have knW : Kn U W := fun q o ho => by
      have := lt_of_at ho
      exact kW q o (by omega) (k_S2 _ _ ho)
    array_get_dec
    refine ⟨_, _, rfl, gdW, ?_⟩
    array_get_dec
    refine vIxL rfl rfl gr at_y ?_
    array_get_dec
    refine ⟨_, _, gdW, rfl, ?_⟩
    rw [val_ld, show ((ld P y).map Val.str).getD (.str t.1) = .str ((ld P y).getD t.1) by cases ld P y <;> rfl]
    array_get_dec
    refine vInL gr ?_
    refine tb rfl (Br.of (fun c => ?_) (fun c => ?_))
    · have c : (ld P y).getD t.1 ∉ l ++ [y] := by simpa using c
      cases hv : ld P y with
      | none =>
        rw [hv] at c
        exact absurd w.mem c
      | some z =>
        rw [hv] at c
        have c : z ∉ l ++ [y] := c
        have ne : z ≠ t.1 := fun h => c (h ▸ w.mem)
        have l2 := w.len2 hv
        array_get_dec
        refine vIxL rfl rfl gr at_y ?_
        refine vIxD rfl gdW rfl (by rw [val_ld, hv]; rfl) ?_
        array_get_dec
        refine vApp rfl gr ?_ (small (by rw [List.length_map, List.length_append, List.length_singleton]; omega))
        intro V l_V g_V k_V
        refine ⟨⟨l ++ [y], z, rfl, by rw [g_V, List.map_append (l₁ := l ++ [y])]; rfl, kW.trans k_V, w.next hv c, ?_⟩, ?_⟩
        · rw [e, show 9 - l.length = (9 - (l ++ [y]).length) + 1 by simp; omega]
          exact rg_next hv ne c
        · simp only [g_V, gr, List.length_append, List.length_map, List.length_singleton]
          omega
    · have c : (ld P y).getD t.1 ∈ l ++ [y] := by simpa only [if_true, Bool.not_eq_false', decide_eq_true_eq] using c
      have next : RG P t.1 = none → (∃ a2 a3 a4 : Option Val, ([some (.ptu (P.map fpV)), some (.ref rd), some (.str t.1), some (.str t.2), some (.ref rf)] : Rho) = [some (.ptu (P.map fpV)), some (.ref rd), a2, a3, a4]) ∧ Kn S1 W ∧ ∀ q ∈ P.take (i + 1), RG P q.1 = none := fun hr => by
        refine ⟨⟨_, _, _, rfl⟩, kU.trans knW, fun q hq => ?_⟩
        rw [tk] at hq
        rcases List.mem_append.mp hq with h | h
        · exact hN q h
        · rw [List.mem_singleton.mp h]
          exact hr
      array_get_dec
      refine vIxL rfl rfl gr at_y ?_
      array_get_dec
      refine vInD gdW ?_
      rw [val_ld]
      cases hv : ld P y with
      | none =>
        refine tb rfl (brF rfl ?_)
        refine brF rfl ?_
        array_get_dec
        exact next (by rw [e, rg_none (by omega) hv])
      | some z =>
        rw [hv] at c
        have c : z ∈ l ++ [y] := c
        refine tb rfl (brT rfl ?_)
        array_get_dec
        refine vIxL rfl rfl gr at_y ?_
        refine vIxD rfl gdW rfl (by rw [val_ld, hv]; rfl) ?_
        array_get_dec
        refine Br.of (fun c2 => ?_) (fun c2 => ?_)
        · have c2 : z = t.1 := of_decide_eq_true c2
          subst c2
          array_get_dec
          rw [fr_at ht hN (by rw [e, rg_ring (by omega) hv])]
          exact ⟨rfl, k_S1.trans (kU.trans knW)⟩
        · array_get_dec
          exact next (by rw [e, rg_cyc (by omega) hv (of_decide_eq_false c2) c])
  · rintro ρ U ⟨⟨a2, a3, a4, rfl⟩, kU, hN⟩
    array_get_dec
    rw [fr_no fun q hq => hN q (by rw [List.length_map, List.take_length]; exact hq)]
    exact ⟨rfl, k_S1.trans kU⟩
theorem rg_mem {Q : Str → Prop} (hP : ∀ p ∈ P, Q p.2) : ∀ {n : Nat} {l : List Str} {y : Str} {r : List Str}, (∀ a ∈ l ++ [y], Q a) → rg P x n l y = some r → (∀ a ∈ r, Q a) ∧ r.length ≤ l.length + n
  | 0, _, _, _, _, h => by cases h
  | n + 1, l, y, r, ha, h => by
    rw [rg] at h
    cases hv : ld P y with
    | none => rw [hv] at h; cases h
    | some z =>
      rw [hv] at h
      dsimp only at h
      split at h
      · cases h
        exact ⟨ha, by simp⟩
      · split at h
        · cases h
        · have qz : Q z := by
            obtain ⟨p, hp, e⟩ := Option.map_eq_some_iff.mp hv
            rw [← e]
            exact hP p (List.mem_of_find?_eq_some hp)
          obtain ⟨h1, h2⟩ := rg_mem hP (l := l ++ [y]) (y := z) (fun a h3 => by
            rcases List.mem_append.mp h3 with h4 | h4
            · exact ha a h4
            · rw [List.mem_singleton.mp h4]
              exact qz) h
          refine ⟨h1, ?_⟩
          rw [List.length_append, List.length_singleton] at h2
          omega
theorem fr_mem (ok : POk P) {r : List Str} (h : FR P = some r) : (∀ a ∈ r, NmOk a) ∧ r.length ≤ 9 := by
  obtain ⟨p, hp, e⟩ := List.exists_of_findSome?_eq_some h
  have := rg_mem (Q := NmOk) (fun q hq => (ok.nm q hq).2) (l := []) (y := p.1) (fun a ha => by
    rw [List.nil_append] at ha
    rw [List.mem_singleton.mp ha]
    exact (ok.nm p hp).1) e
  simpa using this
end
end K63
namespace AL
open PySem PySem.Spec PyProof.Rows L2 G Th K37 Od
mutual
inductive Tl (S : Sto) (Fo : Nat → Prop) (m : Nat) : Nat → Val → PyData → Prop
  | non {n : Nat} : Tl S Fo m n .non .none
  | bl {n : Nat} (b : Bool) : Tl S Fo m n (.bl b) (.bool b)
  | int {n : Nat} (i : Int) (h : i.natAbs ≤ m) : Tl S Fo m n (.int i) (.int i)
  | str {n : Nat} (x : Str) (h : PyData.strOk x = true) (l : x.cps.size ≤ 70) : Tl S Fo m n (.str x) (.str x)
  | tup {n : Nat} {vs : List Val} {ds : List PyData} (h : TlL S Fo m n vs ds) : Tl S Fo m (n + 1) (.tup vs) (.tuple ds)
  | lst {n r : Nat} {vs : List Val} {ds : List PyData} (f : Fo r) (g : S[r]? = some (.lst vs)) (h : TlL S Fo m n vs ds) : Tl S Fo m (n + 1) (.ref r) (.list ds)
inductive TlL (S : Sto) (Fo : Nat → Prop) (m : Nat) : Nat → List Val → List PyData → Prop
  | nil {n : Nat} : TlL S Fo m n [] []
  | cons {n : Nat} {v : Val} {vs : List Val} {d : PyData} {ds : List PyData} (h : Tl S Fo m n v d) (hs : TlL S Fo m n vs ds) : TlL S Fo m n (v :: vs) (d :: ds)
end
section
variable {S T : Sto} {Fo Fo' : Nat → Prop} {m m' : Nat}
mutual
theorem Tl.up {n : Nat} {v : Val} {d : PyData} (hm : m ≤ m') (k : ∀ r vs, Fo r → S[r]? = some (.lst vs) → Fo' r ∧ T[r]? = some (.lst vs)) : Tl S Fo m n v d → ∀ n', n ≤ n' → Tl T Fo' m' n' v d
  | .non, n', _ => .non
  | .bl b, n', _ => .bl b
  | .int i h, n', _ => .int i (by omega)
  | .str x h l, n', _ => .str x h l
  | .tup h, n', hn => by
    obtain ⟨j, rfl⟩ : ∃ j, n' = j + 1 := ⟨n' - 1, by omega⟩
    exact .tup (TlL.up hm k h j (by omega))
  | .lst f g h, n', hn => by
    obtain ⟨j, rfl⟩ : ∃ j, n' = j + 1 := ⟨n' - 1, by omega⟩
    obtain ⟨f', g'⟩ := k _ _ f g
    exact .lst f' g' (TlL.up hm k h j (by omega))
theorem TlL.up {n : Nat} {vs : List Val} {ds : List PyData} (hm : m ≤ m') (k : ∀ r vs, Fo r → S[r]? = some (.lst vs) → Fo' r ∧ T[r]? = some (.lst vs)) : TlL S Fo m n vs ds → ∀ n', n ≤ n' → TlL T Fo' m' n' vs ds
  | .nil, _, _ => .nil
  | .cons h hs, n', hn => .cons (Tl.up hm k h n' hn) (TlL.up hm k hs n' hn)
end
mutual
theorem Tl.toD {n : Nat} {v : Val} {d : PyData} : Tl S Fo m n v d → ∀ k, n < k → toD S k v = some d
  | .non, k + 1, _ => rfl
  | .bl b, k + 1, _ => rfl
  | .int i h, k + 1, _ => rfl
  | .str x h l, k + 1, _ => rfl
  | .tup h, k + 1, hk => by
    show (mapO (AL.toD S k) _).map PyData.tuple = _
    rw [TlL.toD h k (by omega)]
    rfl
  | .lst f g h, k + 1, hk => by
    rw [AL.toD]
    simp only [g, TlL.toD h k (by omega), Option.map_some]
theorem TlL.toD {n : Nat} {vs : List Val} {ds : List PyData} : TlL S Fo m n vs ds → ∀ k, n < k → mapO (AL.toD S k) vs = some ds
  | .nil, _, _ => rfl
  | .cons h hs, k, hk => by
    unfold mapO
    rw [Tl.toD h k hk, TlL.toD hs k hk]
    rfl
end
mutual
theorem Tl.ok {n : Nat} {v : Val} {d : PyData} (hm : m < 2 ^ 900) : Tl S Fo m n v d → okD d = true ∧ d.depth ≤ n
  | .non => ⟨rfl, by simp [PyData.depth]⟩
  | .bl b => ⟨rfl, by simp [PyData.depth]⟩
  | .int i h => ⟨decide_eq_true (by omega), by simp [PyData.depth]⟩
  | .str x h l => ⟨h, by simp [PyData.depth]⟩
  | .tup h => by
    obtain ⟨a, b⟩ := TlL.ok hm h
    exact ⟨a, by simp only [PyData.depth]; omega⟩
  | .lst f g h => by
    obtain ⟨a, b⟩ := TlL.ok hm h
    exact ⟨a, by simp only [PyData.depth]; omega⟩
theorem TlL.ok {n : Nat} {vs : List Val} {ds : List PyData} (hm : m < 2 ^ 900) : TlL S Fo m n vs ds → okAll ds = true ∧ PyData.depthAll ds ≤ n
  | .nil => ⟨rfl, by simp [PyData.depthAll]⟩
  | .cons h hs => by
    obtain ⟨a, b⟩ := Tl.ok hm h
    obtain ⟨c, e⟩ := TlL.ok hm hs
    refine ⟨by show (okD _ && okAll _) = true; rw [a, c]; rfl, ?_⟩
    simp only [PyData.depthAll]
    omega
end
theorem Tl.shaped {n : Nat} {v : Val} {d : PyData} (hm : m < 2 ^ 900) (hn : n ≤ 38) (h : Tl S Fo m n v d) : SeqAt.shaped d = true := by
  obtain ⟨a, b⟩ := h.ok hm
  have := (ok_show d a).2.2.1
  unfold SeqAt.shaped
  rw [this, decide_eq_true (by omega)]
  rfl
theorem Tl.repr {n : Nat} {v : Val} {d : PyData} (hm : m < 2 ^ 900) (hn : n ≤ 38) (hw : d.weight ≤ 40000) (h : Tl S Fo m n v d) : gRepr [v] S = some (.str d.shown, S) := by
  obtain ⟨a, b⟩ := h.ok hm
  exact (Dt.repr (n := n) (w := d.weight) ⟨a, Nat.le_refl _, b, h.toD⟩ (by omega) hw)
theorem TlL.len {n : Nat} {vs : List Val} {ds : List PyData} : TlL S Fo m n vs ds → ds.length = vs.length
  | .nil => rfl
  | .cons _ hs => by rw [List.length_cons, List.length_cons, TlL.len hs]
theorem TlL.app {n : Nat} : ∀ {vs ws : List Val} {ds es : List PyData}, TlL S Fo m n vs ds → TlL S Fo m n ws es → TlL S Fo m n (vs ++ ws) (ds ++ es)
  | _, _, _, _, .nil, g => g
  | _, _, _, _, .cons h hs, g => .cons h (hs.app g)
theorem TlL.take {n : Nat} : ∀ (k : Nat) {vs : List Val} {ds : List PyData}, TlL S Fo m n vs ds → TlL S Fo m n (vs.take k) (ds.take k)
  | 0, _, _, _ => .nil
  | k + 1, _, _, .nil => .nil
  | k + 1, _, _, .cons h hs => .cons h (hs.take k)
theorem TlL.drop {n : Nat} : ∀ (k : Nat) {vs : List Val} {ds : List PyData}, TlL S Fo m n vs ds → TlL S Fo m n (vs.drop k) (ds.drop k)
  | 0, _, _, h => h
  | k + 1, _, _, .nil => .nil
  | k + 1, _, _, .cons h hs => hs.drop k
theorem TlL.rev {n : Nat} : ∀ {vs : List Val} {ds : List PyData}, TlL S Fo m n vs ds → TlL S Fo m n vs.reverse ds.reverse
  | _, _, .nil => .nil
  | _, _, .cons h hs => by
    rw [List.reverse_cons, List.reverse_cons]
    exact hs.rev.app (.cons h .nil)
theorem TlL.get {n : Nat} : ∀ {k : Nat} {vs : List Val} {ds : List PyData} {v : Val}, TlL S Fo m n vs ds → vs[k]? = some v → ∃ d, ds[k]? = some d ∧ Tl S Fo m n v d
  | _, _, _, _, .nil, h => by simp at h
  | 0, _, _, _, .cons h hs, e => by
    simp only [List.getElem?_cons_zero, Option.some.injEq] at e ⊢
    subst e
    exact ⟨_, rfl, h⟩
  | k + 1, _, _, _, .cons h hs, e => by
    simp only [List.getElem?_cons_succ] at e ⊢
    exact hs.get e
theorem TlL.mem {n : Nat} {vs : List Val} {ds : List PyData} {v : Val} (h : TlL S Fo m n vs ds) (hv : v ∈ vs) : ∃ d ∈ ds, Tl S Fo m n v d := by
  obtain ⟨k, hk⟩ := List.getElem?_of_mem hv
  obtain ⟨d, hd, t⟩ := h.get hk
  exact ⟨d, List.mem_of_getElem? hd, t⟩
theorem w_app : ∀ a b : List PyData, PyData.weightAll (a ++ b) = PyData.weightAll a + PyData.weightAll b
  | [], b => by simp [PyData.weightAll]
  | x :: a, b => by
    rw [List.cons_append]
    simp only [PyData.weightAll, w_app a b]
    omega
theorem w_split (k : Nat) (ds : List PyData) : PyData.weightAll (ds.take k) + PyData.weightAll (ds.drop k) = PyData.weightAll ds := by
  rw [← w_app, List.take_append_drop]
theorem w_rev : ∀ ds : List PyData, PyData.weightAll ds.reverse = PyData.weightAll ds
  | [] => rfl
  | x :: ds => by
    rw [List.reverse_cons, w_app, w_rev ds]
    simp only [PyData.weightAll]
    omega
theorem w_at {k : Nat} {ds : List PyData} {d : PyData} (h : ds[k]? = some d) : PyData.weightAll (ds.take k) + (d.weight + 1) + PyData.weightAll (ds.drop (k + 1)) = PyData.weightAll ds := by
  obtain ⟨lt, e⟩ := List.getElem?_eq_some_iff.mp h
  have := w_split k ds
  rw [List.drop_eq_getElem_cons lt, e] at this
  simp only [PyData.weightAll] at this
  omega
end
end AL
namespace K55
open PySem PySem.Spec PyProof.Rows L2 G Th AL KL Fr Od
open K57 (feedL_ feedL_B drawL_ drawL_B endsL_ endsL_B Tf draw_wp)
open K37 (fmod_lt p60 p40 at_ints)
open K08 (ws_cut)
section
variable {S : Sto} {Fo : Nat → Prop} {m n : Nat} {v : Val} {d : PyData}
theorem cutN (vs : List Val) (k : Nat) (hk : k ≤ vs.length) : cutL vs none (some (k : Int)) = vs.take k := by
  unfold cutL
  rw [HT.sIx_nat, HT.sIx_none, List.drop_zero, Nat.sub_zero, Nat.min_eq_left hk]
theorem cutD (vs : List Val) (k : Nat) : cutL vs (some (k : Int)) none = vs.drop k := by
  unfold cutL
  rw [HT.sIx_nat, HT.sIx_none]
  rcases Nat.le_total k vs.length with h | h
  · rw [Nat.min_eq_left h, ← List.length_drop, List.take_length]
  · rw [Nat.min_eq_right h, List.drop_length, List.drop_eq_nil_of_le h, List.take_nil]
theorem cutS (vs : List Val) (k : Nat) : cutL vs (some ((k : Int) + 1)) none = vs.drop (k + 1) := cutD vs (k + 1)
theorem cutO (vs : List Val) (k : Nat) (hk : k < vs.length) : cutL vs (some (k : Int)) (some ((k : Int) + 1)) = (vs.drop k).take 1 := by
  rw [show (k : Int) + 1 = ((k + 1 : Nat) : Int) by omega]
  unfold cutL
  rw [HT.sIx_nat, HT.sIx_nat, Nat.min_eq_left (by omega), Nat.min_eq_left (by omega), Nat.add_sub_cancel_left]
def isTu : Val → Bool
  | .tup _ => true
  | _ => false
def isIn : Val → Bool
  | .int _ => true
  | .bl _ => true
  | _ => false
def isTx : Val → Bool
  | .str _ => true
  | _ => false
theorem isTu_wp {Q : Val → Sto → Prop} (h : Tl S Fo m n v d) (q : Q (.bl (isTu v)) S) : Wp (gIsi "tuple" v S) Q := by
  cases h with
  | non => exact vIsi rfl kit_NoneType_tuple q
  | bl b => exact vIsi rfl kit_bool_tuple q
  | int i h => exact vIsi rfl kit_int_tuple q
  | str x h l => exact vIsi rfl kit_str_tuple q
  | tup h => exact vIsi rfl kit_tuple_tuple q
  | lst f g h => exact vIsi (by simp only [tyN, g]) kit_list_tuple q
theorem isIn_wp {Q : Val → Sto → Prop} (h : Tl S Fo m n v d) (q : Q (.bl (isIn v)) S) : Wp (gIsi "int" v S) Q := by
  cases h with
  | non => exact vIsi rfl kit_NoneType_int q
  | bl b => exact vIsi rfl kit_bool_int q
  | int i h => exact vIsi rfl kit_int_int q
  | str x h l => exact vIsi rfl kit_str_int q
  | tup h => exact vIsi rfl kit_tuple_int q
  | lst f g h => exact vIsi (by simp only [tyN, g]) kit_list_int q
theorem isTx_wp {Q : Val → Sto → Prop} (h : Tl S Fo m n v d) (q : Q (.bl (isTx v)) S) : Wp (gIsi "str" v S) Q := by
  cases h with
  | non => exact vIsi rfl kit_NoneType_str q
  | bl b => exact vIsi rfl kit_bool_str q
  | int i h => exact vIsi rfl kit_int_str q
  | str x h l => exact vIsi rfl kit_str_str q
  | tup h => exact vIsi rfl kit_tuple_str q
  | lst f g h => exact vIsi (by simp only [tyN, g]) kit_list_str q
theorem vNeNilT {Q : Val → Sto → Prop} {vs : List Val} {ds : List PyData} (hm : m < 2 ^ 900) (hn : n ≤ 37) (h : TlL S Fo m n vs ds) (q : Q (.bl (!vs.isEmpty)) S) : Wp (gNe (.tup vs) (.tup []) S) Q := by
  have e1 : eqS (.tup vs) (.tup []) = none := rfl
  have hT : Tl S Fo m (n + 1) (.tup vs) (.tuple ds) := .tup h
  refine ⟨_, S, ?_, q⟩
  unfold gNe eqA
  rw [e1]
  have t0 : toD S 40 (.tup []) = some (.tuple []) := rfl
  simp only [hT.toD 40 (by omega), t0]
  rw [if_pos ⟨hT.shaped hm (by omega), by decide⟩]
  cases h with
  | nil => rfl
  | cons a b => rfl

theorem Tl.kx {T : Sto} (h : Tl S Fo m n v d) (hz : ∀ r, Fo r → r ≠ 0) (k : Kx 0 S T) : Tl T Fo m n v d := h.up (Nat.le_refl _) (fun r vs f g => ⟨f, k r _ (hz r f) g⟩) n (Nat.le_refl _)
theorem TlL.kx {T : Sto} {vs : List Val} {ds : List PyData} (h : TlL S Fo m n vs ds) (hz : ∀ r, Fo r → r ≠ 0) (k : Kx 0 S T) : TlL T Fo m n vs ds := h.up (Nat.le_refl _) (fun r vs f g => ⟨f, k r _ (hz r f) g⟩) n (Nat.le_refl _)
theorem TlL.one (h : Tl S Fo m n v d) : TlL S Fo m n [v] [d] := .cons h .nil
noncomputable abbrev oddE : EF := (eB gIxA (eLst (aCons (eC .non) (aCons (eC (.str "")) (aCons (eC (.str "a")) (aCons (eC (.str "zzz")) (aCons (eC (.int 0)) (aCons (eU gNeg (eC (.int 1))) (aCons (eC (.bl true)) (aCons (eC (.bl false)) (aCons (eB gPow (eC (.int 10)) (eC (.int 59))) (aCons (eTup aNil) (aCons (eLst aNil) (aCons (eTup (aCons (eC (.str "a")) (aCons (eC (.str "b")) aNil))) (aCons (eC (.str "toolongword")) aNil)))))))))))))) (eDef drawL_ 2 (aCons (eV 0) (aCons (eC (.int 13)) aNil))))
def M0 : Nat := 10 ^ 59
theorem vListT {Q : Val → Sto → Prop} {x : Val} {vs : List Val} (hx : x = .tup vs) (q : Nw S (.lst vs) Q) : Wp (gList [x] S) Q := by
  subst hx
  exact ⟨_, _, rfl, q.use⟩
theorem vAddTi {x y : Val} {Q : Val → Sto → Prop} {a b : Int} (hx : x = .int a) (hy : y = .int b) (q : Q (.int (a + b)) S) : Wp (gAddT x y S) Q := by
  subst hx hy
  exact ⟨_, _, rfl, q⟩
theorem odd_wp {B : Int} {ρ : Rho} (T : Tf S B) (hB : B < 2 ^ 40) (hm : M0 ≤ m) (hF : ∀ r, S.length ≤ r → Fo r) (h0 : ρ[0]? = some (some (.ref 0))) : Wp (oddE ρ S) fun v U => (∃ d, Tl U Fo m 1 v d ∧ d.weight ≤ 200) ∧ Tf U (B + 1) ∧ Kx 0 S U := by
  have h40 := p40
  have h60 := p60
  unfold oddE
  have cp : CPow 10 59 := ⟨by decide, by decide, by decide⟩
  array_get_dec
  refine vPow rfl rfl ?_ cp
  array_get_dec
  intro S1 r1 e_r1 l_S1 g_r1 k_S1
  array_get_dec
  intro S2 r2 e_r2 l_S2 g_r2 k_S2
  array_get_dec
  have k2 : Kn S S2 := k_S1.trans k_S2
  refine wv h0 ?_
  array_get_dec
  refine (draw_wp (T.fr k2) (by decide) (by decide) (by omega)).imp ?_
  rintro _ S3 ⟨x, rfl, x0, x1, t3, k3⟩
  have z1 : r1 ≠ 0 := by
    rintro rfl
    obtain ⟨ns, i, q, n, a, b, c⟩ := T.ex
    have := (List.getElem?_eq_some_iff.mp b).1
    omega
  have z2 : r2 ≠ 0 := by omega
  have g1 : S3[r1]? = some (.lst []) := k3 _ _ z1 (k_S2 _ _ g_r1)
  obtain ⟨y, hy, my⟩ := atI_mem (vs := [Val.non, Val.str (Str.ofString ""), Val.str (Str.ofString "a"), Val.str (Str.ofString "zzz"), Val.int 0, Val.int (-1), Val.bl true, Val.bl false, Val.int (10 ^ Int.toNat 59), Val.tup [], Val.ref r1, Val.tup [Val.str (Str.ofString "a"), Val.str (Str.ofString "b")], Val.str (Str.ofString "toolongword")]) x0 x1
  refine vIxL rfl rfl (k3 _ _ z2 g_r2) hy ?_
  refine ⟨?_, t3, (k2.kx 0).trans k3⟩
  have f1 : Fo r1 := hF _ (by omega)
  simp only [List.mem_cons, List.not_mem_nil, or_false] at my
  rcases my with rfl | rfl | rfl | rfl | rfl | rfl | rfl | rfl | rfl | rfl | rfl | rfl | rfl
  · exact ⟨_, .non, by decide⟩
  · exact ⟨_, .str _ (by decide +kernel) (by decide +kernel), by decide⟩
  · exact ⟨_, .str _ (by decide +kernel) (by decide +kernel), by decide⟩
  · exact ⟨_, .str _ (by decide +kernel) (by decide +kernel), by decide⟩
  · exact ⟨_, .int _ (by simp), by decide⟩
  · exact ⟨_, .int _ (Nat.le_trans (by decide) hm), by decide⟩
  · exact ⟨_, .bl _, by decide⟩
  · exact ⟨_, .bl _, by decide⟩
  · exact ⟨_, .int _ (Nat.le_trans (by decide) hm), by decide +kernel⟩
  · exact ⟨_, .tup .nil, by decide⟩
  · exact ⟨_, .lst f1 g1 .nil, by decide⟩
  · exact ⟨_, .tup (.cons (.str _ (by decide +kernel) (by decide +kernel)) (.cons (.str _ (by decide +kernel) (by decide +kernel)) .nil)), by decide⟩
  · exact ⟨_, .str _ (by decide +kernel) (by decide +kernel), by decide⟩
theorem int_wp {B : Int} {ρ : Rho} {i : Int} (hM : m + 3 < 2 ^ 199) (T : Tf S B) (hB : B < 2 ^ 40) (hi : i.natAbs ≤ m) (h0 : ρ[0]? = some (some (.ref 0))) (h1 : ρ[1]? = some (some (.int i))) : Wp ((eB gAddT (eV 1) (eB gIxA (eLst (aCons (eC (.int 1)) (aCons (eU gNeg (eC (.int 1))) (aCons (eC (.int 3)) aNil)))) (eDef drawL_ 2 (aCons (eV 0) (aCons (eC (.int 3)) aNil))))) ρ S) fun v U => (∃ d, Tl U Fo (m + 3) 1 v d ∧ d.weight ≤ (PyData.int i).weight + 200) ∧ Tf U (B + 1) ∧ Kx 0 S U := by
  have h40 := p40
  have h60 := p60
  array_get_dec
  refine wv h1 ?_
  array_get_dec
  intro S1 r1 e_r1 l_S1 g_r1 k_S1
  array_get_dec
  refine wv h0 ?_
  array_get_dec
  refine (draw_wp (T.fr k_S1) (by decide) (by decide) (by omega)).imp ?_
  rintro _ S3 ⟨x, rfl, x0, x1, t3, k3⟩
  have z1 : r1 ≠ 0 := by
    rintro rfl
    obtain ⟨ns, i, q, n, a, b, c⟩ := T.ex
    have := (List.getElem?_eq_some_iff.mp b).1
    omega
  obtain ⟨y, hy, my⟩ := atI_mem (vs := [Val.int 1, Val.int (-1), Val.int 3]) x0 x1
  have q : ∀ j : Int, j = 1 ∨ j = -1 ∨ j = 3 → ∃ d, Tl S3 Fo (m + 3) 1 (.int (i + j)) d ∧ d.weight ≤ (PyData.int i).weight + 200 := fun j hj => by
    refine ⟨_, .int _ (by omega), ?_⟩
    have a1 : (i + j).natAbs ≤ i.natAbs + 3 := by omega
    have a2 : (i + j).natAbs < 2 ^ 199 := by omega
    show (if (i + j == 0) = true then 0 else (i + j).natAbs.log2 + 1) ≤ _
    by_cases c : (i + j == 0) = true
    · rw [if_pos c]
      omega
    · rw [if_neg c]
      have c2 : (i + j).natAbs ≠ 0 := fun h => c (by rw [show i + j = 0 by omega]; rfl)
      have := (Nat.log2_lt c2).mpr a2
      omega
  have fin : ∀ j : Int, y = .int j → j = 1 ∨ j = -1 ∨ j = 3 → Wp (gAddT (.int i) y S3) fun v U => (∃ d, Tl U Fo (m + 3) 1 v d ∧ d.weight ≤ (PyData.int i).weight + 200) ∧ Tf U (B + 1) ∧ Kx 0 S U := fun j e hj => vAddTi rfl e ⟨q j hj, t3, (k_S1.kx 0).trans k3⟩
  refine vIxL rfl rfl (k3 _ _ z1 g_r1) hy ?_
  simp only [List.mem_cons, List.not_mem_nil, or_false] at my
  rcases my with rfl | rfl | rfl
  · exact fin _ rfl (.inl rfl)
  · exact fin _ rfl (.inr (.inl rfl))
  · exact fin _ rfl (.inr (.inr rfl))
theorem tfle {B : Int} {T : Sto} (t : Tf S B) (k : Kx 0 S T) : S.length ≤ T.length := by
  obtain ⟨ns, i, q, n, a, b, c⟩ := t.ex
  have h2 := (List.getElem?_eq_some_iff.mp a).1
  obtain ⟨o, ho⟩ : ∃ o, S[S.length - 1]? = some o := ⟨_, List.getElem?_eq_getElem (by omega)⟩
  have := (List.getElem?_eq_some_iff.mp (k _ _ (by omega) ho)).1
  omega
theorem bent_wp : ∀ (k n : Nat) {S : Sto} {B : Int} {v : Val} {d : PyData}, Tf S B → (∀ r, S.length ≤ r → Fo r) → (∀ r, Fo r → r ≠ 0) → Tl S Fo m n v d → n < k → d.weight ≤ 100000 → B + 6 * k < 2 ^ 40 → n ≤ 30 → M0 ≤ m → m + 3 < 2 ^ 199 → Wp (bentL_n k [.ref 0, v] S) fun v' U => (∃ d', Tl U Fo (m + 3) (n + 1) v' d' ∧ d'.weight ≤ 2 * d.weight + 300) ∧ Tf U (B + 6 * k) ∧ Kx 0 S U
  | 0, _, _, _, _, _, _, _, _, _, h, _, _, _, _, _ => absurd h (by omega)
  | k + 1, n, S, B, v, d, T, hF, hz, hv, kn, hw, hB, hn, hm, hM => by
    have h40 := p40
    have h60 := p60
    have h900 : m < 2 ^ 900 := Nat.lt_of_lt_of_le (show m < 2 ^ 199 by omega) (Nat.pow_le_pow_right (by decide) (by decide))
    have hB1 : ((k + 1 : Nat) : Int) = (k : Int) + 1 := by omega
    show Wp (runF 5 (bentL_B (bentL_n k)) [.ref 0, v] S) _
    refine AL.wf ?_
    simp only [List.map_cons, List.map_nil, List.length_cons, List.length_nil, Nat.reduceAdd, Nat.reduceSub, List.replicate_succ, List.replicate_zero, List.cons_append, List.nil_append]
    unfold bentL_B
    have odd : ∀ {d} (ρ : Rho) (U : Sto), Tf U (B + 2) → Kx 0 S U → S.length ≤ U.length → ρ[0]? = some (some (.ref 0)) → Wp (oddE ρ U) fun v' U' => (∃ d', Tl U' Fo (m + 3) (n + 1) v' d' ∧ d'.weight ≤ 2 * PyData.weight d + 300) ∧ Tf U' (B + 6 * ((k + 1 : Nat) : Int)) ∧ Kx 0 S U' := fun ρ U t k0 hl h0 => by
      refine (odd_wp (Fo := Fo) (m := m) t (by omega) hm (fun r hr => hF r (by omega)) h0).imp ?_
      rintro v' U' ⟨⟨d', a, b⟩, t', k'⟩
      exact ⟨⟨d', a.up (by omega) (fun r vs f g => ⟨f, g⟩) _ (by omega), by omega⟩, t'.mono (by omega), k0.trans k'⟩
    refine ws_seq (ws_cut (N' := fun ρ U => ρ[0]? = some (some (.ref 0)) ∧ ρ[1]? = some (some v) ∧ Tf U (B + 1) ∧ Kx 0 S U ∧ S.length ≤ U.length) ?_ ?_)
    · array_get_dec
      refine isTu_wp hv ?_
      cases hv with
      | @tup n' vs ds h =>
        array_get_dec
        refine vNeNilT h900 (by omega) h ?_
        array_get_dec
        refine Br.of (fun c => ?_) (fun c => ?_)
        · have vne : 0 < vs.length := by
            cases vs with
            | nil => exact absurd c (by decide)
            | cons a b => exact Nat.succ_pos _
          have dl := h.len
          have hw : PyData.weightAll ds ≤ 100000 := hw
          have wl : ∀ ds : List PyData, ds.length ≤ PyData.weightAll ds := fun ds => by
            induction ds with
            | nil => exact Nat.zero_le _
            | cons a b ih => simp only [PyData.weightAll, List.length_cons]; omega
          have wl1 := wl ds
          array_get_dec
          refine (draw_wp T (by decide) (by decide) (by omega)).imp ?_
          rintro _ S3 ⟨x, rfl, x0, x1, t3, k3⟩
          array_get_dec
          refine Br.of (fun c => ?_) (fun c => ?_)
          · array_get_dec
            refine (draw_wp t3 (by omega) (by omega) (by omega)).imp ?_
            rintro _ S4 ⟨y, rfl, y0, y1, t4, k4⟩
            array_get_dec
            refine (draw_wp t4 (by decide) (by decide) (by omega)).imp ?_
            rintro _ S5 ⟨z, rfl, z0, z1, t5, k5⟩
            have k05 : Kx 0 S S5 := (k3.trans k4).trans k5
            obtain ⟨p, rfl⟩ := Int.eq_ofNat_of_zero_le y0
            have hp : p < vs.length := by omega
            have h5 := TlL.kx h hz k05
            have l1 : (vs.take p).length ≤ vs.length := by rw [List.length_take]; omega
            have l2 : ∀ q, (vs.drop q).length ≤ vs.length := fun q => by rw [List.length_drop]; omega
            have l3 : ((vs.drop p).take 1).length ≤ vs.length := by rw [List.length_take, List.length_drop]; omega
            array_get_dec
            refine vSlA rfl ?_
            rw [cutN vs p (by omega)]
            array_get_dec
            refine vAddTi rfl rfl ?_
            array_get_dec
            refine vSlA rfl ?_
            rw [cutS]
            refine vAddT rfl rfl (by have := l2 (p + 1); omega) ?_
            array_get_dec
            refine vSlA rfl ?_
            rw [cutN vs p (by omega)]
            array_get_dec
            refine vAddTi rfl rfl ?_
            array_get_dec
            refine vSlA rfl ?_
            rw [cutO vs p hp]
            refine vAddT rfl rfl (by omega) ?_
            array_get_dec
            refine vSlA rfl ?_
            rw [cutD]
            refine vAddT rfl rfl (by have := l2 p; rw [List.length_append]; omega) ?_
            array_get_dec
            refine vRevT rfl ?_
            array_get_dec
            refine vListT rfl ?_
            intro S6 r6 e_r6 l_S6 g_r6 k_S6
            array_get_dec
            intro S7 r7 e_r7 l_S7 g_r7 k_S7
            array_get_dec
            have k57 : Kn S5 S7 := k_S6.trans k_S7
            have t7 : Tf S7 (B + 1 + 1 + 1) := t5.fr k57
            have k07 : Kx 0 S S7 := k05.trans (k57.kx 0)
            have le5 : S.length ≤ S5.length := tfle T k05
            have h7 : TlL S7 Fo m n' vs ds := TlL.kx h5 hz (k57.kx 0)
            have H7 : TlL S7 Fo (m + 3) (n' + 1) vs ds := h7.up (by omega) (fun r vs f g => ⟨f, g⟩) _ (by omega)
            have g6 : S7[r6]? = some (.lst vs) := k_S7 _ _ g_r6
            have f6 : Fo r6 := hF _ (by omega)
            have ws1 := w_split p ds
            have ws2 := w_split (p + 1) ds
            have w1 : PyData.weightAll (ds.take p) + PyData.weightAll (ds.drop (p + 1)) ≤ PyData.weightAll ds := by
              have e := List.getElem?_eq_getElem (l := ds) (i := p) (by omega)
              have := w_at e
              omega
            have w2 : PyData.weightAll ((ds.drop p).take 1) ≤ PyData.weightAll ds := by
              have := w_split 1 (ds.drop p)
              omega
            have tf : Tf S7 (B + 6 * ((k + 1 : Nat) : Int)) := t7.mono (by omega)
            refine Br.of (fun c => ?_) (fun c => ?_)
            · have c : z < 4 := of_decide_eq_true c
              array_get_dec
              have fin : ∀ v' d', Tl S7 Fo (m + 3) (n' + 1 + 1) v' d' → d'.weight ≤ 2 * PyData.weightAll ds + 300 → (∃ d', Tl S7 Fo (m + 3) (n' + 1 + 1) v' d' ∧ d'.weight ≤ 2 * (PyData.tuple ds).weight + 300) ∧ Tf S7 (B + 6 * ((k + 1 : Nat) : Int)) ∧ Kx 0 S S7 := fun v' d' a b => ⟨⟨d', a, b⟩, tf, k07⟩
              obtain ⟨y, hy, my⟩ := atI_mem (vs := [Val.tup (List.take p vs ++ List.drop (p + 1) vs), Val.tup (List.take p vs ++ List.take 1 (List.drop p vs) ++ List.drop p vs), Val.tup vs.reverse, Val.ref r6]) z0 c
              refine vIxL rfl rfl g_r7 hy ?_
              simp only [List.mem_cons, List.not_mem_nil, or_false] at my
              rcases my with rfl | rfl | rfl | rfl
              · refine fin _ _ (.tup ((H7.take p).app (H7.drop (p + 1)))) ?_
                show PyData.weightAll _ ≤ _
                rw [w_app]
                omega
              · refine fin _ _ (.tup (((H7.take p).app ((H7.drop p).take 1)).app (H7.drop p))) ?_
                show PyData.weightAll _ ≤ _
                rw [w_app, w_app]
                omega
              · refine fin _ _ (.tup H7.rev) ?_
                show PyData.weightAll _ ≤ _
                rw [AL.w_rev]
                omega
              · exact fin _ _ (.lst f6 g6 H7) (by show PyData.weightAll _ ≤ _; omega)
            · array_get_dec
              refine vSlA rfl ?_
              rw [cutN vs p (by omega)]
              array_get_dec
              have ev := List.getElem?_eq_getElem hp
              obtain ⟨dp, edp, hdp⟩ := h7.get ev
              have wp := w_at edp
              refine vIxT rfl rfl (atI_nat ev) ?_
              array_get_dec
              refine (bent_wp k n' t7 (fun r hr => hF r (by have := k57.len; omega)) hz hdp (by omega) (by omega) (by omega) (by omega) hm hM).imp ?_
              rintro v8 S8 ⟨⟨d8, a8, b8⟩, t8, k8⟩
              array_get_dec
              refine vAddT rfl rfl (by show _ + 1 ≤ _; omega) ?_
              array_get_dec
              refine vAddTi rfl rfl ?_
              array_get_dec
              refine vSlA rfl ?_
              rw [cutS]
              have H8 : TlL S8 Fo (m + 3) (n' + 1) vs ds := TlL.kx H7 hz k8
              refine vAddT rfl rfl (by rw [List.length_append]; have := l2 (p + 1); simp only [List.length_singleton]; omega) ?_
              refine ⟨⟨_, .tup (((H8.take p).app (TlL.one a8)).app (H8.drop (p + 1))), ?_⟩, t8.mono (by omega), k07.trans k8⟩
              show PyData.weightAll _ ≤ 2 * PyData.weightAll ds + 300
              rw [w_app, w_app]
              simp only [PyData.weightAll]
              omega
          · exact ws_nil ⟨rfl, rfl, t3, k3, tfle T k3⟩
        · exact brF rfl (ws_nil ⟨rfl, rfl, T.mono (by omega), Kx.refl _ _, Nat.le_refl _⟩)
      | _ => array_get_dec; exact ⟨rfl, rfl, T.mono (by omega), Kx.refl _ _, Nat.le_refl _⟩
    · rintro ρ U ⟨h0, h1, t, k0, hl⟩
      have hv := Tl.kx hv hz k0
      refine ws_seq (ws_cut (N' := fun ρ U => ρ[0]? = some (some (.ref 0)) ∧ Tf U (B + 2) ∧ Kx 0 S U ∧ S.length ≤ U.length) ?_ ?_)
      · array_get_dec
        refine wv h1 ?_
        array_get_dec
        refine isIn_wp hv ?_
        cases hv with
        | int i hi =>
          array_get_dec
          refine wv h1 ?_
          array_get_dec
          refine wv h0 ?_
          array_get_dec
          refine (draw_wp t (by decide) (by decide) (by omega)).imp ?_
          rintro _ S3 ⟨x, rfl, x0, x1, t3, k3⟩
          array_get_dec
          refine Br.of (fun c => ?_) (fun c => ?_)
          · refine ws_ret ((int_wp (Fo := Fo) hM t3 (by omega) hi h0 h1).imp ?_)
            rintro v' U' ⟨⟨d', a, b⟩, t', k'⟩
            exact ⟨⟨d', a.up (Nat.le_refl _) (fun r vs f g => ⟨f, g⟩) _ (by omega), by omega⟩, t'.mono (by omega), (k0.trans k3).trans k'⟩
          · exact ws_nil ⟨h0, t3.mono (by omega), k0.trans k3, Nat.le_trans hl (tfle t k3)⟩
        | bl b =>
          array_get_dec
          refine wv h1 ?_
          array_get_dec
          exact ⟨h0, t.mono (by omega), k0, hl⟩
        | _ => array_get_dec; exact ⟨h0, t.mono (by omega), k0, hl⟩
      · rintro ρ U ⟨h0, t, k0, hl⟩
        refine ws_ret ?_
        exact odd (d := d) ρ U t k0 hl h0
end
end K55
namespace K55
open PySem PySem.Spec PyProof.Rows L2 G Th AL KL Fr Od
open K57 (feedL_ feedL_B drawL_ drawL_B endsL_ endsL_B Tf draw_wp)
open K37 (fmod_lt p60 p40 at_ints)
open K08 (ws_cut)
section
variable {S : Sto} {Fo : Nat → Prop} {m n : Nat} {v : Val} {d : PyData}
abbrev abc : Str := "abcdefghijklmnopqrstuvwxyz"
theorem all_wp {Q : Val → Sto → Prop} {r : Nat} {l : List Val} {f : Val → Bool} (g : S[r]? = some (.lst ((l.filter fun _ => true).map fun v => .bl (f v)))) (q : Q (.bl (l.all f)) S) : Wp (gAll [.ref r] S) Q := by
  rw [List.filter_eq_self.mpr (fun _ _ => rfl)] at g
  refine vAll (bs := l.map f) rfl (by rw [List.map_map]; exact g) ?_
  rw [List.all_map]
  exact q
theorem vEqNilD {Q : Val → Sto → Prop} {a b : Nat} {vs : List Val} {ds : List PyData} (hm : m < 2 ^ 900) (hn : n ≤ 37) (h : TlL S Fo m n vs ds) (ha : S[a]? = some (.lst vs)) (hb : S[b]? = some (.lst [])) (q : Q (.bl vs.isEmpty) S) : Wp (gEq (.ref a) (.ref b) S) Q := by
  have e1 : eqS (.ref a) (.ref b) = none := rfl
  have hT : Tl S (fun _ => True) m (n + 1) (.ref a) (.list ds) := .lst trivial ha (h.up (Nat.le_refl _) (fun r vs _ g => ⟨trivial, g⟩) _ (Nat.le_refl _))
  have hU : Tl S (fun _ => True) m (n + 1) (.ref b) (.list []) := .lst trivial hb .nil
  refine ⟨_, S, ?_, q⟩
  unfold gEq eqA
  rw [e1]
  simp only [hT.toD 40 (by omega), hU.toD 40 (by omega)]
  rw [if_pos ⟨hT.shaped hm (by omega), hU.shaped hm (by omega)⟩]
  cases h with
  | nil => rfl
  | cons a b => rfl
theorem Tl.kn {T : Sto} (h : Tl S Fo m n v d) (k : Kn S T) : Tl T Fo m n v d := h.up (Nat.le_refl _) (fun r vs f g => ⟨f, k r _ g⟩) n (Nat.le_refl _)
theorem TlL.kn {T : Sto} {vs : List Val} {ds : List PyData} (h : TlL S Fo m n vs ds) (k : Kn S T) : TlL T Fo m n vs ds := h.up (Nat.le_refl _) (fun r vs f g => ⟨f, k r _ g⟩) n (Nat.le_refl _)
end
end K55
namespace K55
open PySem PySem.Spec PyProof.Rows L2 G Th AL KL Fr Od
open K57 (feedL_ feedL_B drawL_ drawL_B endsL_ endsL_B Tf draw_wp)
open K37 (fmod_lt p60 p40 at_ints)
open K08 (ws_cut)
section
variable {S : Sto} {Fo : Nat → Prop} {m n : Nat} {v : Val} {d : PyData}
def hd0 : Val → Val
  | .tup (a :: _) => a
  | _ => .non
noncomputable def inB (x : Val) (N : List Val) : Bool := @decide (x ∈ N) (Classical.propDecidable _)
theorem inB_iff {x : Val} {N : List Val} : inB x N = true ↔ x ∈ N := by
  unfold inB
  exact @decide_eq_true_iff (x ∈ N) (Classical.propDecidable _)
end
end K55
namespace K55
open PySem PySem.Spec PyProof.Rows L2 G Th AL KL Fr Od
open K57 (feedL_ feedL_B drawL_ drawL_B endsL_ endsL_B Tf draw_wp)
open K37 (fmod_lt p60 p40 at_ints)
open K08 (ws_cut)
section
variable {S : Sto} {Fo : Nat → Prop} {m n : Nat} {v : Val} {d : PyData}
theorem two {vs : List Val} {ds : List PyData} (h : TlL S Fo m n vs ds) : vs.length ≠ 2 ∨ ∃ a b x y, vs = [a, b] ∧ ds = [x, y] ∧ Tl S Fo m n a x ∧ Tl S Fo m n b y := by
  match vs, h with
  | [], _ => exact .inl (by decide)
  | [a], _ => exact .inl (by simp)
  | [a, b], .cons h1 (.cons h2 .nil) => exact .inr ⟨a, b, _, _, rfl, rfl, h1, h2⟩
  | a :: b :: c :: r, _ => exact .inl (by simp)
theorem wl : ∀ ds : List PyData, ds.length ≤ PyData.weightAll ds
  | [] => Nat.zero_le _
  | a :: b => by
    have := wl b
    simp only [PyData.weightAll, List.length_cons]
    omega
end
end K55
namespace K55
open PySem PySem.Spec PyProof.Rows L2 G Th AL KL Fr Od
open K57 (feedL_ feedL_B drawL_ drawL_B endsL_ endsL_B Tf draw_wp)
open K37 (fmod_lt p60 p40 at_ints)
open K08 (ws_cut)
section
variable {S : Sto} {Fo : Nat → Prop} {m n : Nat} {v : Val} {d : PyData}
end
end K55
namespace K55
open PySem PySem.Spec PyProof.Rows L2 G Th AL KL Fr Od
open K57 (feedL_ feedL_B drawL_ drawL_B endsL_ endsL_B Tf draw_wp)
open K57 (wireV Mb mbV Net pool WOk NOk NmOk endsL ends oes oes_perm mem_endsL endsL_wp)
open K37 (fmod_lt p60 p40 at_ints)
open K08 (ws_cut)
section
variable {S : Sto} {Fo : Nat → Prop} {m n : Nat} {v : Val} {d : PyData} {nn : Net} {x : Str}
def nsV (xs : List Str) : List Val := xs.map .str
end
end K55
namespace K55
open PySem PySem.Spec PyProof.Rows L2 G Th AL KL Fr Od
open K57 (feedL_ feedL_B drawL_ drawL_B endsL_ endsL_B Tf draw_wp)
open K57 (wireV Mb mbV Net pool WOk NOk NmOk endsL ends oes oes_perm mem_endsL endsL_wp)
open K37 (fmod_lt p60 p40 at_ints)
open K08 (ws_cut)
section
variable {S : Sto} {Fo : Nat → Prop} {m n : Nat} {v : Val} {d : PyData} {nn : Net} {x : Str}
end
end K55
namespace K55
open PySem PySem.Spec PyProof.Rows L2 G Th AL KL Fr Od
open K57 (feedL_ feedL_B drawL_ drawL_B endsL_ endsL_B Tf draw_wp)
open K57 (wireV Mb mbV Net pool WOk NOk NmOk endsL ends oes oes_perm mem_endsL endsL_wp sortS_perm)
open K37 (fmod_lt p60 p40 at_ints)
open K08 (ws_cut)
section
variable {S : Sto} {Fo : Nat → Prop} {m n : Nat} {v : Val} {d : PyData} {nn : Net} {x : Str}
theorem ends_in (hn : NOk nn) (v : Val) : inB v (nsV (ends nn.ws x)) = inB v (nsV (oes nn.ws x)) := by
  have p : (ends nn.ws x).Perm (oes nn.ws x) := (sortS_perm _).trans (oes_perm fun w hw => (hn.w.mem w hw).2.2).symm
  rw [Bool.eq_iff_iff, inB_iff, inB_iff]
  exact (p.map Val.str).mem_iff
end
end K55
namespace K55
open PySem PySem.Spec PyProof.Rows L2 G Th AL KL Fr Od
open K57 (feedL_ feedL_B drawL_ drawL_B endsL_ endsL_B Tf draw_wp)
open K57 (wireV Mb mbV Net pool WOk NOk NmOk endsL ends oes oes_perm mem_endsL endsL_wp sortS_perm)
open K37 (fmod_lt p60 p40 at_ints)
open K08 (ws_cut)
section
variable {S : Sto} {Fo : Nat → Prop} {m n : Nat} {v : Val} {d : PyData} {nn : Net} {x : Str}
end
end K55
namespace K55
open PySem PySem.Spec PyProof.Rows L2 G Th AL KL Fr Od
open K57 (feedL_ feedL_B drawL_ drawL_B endsL_ endsL_B Tf draw_wp)
open K57 (wireV Mb mbV Net pool WOk NOk NmOk feed_wp Ky keyV KyOk Bs bsV boV BsOk Hd hdV HdOk Rw rwV RwOk SOk)
open K37 (fmod_lt p60 p40 at_ints)
open K08 (ws_cut)
section
variable {S U : Sto} {Fo : Nat → Prop} {m n w w' q : Nat} {v : Val} {vs us : List Val}
def In (S : Sto) (Fo : Nat → Prop) (m n w : Nat) (v : Val) : Prop := ∃ d, Tl S Fo m n v d ∧ d.weight ≤ w
def InL (S : Sto) (Fo : Nat → Prop) (m n w : Nat) (vs : List Val) : Prop := ∃ ds, TlL S Fo m n vs ds ∧ PyData.weightAll ds ≤ w
theorem InL.nil : InL S Fo m n 0 [] := ⟨_, .nil, Nat.le_refl _⟩
theorem InL.cons (h : In S Fo m n w v) (g : InL S Fo m n w' vs) : InL S Fo m n (w + 1 + w') (v :: vs) := by
  obtain ⟨d, a, b⟩ := h
  obtain ⟨ds, c, e⟩ := g
  refine ⟨_, .cons a c, ?_⟩
  simp only [PyData.weightAll]
  omega
theorem InL.tup (h : InL S Fo m n w vs) : In S Fo m (n + 1) w (.tup vs) := by
  obtain ⟨ds, c, e⟩ := h
  exact ⟨_, .tup c, e⟩
theorem InL.lst {r : Nat} (h : InL S Fo m n w vs) (f : Fo r) (g : S[r]? = some (.lst vs)) : In S Fo m (n + 1) w (.ref r) := by
  obtain ⟨ds, c, e⟩ := h
  exact ⟨_, .lst f g c, e⟩
theorem InL.map {α : Type} {f : α → Val} : ∀ (l : List α), (∀ a ∈ l, In S Fo m n w (f a)) → InL S Fo m n ((w + 1) * l.length) (l.map f)
  | [], _ => ⟨_, .nil, Nat.zero_le _⟩
  | a :: l, h => by
    have := InL.cons (h a List.mem_cons_self) (InL.map l fun b hb => h b (List.mem_cons_of_mem _ hb))
    rw [List.length_cons, Nat.mul_succ, Nat.add_comm]
    exact this
theorem In.mono {n' m' : Nat} (h : In S Fo m n w v) (hm : m ≤ m') (hn : n ≤ n') (hw : w ≤ w') : In S Fo m' n' w' v := by
  obtain ⟨d, a, b⟩ := h
  exact ⟨d, a.up hm (fun r vs f g => ⟨f, g⟩) _ hn, by omega⟩
theorem InL.mono {n' m' : Nat} (h : InL S Fo m n w vs) (hm : m ≤ m') (hn : n ≤ n') (hw : w ≤ w') : InL S Fo m' n' w' vs := by
  obtain ⟨d, a, b⟩ := h
  exact ⟨d, a.up hm (fun r vs f g => ⟨f, g⟩) _ hn, by omega⟩
theorem In.to {Fo' : Nat → Prop} (h : In S Fo m n w v) (k : ∀ r vs, Fo r → S[r]? = some (.lst vs) → Fo' r ∧ U[r]? = some (.lst vs)) : In U Fo' m n w v := by
  obtain ⟨d, a, b⟩ := h
  exact ⟨d, a.up (Nat.le_refl _) k _ (Nat.le_refl _), b⟩
theorem InL.app (h : InL S Fo m n w vs) (g : InL S Fo m n w' us) : InL S Fo m n (w + w') (vs ++ us) := by
  obtain ⟨ds, a, b⟩ := h
  obtain ⟨es, c, e⟩ := g
  exact ⟨_, a.app c, by rw [w_app]; omega⟩
theorem InL.take (h : InL S Fo m n w vs) (k : Nat) : InL S Fo m n w (vs.take k) := by
  obtain ⟨ds, a, b⟩ := h
  exact ⟨_, a.take k, by have := w_split k ds; omega⟩
theorem In.str {x : Str} (h : NmOk x) : In S Fo m n 8 (.str x) := ⟨_, .str x h.1 (by have := h.2; omega), h.2⟩
theorem In.int {i : Int} (k : Nat) (h1 : i.natAbs ≤ m) (h2 : i.natAbs < 2 ^ k) : In S Fo m n k (.int i) := by
  refine ⟨_, .int i h1, ?_⟩
  show (if (i == 0) = true then 0 else i.natAbs.log2 + 1) ≤ _
  by_cases c : (i == 0) = true
  · rw [if_pos c]
    omega
  · rw [if_neg c]
    have c2 : i.natAbs ≠ 0 := fun h => c (by rw [show i = 0 by omega]; rfl)
    have := (Nat.log2_lt c2).mpr h2
    omega
theorem In.non : In S Fo m n 0 .non := ⟨_, .non, Nat.le_refl _⟩
theorem m0_big : 1000 ≤ M0 := by unfold M0; decide
theorem in_bent {B : Int} (T : Tf S B) (hF : ∀ r, S.length ≤ r → Fo r) (hz : ∀ r, Fo r → r ≠ 0) (h : In S Fo m n w v) (hn : n ≤ 7) (hw : w ≤ 30000) (hB : B + 48 < 2 ^ 40) (hm : M0 ≤ m) (hM : m + 3 < 2 ^ 199) : Wp (bentL_ [.ref 0, v] S) fun v' U => In U Fo (m + 3) (n + 1) (2 * w + 300) v' ∧ Tf U (B + 48) ∧ Kx 0 S U := by
  obtain ⟨d, a, b⟩ := h
  refine (bent_wp 8 n T hF hz a (by omega) (by omega) (by omega) (by omega) hm hM).imp ?_
  rintro v' U ⟨⟨d', a', b'⟩, t, k⟩
  exact ⟨⟨d', a', by omega⟩, t.mono (by omega), k⟩
def Fq (q : Nat) (r : Nat) : Prop := r ≠ 0 ∧ r ≠ q
def K2 (q : Nat) (S U : Sto) : Prop := ∀ r o, r ≠ 0 → r ≠ q → S[r]? = some o → U[r]? = some o
theorem In.k2 (h : In S (Fq q) m n w v) (k : K2 q S U) : In U (Fq q) m n w v := h.to fun r vs f g => ⟨f, k r _ f.1 f.2 g⟩
end
end K55
namespace K55
open PySem PySem.Spec PyProof.Rows L2 G Th AL KL Fr Od
open K57 (feedL_ feedL_B drawL_ drawL_B endsL_ endsL_B Tf draw_wp)
open K57 (wireV Mb mbV Net pool WOk NOk NmOk feed_wp Ky keyV KyOk Bs bsV boV BsOk Hd hdV HdOk Rw rwV RwOk SOk)
open K37 (fmod_lt p60 p40 at_ints)
open K08 (ws_cut)
section
variable {S U : Sto} {Fo : Nat → Prop} {m n w w' q : Nat} {v : Val} {vs us : List Val}
end
end K55
namespace K55
open PySem PySem.Spec PyProof.Rows L2 G Th AL KL Fr Od
open K57 (feedL_ feedL_B drawL_ drawL_B endsL_ endsL_B Tf draw_wp)
open K57 (wireV Mb mbV Net pool WOk NOk NmOk feed_wp Ky keyV KyOk Bs bsV boV BsOk Hd hdV HdOk Rw rwV RwOk SOk)
open K37 (fmod_lt p60 p40 at_ints)
open K08 (ws_cut wd wm)
section
variable {S U : Sto} {Fo : Nat → Prop} {m n w w' q : Nat} {v : Val} {vs us : List Val}
def ch (j : Int) : Str := ⟨#[(Str.cps abc).toList.getD j.toNat 0]⟩
theorem K2.trans {S T U : Sto} (a : K2 q S T) (b : K2 q T U) : K2 q S U := fun r o h h2 e => b _ _ h h2 (a _ _ h h2 e)
end
end K55
namespace K50
open PySem PySem.Spec PyProof.Rows L2 G Th AL KL Fr Od
open K37 (fmod_lt p60 p40 Tp)

open K08 (ws_cut)
open K55 (cutN cutD cutS isTu isIn isTx isTu_wp isIn_wp isTx_wp vNeNilT vAddTi TlL.one)

structure Menu (S : Sto) (Fo : Nat → Prop) (m M : Nat) (ms : List Val) : Prop where
  at_ : S[M]? = some (.lst ms)
  ne : 0 < ms.length
  few : ms.length ≤ 100
  one : M ≠ 1
  tl : ∀ v ∈ ms, ∃ d, Tl S Fo m 1 v d ∧ d.weight ≤ 200
section
variable {S : Sto} {Fo : Nat → Prop} {m n M : Nat} {v : Val} {d : PyData} {ms : List Val}
theorem Tl.kx1 {T : Sto} (h : Tl S Fo m n v d) (hz : ∀ r, Fo r → r ≠ 1) (k : Kx 1 S T) : Tl T Fo m n v d := h.up (Nat.le_refl _) (fun r vs f g => ⟨f, k r _ (hz r f) g⟩) n (Nat.le_refl _)
theorem TlL.kx1 {T : Sto} {vs : List Val} {ds : List PyData} (h : TlL S Fo m n vs ds) (hz : ∀ r, Fo r → r ≠ 1) (k : Kx 1 S T) : TlL T Fo m n vs ds := h.up (Nat.le_refl _) (fun r vs f g => ⟨f, k r _ (hz r f) g⟩) n (Nat.le_refl _)
theorem Menu.kx {T : Sto} (h : Menu S Fo m M ms) (hz : ∀ r, Fo r → r ≠ 1) (k : Kx 1 S T) : Menu T Fo m M ms := ⟨k _ _ h.one h.at_, h.ne, h.few, h.one, fun v hv => by
  obtain ⟨d, a, b⟩ := h.tl v hv
  exact ⟨d, Tl.kx1 a hz k, b⟩⟩
theorem Menu.up {m' : Nat} (h : Menu S Fo m M ms) (hm : m ≤ m') : Menu S Fo m' M ms := ⟨h.at_, h.ne, h.few, h.one, fun v hv => by
  obtain ⟨d, a, b⟩ := h.tl v hv
  exact ⟨d, a.up hm (fun r vs f g => ⟨f, g⟩) 1 (Nat.le_refl _), b⟩⟩
theorem wl : ∀ ds : List PyData, ds.length ≤ PyData.weightAll ds
  | [] => Nat.zero_le _
  | a :: b => by have := wl b; simp only [PyData.weightAll, List.length_cons]; omega
end
end K50
namespace K49
open PySem PySem.Spec PyProof.Rows L2 G Th AL K37 KL Fr
def pairAt (fl : Fl) (es : List Ev) (i : Nat) : Pr := (pairsUp fl es es.length).getD i (none, none)
structure Slew (sl : Fq) (u : Int) : Prop where
  ex : ∃ a : Int, Is sl a u ∧ 0 ≤ a ∧ a ≤ u
  pos : 0 < u
  top : u ≤ 99
section
variable {sl : Fq} {u : Int}
theorem Slew.qn (s : Slew sl u) : QN u 99 sl := by
  obtain ⟨a, h1, h2, h3⟩ := s.ex
  exact ⟨a, h1, by have := s.top; omega⟩
theorem Slew.ok (s : Slew sl u) : Fr.Ok 7 sl := s.qn.ok (by decide) (by have := s.pos; have := s.top; show u.natAbs < 128; omega)
theorem Slew.q (s : Slew sl u) : 0 ≤ q sl ∧ Fr.q sl ≤ 1 := by
  obtain ⟨a, h1, h2, h3⟩ := s.ex
  have e : Fr.q sl = (a : Rat) / (u : Rat) := by rw [h1.1]; exact q_mk h1.2
  have up : (0 : Rat) < (u : Rat) := Rat.intCast_pos.mpr s.pos
  rw [e]
  refine ⟨le_div up ?_, div_le up ?_⟩
  · rw [Rat.mul_zero]
    exact Rat.intCast_nonneg.mpr h2
  · rw [Rat.mul_one]
    exact Rat.intCast_le_intCast.mpr h3
end
section
variable {fl : Fl} {es : List Ev} {sl : Fq} {u : Int}
theorem shown_get {i : Nat} (sh : List Fq) {x : Fq} {j : Nat} (hj : j < sh.length) : (sh ++ [x]).getD j (0, 1) = sh.getD j (0, 1) := by
  simp [List.getD, List.getElem?_append_left hj]
theorem QN.bd {M : Nat} {x : Fq} (hu : 0 < u) (ht : u ≤ 99) (h : QN (240 * u) M x) (hM : M < 2 ^ 40) : Fr.Ok 40 x ∧ Bd x := by
  have o := h.ok hM (by have : (2 : Nat) ^ 40 = 1099511627776 := by decide
                        omega)
  exact ⟨o, .of o (by decide)⟩
end
section
variable {S : Sto}
end
end K49
namespace K49
open PySem PySem.Spec PyProof.Rows L2 G Th AL K37 KL Fr
section
variable {S : Sto}

def PrB (p : Pr) : Prop := ∀ b x, sel b p = some x → Fr.Ok 40 x
theorem PrB.bd {p : Pr} (h : PrB p) : ∀ b, BdO (sel b p) := fun b x hx => .of (h b x hx) (by decide)
end
section
variable {fl : Fl} {es : List Ev} {sl : Fq} {u : Int} {S : Sto}
theorem pair_b (fo : FlOk fl) (hv : HV fl es) {i : Nat} (hi : i < es.length) : PrB (pairAt fl es i) := fun b x hx => by
  have h := pairs_qn fo hv es.length (Nat.le_refl _) i hi b x hx
  have l := hv.len
  refine h.ok ?_ (by decide)
  have : (2 : Nat) ^ 40 = 1099511627776 := by decide
  omega
def LastD (d : List (Key × Val)) (es : List Ev) (i : Nat) : Prop := ∀ n, valA d (.inr n) = (lastAt es i n).map fun j => Val.int ((j : Nat) : Int)
theorem LastD.put {d : List (Key × Val)} {i : Nat} (h : LastD d es i) : LastD (putA d (.inr (es.getD i dEv).name) (.int ((i : Nat) : Int))) es (i + 1) := fun n => by
  rw [valA_put, lastAt]
  by_cases c : (es.getD i dEv).name = n
  · subst c
    rw [if_pos rfl, if_pos rfl]
    rfl
  · rw [if_neg c, if_neg (fun z => c (Sum.inr.inj z).symm)]
    exact h n
end
end K49
namespace K49
open PySem PySem.Spec PyProof.Rows L2 G Th AL K37 KL Fr

theorem q0 : q ((0, 1) : Fq) = 0 := by rw [q_int]; rfl
section
variable {fl : Fl} {es : List Ev} {sl : Fq} {u : Int} {S : Sto}

def LastS (d : List (Key × Val)) (es : List Ev) (sh : List Fq) (i : Nat) : Prop := ∀ n, valA d (.inr n) = (lastAt es i n).map fun j => Val.tup [frV (es.getD j dEv).stamp, frV (sh.getD j (0, 1))]
theorem LastS.put {d : List (Key × Val)} {i : Nat} {sh : List Fq} {x : Fq} (h : LastS d es sh i) (hl : sh.length = i) : LastS (putA d (.inr (es.getD i dEv).name) (.tup [frV (es.getD i dEv).stamp, frV x])) es (sh ++ [x]) (i + 1) := fun n => by
  rw [valA_put, lastAt]
  by_cases c : (es.getD i dEv).name = n
  · subst c
    rw [if_pos rfl, if_pos rfl]
    subst hl
    simp [List.getD]
  · rw [if_neg c, if_neg (fun z => c (Sum.inr.inj z).symm), h n]
    cases hh : lastAt es i n with
    | none => rfl
    | some j =>
      have := lastAt_lt hh
      simp only [Option.map_some]
      rw [shown_get (i := i) sh (by omega)]
end
end K49
namespace K49
open PySem PySem.Spec PyProof.Rows L2 G Th AL K37 KL Fr
end K49
namespace K52
open PySem PySem.Spec PyProof.Rows L2 G Th AL K37 KL Fr K49
def farOf (p : Pr) (x : Fq) : Option Fq := match p with
  | (some a, some b) => some (if (Fr.sub x a).1 * (Fr.sub b x).2 < (Fr.sub b x).1 * (Fr.sub x a).2 then Fr.sub b x else Fr.sub x a)
  | _ => none
theorem from_wp {p : Pr} {x : Fq} {S : Sto} (hp : PrB p) (hx : Fr.Ok 40 x) : Wp (far_from_ [prV p, frV x] S) fun v T => v = oV (farOf p x) ∧ Kn S T := by
  obtain ⟨a, b⟩ := p
  cases a with
  | none => refine AL.wf ?_; simp only [List.map_cons, List.map_nil, List.length_cons, List.length_nil, Nat.reduceAdd, Nat.reduceSub, List.replicate_succ, List.replicate_zero, List.cons_append, List.nil_append]; unfold far_from_B; array_get_dec; exact ⟨rfl, Kn.refl _⟩
  | some a =>
    cases b with
    | none => refine AL.wf ?_; simp only [List.map_cons, List.map_nil, List.length_cons, List.length_nil, Nat.reduceAdd, Nat.reduceSub, List.replicate_succ, List.replicate_zero, List.cons_append, List.nil_append]; unfold far_from_B; array_get_dec; exact ⟨rfl, Kn.refl _⟩
    | some b =>
      have oa := hp false a rfl
      have ob := hp true b rfl
      have o1 : Bd (Fr.sub x a) := .of (sub_ok hx oa) (by decide)
      have o2 : Bd (Fr.sub b x) := .of (sub_ok ob hx) (by decide)
      refine AL.wf ?_; simp only [List.map_cons, List.map_nil, List.length_cons, List.length_nil, Nat.reduceAdd, Nat.reduceSub, List.replicate_succ, List.replicate_zero, List.cons_append, List.nil_append]; unfold far_from_B; array_get_dec
      refine Wp.of (less_eq (.of hx (by decide)) (.of oa (by decide))) ?_
      array_get_dec
      refine Wp.of (less_eq (.of ob (by decide)) (.of hx (by decide))) ?_
      array_get_dec
      intro T1 r1 e_r1 l_T1 g_r1 k_T1
      array_get_dec
      have e1 := greatest_eq (S := T1) (n := r1) (qs := [Fr.sub x a, Fr.sub b x]) g_r1 (fun y hy => by
        simp only [List.mem_cons, List.not_mem_nil, or_false] at hy
        rcases hy with rfl | rfl
        · exact o1
        · exact o2)
      refine Wp.of e1 ⟨?_, k_T1⟩
      show oV (greatestO (some (Fr.sub x a)) (Fr.sub b x)) = _
      unfold greatestO farOf
      dsimp only
      split <;> rfl
section
variable {fl : Fl} {es : List Ev} {xs : List Fq} {S : Sto}

structure Any (es : List Ev) (xs : List Fq) : Prop where
  len : xs.length = es.length
  ok : ∀ x ∈ xs, Fr.Ok 40 x
def fars (fl : Fl) (es : List Ev) (xs : List Fq) : List (Option Fq) := (List.range es.length).map fun i => farOf (pairAt fl es i) (xs.getD i (0, 1))
theorem fars_take {i : Nat} (hi : i < es.length) : (fars fl es xs).take (i + 1) = (fars fl es xs).take i ++ [farOf (pairAt fl es i) (xs.getD i (0, 1))] := by
  unfold fars
  rw [← List.map_take, ← List.map_take, List.take_add_one, List.map_append]
  simp [List.getElem?_range hi]
theorem fars_len : (fars fl es xs).length = es.length := by simp [fars]
theorem far_wp (fo : FlOk fl) (hv : HV fl es) (an : Any es xs) : Wp (far_off_ [hiV fl es, .tup (xs.map frV)] S) fun v T => v = .tup ((fars fl es xs).map oV) ∧ Kn S T := by
  have l30 := hv.len
  have xl := an.len
  refine AL.wf ?_; simp only [List.map_cons, List.map_nil, List.length_cons, List.length_nil, Nat.reduceAdd, Nat.reduceSub, List.replicate_succ, List.replicate_zero, List.cons_append, List.nil_append]; unfold far_off_B; array_get_dec
  refine (kept_wp (hi_ok fo hv)).imp ?_
  rintro _ S1 ⟨rfl, k1⟩
  have pl := pairsUp_len fl es es.length
  array_get_dec
  refine ⟨_, _, rfl, ?_⟩
  have zl : (zipV ((pairsUp fl es es.length).map prV) (xs.map frV)).length = es.length := by simp [zipV, pl, xl]
  refine lc_inv (fun i a T => a = ((fars fl es xs).take i).map oV ∧ Kn S T) (by omega) ⟨rfl, k1⟩ (fun _ _ _ _ _ => trivial) (fun i a T h => by rw [h.1, List.length_map, List.length_take]; omega) ?_ ?_
  · rintro i v a T hvv ⟨rfl, kt⟩
    obtain ⟨p', x', hp', hx', rfl⟩ := zipV_get hvv
    rw [List.getElem?_map] at hp' hx'
    obtain ⟨p, hp, rfl⟩ := Option.map_eq_some_iff.mp hp'
    obtain ⟨x, hx, rfl⟩ := Option.map_eq_some_iff.mp hx'
    have hi : i < es.length := by have := (List.getElem?_eq_some_iff.mp hp).1; omega
    have ep : pairAt fl es i = p := by unfold K49.pairAt; simp [List.getD, hp]
    have ex : xs.getD i (0, 1) = x := by simp [List.getD, hx]
    array_get_dec
    refine (from_wp (by rw [← ep]; exact pair_b fo hv hi) (an.ok x (List.mem_of_getElem? hx))).imp ?_
    rintro _ T1 ⟨rfl, kt1⟩
    refine ⟨?_, kt.trans kt1⟩
    rw [fars_take hi, ep, ex, List.map_append]
    rfl
  · rintro a T ⟨rfl, kt⟩
    rw [zl, List.take_of_length_le (by rw [fars_len]; exact Nat.le_refl _)]
    intro U R e_R l_U g_R k_U
    array_get_dec
    exact ⟨rfl, kt.trans k_U⟩
theorem Sh.any (fo : FlOk fl) (hv : HV fl es) (an : Any es xs) : Sh 6 8000 (.tup [hiV fl es, .tup (xs.map frV)]) := by
  have l30 := hv.len
  have xl := an.len
  have s1 : Sh 2 2490 (.tup (xs.map frV)) := (ShL.map (n := 1) (w := 82) _ fun x hx => Sh.fr (an.ok x hx) (by decide)).tup.mono (Nat.le_refl _) (by omega)
  exact (ShL.cons (Sh.hi fo hv) (ShL.cons (s1.mono (by decide) (Nat.le_refl _)) ShL.nil (w' := 0))).tup.mono (by decide) (by decide)
end
end K52
namespace K51
open PySem PySem.Spec PyProof.Rows L2 G Th AL K37 KL Fr K49 K52
section
variable {S : Sto}
end

section
variable {fl : Fl} {es : List Ev} {xs : List Fq} {sl : Fq} {u : Int} {S : Sto}
end
end K51
namespace K51
open PySem PySem.Spec PyProof.Rows L2 G Th AL K37 KL Fr K49 K52
section
variable {fl : Fl} {es : List Ev} {xs : List Fq} {sl : Fq} {u : Int} {S : Sto} {bg : Int} {hrs : List Int}

def LastX (d : List (Key × Val)) (es : List Ev) (xs : List Fq) (i : Nat) : Prop := ∀ n, valA d (.inr n) = (lastAt es i n).map fun j => frV (xs.getD j (0, 1))
theorem LastX.put {d : List (Key × Val)} {i : Nat} (h : LastX d es xs i) : LastX (putA d (.inr (es.getD i dEv).name) (frV (xs.getD i (0, 1)))) es xs (i + 1) := fun n => by
  rw [valA_put, lastAt]
  by_cases c : (es.getD i dEv).name = n
  · subst c
    rw [if_pos rfl, if_pos rfl]
    rfl
  · rw [if_neg c, if_neg (fun z => c (Sum.inr.inj z).symm)]
    exact h n
end
end K51
namespace K51
open PySem PySem.Spec PyProof.Rows L2 G Th AL K37 KL Fr K49 K52
end K51
namespace K50
open PySem PySem.Spec PyProof.Rows L2 G Th AL KL Fr Od
open K37 (fmod_lt p60 p40 Tp cd_eq common_divisor_ common_divisor_B)
open K08 (ws_cut)
open K55 (isTu isIn isTx isTu_wp isIn_wp isTx_wp vNeNilT vAddTi TlL.one all_wp)

section
variable {S : Sto} {Fo : Nat → Prop} {m n M : Nat} {v : Val} {d : PyData} {vs : List Val} {ds : List PyData}
theorem vNeNilD {Q : Val → Sto → Prop} {a b : Nat} (hm : m < 2 ^ 900) (hn : n ≤ 37) (h : TlL S Fo m n vs ds) (ha : S[a]? = some (.lst vs)) (hb : S[b]? = some (.lst [])) (q : Q (.bl (!vs.isEmpty)) S) : Wp (gNe (.ref a) (.ref b) S) Q := by
  obtain ⟨v, T, e, rfl, rfl⟩ := K55.vEqNilD (Q := fun v T => v = .bl vs.isEmpty ∧ S = T) hm hn h ha hb ⟨rfl, rfl⟩
  refine ⟨_, S, ?_, q⟩
  unfold gEq at e
  unfold gNe
  cases hh : eqA S (.ref a) (.ref b) with
  | none => rw [hh] at e; cases e
  | some c =>
    rw [hh, Option.map_some] at e
    injection e with e
    injection e with e _
    injection e with e
    rw [e]
    rfl
end
end K50
namespace KL
open PySem PySem.Spec PyProof.Rows L2 G Th AL K37 Fr
structure Nm (fl : Fl) (es : List Ev) : Prop where
  own : ∀ j l lk, j < es.length → (es.getD j dEv).deed = .send l → fl.ls[l]? = some lk → lk.fr = (es.getD j dEv).name
  far : ∀ j k, j < es.length → (es.getD j dEv).deed = .hear k → k < es.length ∧ (es.getD k dEv).name ≠ (es.getD j dEv).name
theorem Nm.nil {fl : Fl} : Nm fl [] := ⟨fun j l lk h => by simp at h, fun j k h => by simp at h⟩
theorem Nm.snoc {fl : Fl} {es : List Ev} {e : Ev} (h : Nm fl es) (fo : FlOk fl) (h1 : ∀ l lk, e.deed = .send l → fl.ls[l]? = some lk → lk.fr = e.name)
    (h2 : ∀ k, e.deed = .hear k → k < es.length ∧ ∃ l lk, (es.getD k dEv).deed = .send l ∧ fl.ls[l]? = some lk ∧ lk.to = e.name) : Nm fl (es ++ [e]) := by
  have cs : ∀ j, j < (es ++ [e]).length → j < es.length ∨ j = es.length := fun j hj => by simp at hj; omega
  refine ⟨fun j l lk hj hd hl => ?_, fun j k hj hd => ?_⟩
  · rcases cs j hj with z | rfl
    · rw [getD_l z] at hd ⊢
      exact h.own j l lk z hd hl
    · rw [getD_r] at hd ⊢
      exact h1 l lk hd hl
  · rcases cs j hj with z | rfl
    · rw [getD_l z] at hd ⊢
      obtain ⟨kl, hk⟩ := h.far j k z hd
      rw [getD_l kl]
      exact ⟨by simp; omega, hk⟩
    · rw [getD_r] at hd ⊢
      obtain ⟨hk, l, lk, g1, g2, g3⟩ := h2 k hd
      rw [getD_l hk]
      refine ⟨by simp; omega, fun z => ?_⟩
      have := h.own k l lk hk g1 g2
      exact (fo.lks lk (List.mem_of_getElem? g2)).1.2 (by rw [this, g3, z])
end KL
namespace K47
open PySem PySem.Spec PyProof.Rows L2 G Th AL K37 KL Fr
theorem qn_bd {x : Fq} {M : Nat} (h : QN 6 M x) (hM : M < 2 ^ 20) : Bd x := Bd.of (h.ok (n := 20) hM (by decide)) (by decide)
theorem qn_ok {x : Fq} (h : QN 6 200 x) : Fr.Ok 20 x := h.ok (n := 20) (by decide) (by decide)
theorem b3 {b : Int} (hb : b = 1 ∨ b = 2 ∨ b = 3) : 0 < b ∧ b.natAbs < 2 ^ 2000 := by
  rcases hb with rfl | rfl | rfl <;> exact ⟨by decide, by decide⟩
def Sp6 (p : Pr) : Prop := ∀ b x, sel b p = some x → QN 6 200 x
theorem Sp6.ok {p : Pr} (h : Sp6 p) : SpOk p := ⟨fun l e => qn_bd (h false l e) (by decide), fun l e => qn_bd (h true l e) (by decide)⟩
theorem Sp6.bd {p : Pr} (h : Sp6 p) : ∀ b, BdO (sel b p) := fun b x e => qn_bd (h b x e) (by decide)
theorem Sp6.sh {p : Pr} (h : Sp6 p) : Sh 2 86 (prV p) := Sh.pr (n := 20) (fun b x e => qn_ok (h b x e)) (by decide)
end K47
namespace AL
theorem vListL {S : Sto} {Q : Val → Sto → Prop} {x : Val} {n : Nat} {vs : List Val} (hx : x = .ref n) (h : S[n]? = some (.lst vs)) (q : Nw S (.lst vs) Q) : Wp (gList [x] S) Q := by
  subst hx
  exact ⟨_, _, by simp only [gList, h], q.use⟩
end AL
namespace K47
open PySem PySem.Spec PyProof.Rows L2 G Th AL K37 KL Fr
def g0 : Val → Val := fun v => match v with
  | .tup (a :: _) => a
  | _ => .non
def g1 : Val → Val := fun v => match v with
  | .tup (_ :: a :: _) => a
  | _ => .non
end K47
namespace K48
open PySem PySem.Spec PyProof.Rows L2 G Th AL K37 KL Fr
open K47 (isIn SpOk count opens most Sp6 qn_bd qn_ok)
open K37 (common_divisor_ common_divisor_B ratio_ ratio_B is_below_ is_below_B least_of_ least_of_B greatest_of_ greatest_of_B)

end K48
namespace K39
open PySem PySem.Spec PyProof.Rows L2 G Th AL K37 KL Fr

open K37 (history_moves_ history_moves_B kept_pairs_ kept_pairs_B moved_end_ moved_end_B added_told_ added_told_B added_ added_B)
section
variable {fl : Fl} {es : List Ev}
def dP : Pr := (none, none)
def nmA (es : List Ev) (i : Nat) : Str := (es.getD i dEv).name
def kp (fl : Fl) (es : List Ev) : List Pr := pairsUp fl es es.length
def pr (fl : Fl) (es : List Ev) (i : Nat) : Pr := (kp fl es).getD i dP
def bdM (m : Mv) : Pr := (some m.lo, m.hi)
def eM (fl : Fl) (es : List Ev) (b : Bool) (m : Mv) : Option Fq := addO (sel b (pr fl es m.x)) (sel b (bdM m))
theorem len1 {α : Type} {l : List α} {a b : α} (h : l.length ≤ 1) (ha : a ∈ l) (hb : b ∈ l) : a = b := by
  match l, h with
  | [], _ => cases ha
  | [x], _ =>
    simp only [List.mem_singleton] at ha hb
    rw [ha, hb]
def first (fl : Fl) (es : List Ev) (k g : Nat) : Option Mv := (row fl es k).find? fun m => decide (m.x = g)
theorem first_mem {k g : Nat} {m : Mv} (h : first fl es k g = some m) : m ∈ row fl es k ∧ m.x = g := ⟨List.mem_of_find?_eq_some h, by simpa using List.find?_some h⟩
inductive Chn (fl : Fl) (es : List Ev) (b : Bool) : List Nat → Nat → Prop
  | one {a : Nat} : a < es.length → nmA es a = fl.src → Chn fl es b [a] a
  | snoc {c : List Nat} {g a : Nat} {m : Mv} {e : Fq} : Chn fl es b c g → a < es.length → nmA es a ≠ fl.src → m ∈ row fl es a → m.x = g → eM fl es b m = some e → sel b (pr fl es a) = some e → Chn fl es b (c ++ [a]) a

inductive Sm (fl : Fl) (es : List Ev) (b : Bool) : List Nat → Nat → Fq → Prop
  | one {a : Nat} : a < es.length → nmA es a = fl.src → Sm fl es b [a] a (es.getD a dEv).stamp
  | snoc {c : List Nat} {g a : Nat} {m : Mv} {s w : Fq} : Sm fl es b c g s → a < es.length → nmA es a ≠ fl.src → first fl es a g = some m → sel b (bdM m) = some w → Sm fl es b (c ++ [a]) a (Fr.add s w)
end
end K39
namespace K39
open PySem PySem.Spec PyProof.Rows L2 G Th AL K37 KL Fr

open K37 (history_moves_ history_moves_B kept_pairs_ kept_pairs_B moved_end_ moved_end_B added_told_ added_told_B added_ added_B)
section
variable {fl : Fl} {es : List Ev} {S T : Sto}
def RowsAt (fl : Fl) (es : List Ev) (T : Sto) (R : Nat) : Prop := ∃ rs : List Nat, T[R]? = some (Ob.lst (rs.map Val.ref)) ∧ rs.length = es.length ∧ ∀ (j r : Nat), rs[j]? = some r → T[r]? = some (Ob.lst ((row fl es j).map mvV))
theorem RowsAt.kn {R : Nat} (h : RowsAt fl es S R) (k : Kn S T) : RowsAt fl es T R := by
  obtain ⟨rs, h1, h2, h3⟩ := h
  exact ⟨rs, k.at h1, h2, fun j r hr => k.at (h3 j r hr)⟩
end
end K39
namespace K48
open PySem PySem.Spec PyProof.Rows L2 G Th AL K37 KL Fr
open K47 (isIn SpOk count opens most Sp6 qn_bd qn_ok)
open K37 (common_divisor_ common_divisor_B is_below_ is_below_B least_of_ least_of_B greatest_of_ greatest_of_B)

def ed (b : Bool) (lo hi : Option Fq) : Option Fq := if b then hi else lo
def nd (b : Bool) (x y : List Nat) : List Nat := if b then y else x
end K48
namespace K39
open PySem PySem.Spec PyProof.Rows L2 G Th AL K37 KL Fr

open K37 (history_moves_ history_moves_B kept_pairs_ kept_pairs_B moved_end_ moved_end_B added_told_ added_told_B added_ added_B)
section
variable {fl : Fl} {es : List Ev} {S T : Sto} {b : Bool} {c : List Nat}
theorem Sm.qn (fo : FlOk fl) (hv : HV fl es) {a : Nat} {s : Fq} (h : Sm fl es b c a s) : QN 120 (120000 * c.length) s := by
  induction h with
  | one ha hs => exact ((hv.ev _ ha).st.qn.up (c := 30) (by decide)).mono (by show 1000 * 30 ≤ 120000 * 1; decide)
  | @snoc c g a m s w hc ha hs hf hw ih =>
    obtain ⟨hm, _⟩ := first_mem hf
    obtain ⟨r1, r2⟩ := row_qn fo hv ha hm
    have hw' : QN 120 120000 w := by
      cases b with
      | false => cases hw; exact r1
      | true => exact r2 w hw
    have := ih.add hw'
    rw [show (c ++ [a]).length = c.length + 1 by simp]
    exact this.mono (by omega)
theorem Sm.bd (fo : FlOk fl) (hv : HV fl es) {a : Nat} {s : Fq} (h : Sm fl es b c a s) (hl : c.length ≤ 100) : Bd s := by
  have p40 : (2 : Nat) ^ 40 = 1099511627776 := by decide
  exact .of ((h.qn fo hv).ok (n := 40) (by omega) (by decide)) (by decide)
def F1 (es : List Ev) (c : List Nat) : Prop := ∀ k ∈ c, k < es.length
def F2 (fl : Fl) (es : List Ev) (c : List Nat) : Prop := ∀ i k, c[i]? = some k → (nmA es k = fl.src ↔ i = 0)
def F3 (fl : Fl) (es : List Ev) (c : List Nat) : Prop := ∀ i g k, c[i]? = some g → c[i + 1]? = some k → ∃ m, first fl es k g = some m
def F4 (fl : Fl) (es : List Ev) (b : Bool) (c : List Nat) : Prop := ∀ i g k m, c[i]? = some g → c[i + 1]? = some k → first fl es k g = some m → ∃ w, sel b (bdM m) = some w
theorem Sm.last {a : Nat} {s : Fq} (h : Sm fl es b c a s) : c.getLast? = some a ∧ c ≠ [] := by
  cases h with
  | one _ _ => exact ⟨rfl, by simp⟩
  | snoc _ _ _ _ _ => exact ⟨by simp, by simp⟩
theorem snoc_at {c : List Nat} {a i x : Nat} (h : (c ++ [a])[i]? = some x) : c[i]? = some x ∨ (i = c.length ∧ x = a) := by
  by_cases hi : i < c.length
  · rw [List.getElem?_append_left hi] at h
    exact .inl h
  · have l := (List.getElem?_eq_some_iff.mp h).1
    simp at l
    have e : i = c.length := by omega
    subst e
    rw [List.getElem?_concat_length] at h
    cases h
    exact .inr ⟨rfl, rfl⟩
theorem Sm.all {a : Nat} {s : Fq} (h : Sm fl es b c a s) : F1 es c ∧ F2 fl es c ∧ F3 fl es c ∧ F4 fl es b c := by
  induction h with
  | @one a ha hs =>
    refine ⟨fun k hk => by simp at hk; omega, fun i k h => ?_, fun i g k h1 h2 => ?_, fun i g k m h1 h2 => ?_⟩
    · match i, h with
      | 0, h => cases h; simp [hs]
    · simp at h2
    · simp at h2
  | @snoc c g a m s w hc ha hs hf hw ih =>
    obtain ⟨i1, i2, i3, i4⟩ := ih
    have hl := hc.last
    have cl : 0 < c.length := List.length_pos_iff.mpr hl.2
    have pair : ∀ i g' k, (c ++ [a])[i]? = some g' → (c ++ [a])[i + 1]? = some k → (c[i]? = some g' ∧ c[i + 1]? = some k) ∨ (g' = g ∧ k = a) := by
      intro i g' k h1 h2
      rcases snoc_at h2 with h2 | ⟨h2, rfl⟩
      · rcases snoc_at h1 with h1 | ⟨h1, _⟩
        · exact .inl ⟨h1, h2⟩
        · have := (List.getElem?_eq_some_iff.mp h2).1
          omega
      · rcases snoc_at h1 with h1 | ⟨h1, _⟩
        · right
          refine ⟨?_, rfl⟩
          have := hl.1
          rw [List.getLast?_eq_getElem?, show c.length - 1 = i by omega, h1] at this
          cases this
          rfl
        · omega
    refine ⟨fun k hk => ?_, fun i k h => ?_, fun i g' k h1 h2 => ?_, fun i g' k m' h1 h2 h3 => ?_⟩
    · rcases List.mem_append.mp hk with z | z
      · exact i1 k z
      · simp at z; omega
    · rcases snoc_at h with h | ⟨rfl, rfl⟩
      · exact i2 i k h
      · exact ⟨fun z => absurd z hs, fun z => by omega⟩
    · rcases pair i g' k h1 h2 with ⟨h1, h2⟩ | ⟨rfl, rfl⟩
      · exact i3 i g' k h1 h2
      · exact ⟨m, hf⟩
    · rcases pair i g' k h1 h2 with ⟨h1, h2⟩ | ⟨rfl, rfl⟩
      · exact i4 i g' k m' h1 h2 h3
      · rw [hf] at h3
        cases h3
        exact ⟨w, hw⟩
def Lt (fl : Fl) (es : List Ev) (b : Bool) (ev : Nat) (o : Option (List Nat)) (x : Option Fq) : Prop := match o with
  | none => x = none
  | some c => ∃ s, x = some s ∧ Sm fl es b c ev s
theorem Chn.ne {ev : Nat} (h : Chn fl es b c ev) : c ≠ [] := by
  cases h <;> simp
end
end K39
namespace K39
open PySem PySem.Spec PyProof.Rows L2 G Th AL K37 KL Fr

open K37 (history_moves_ history_moves_B kept_pairs_ kept_pairs_B moved_end_ moved_end_B added_told_ added_told_B added_ added_B)
section
variable {fl : Fl} {es : List Ev} {S T : Sto} {b : Bool} {c : List Nat}
end
end K39
namespace K39
open PySem PySem.Spec PyProof.Rows L2 G Th AL K37 KL Fr

open K37 (history_moves_ history_moves_B kept_pairs_ kept_pairs_B moved_end_ moved_end_B added_told_ added_told_B added_ added_B)
section
variable {fl : Fl} {es : List Ev} {S T : Sto} {b : Bool} {c : List Nat}

end
end K39
namespace AL
open PySem PySem.Spec PyProof.Rows L2 G Th
theorem res_of {r : Res} {ρ0 : Rho} {S0 : Sto} (h : Ws r (fun ρ S => ρ = ρ0 ∧ S = S0) fun _ _ => False) : r = .nx ρ0 S0 := by
  obtain ⟨h⟩ := h
  cases r with
  | nx ρ S => obtain ⟨rfl, rfl⟩ := h; rfl
  | rt v S => exact h.elim
  | stuck => exact h.elim
  | bk ρ S => exact h.elim
  | ct ρ S => exact h.elim
theorem nw_eq {S T : Sto} {o : Ob} {r : Nat} (e : r = S.length) (l : T.length = S.length + 1) (g : T[r]? = some o) (k : Kn S T) : T = S ++ [o] := by
  subst e
  apply List.ext_getElem?
  intro i
  by_cases h : i < S.length
  · have h1 : S[i]? = some S[i] := List.getElem?_eq_getElem h
    rw [k.at h1, List.getElem?_append_left h, h1]
  · by_cases h2 : i = S.length
    · subst h2
      rw [g, List.getElem?_append_right (Nat.le_refl _), Nat.sub_self]
      rfl
    · rw [List.getElem?_eq_none (by omega), List.getElem?_eq_none (by simp; omega)]
theorem kn_app {S : Sto} {o : Ob} : Kn S (S ++ [o]) := fun n x h => by
  have := (List.getElem?_eq_some_iff.mp h).1
  rw [List.getElem?_append_left this]
  exact h
theorem run_of {n : Nat} {g : SF} {vs : List Val} {S T : Sto} {v : Val} (h : Wp (runF n g vs S) fun v' S' => v' = v ∧ S' = T) : runF n g vs S = some (v, T) := by
  obtain ⟨v', S', e, rfl, rfl⟩ := h
  exact e
end AL
namespace K50
open PySem PySem.Spec PyProof.Rows L2 G Th AL K37 KL Fr Od K49 K52
open K08 (ws_cut)
open K55 (isTu isIn isTx isTu_wp isIn_wp isTx_wp vNeNilT vAddTi TlL.one all_wp)

end K50
namespace K40
open PySem PySem.Spec PyProof.Rows L2 G Th AL K37 KL Fr Od
open K39 (nmA kp pr bdM first first_mem RowsAt F1)



section
variable {f : Nat → Bool}
end
section
variable {fl : Fl} {es : List Ev} {S T : Sto} {b : Bool} {c : List Nat} {ns : List Int}
end
end K40
namespace K40
open PySem PySem.Spec PyProof.Rows L2 G Th AL K37 KL Fr Od
open K39 (nmA kp pr bdM first first_mem RowsAt F1)


open K50 (wl vNeNilD)
open K55 (isTu isTu_wp isIn_wp all_wp cutD)
section
variable {fl : Fl} {es : List Ev} {S T : Sto} {b : Bool} {c : List Nat} {ns : List Int}
end
end K40
namespace K40
open PySem PySem.Spec PyProof.Rows L2 G Th AL K37 KL Fr Od
open K39 (nmA kp pr bdM first first_mem RowsAt F1)


open K50 (wl vNeNilD)
open K55 (isTu isTu_wp isIn_wp all_wp cutD)
section
variable {fl : Fl} {es : List Ev} {S T : Sto} {b : Bool} {c : List Nat} {ns : List Int} {Fo : Nat → Prop} {m n : Nat} {v : Val} {d : PyData} {ev : Nat}
theorem two {vs : List Val} (h : vs.length = 2) : ∃ a b, vs = [a, b] := by
  match vs, h with
  | [a, b], _ => exact ⟨a, b, rfl⟩
end
end K40
namespace K40
open PySem PySem.Spec PyProof.Rows L2 G Th AL K37 KL Fr Od
open K39 (nmA kp pr bdM first first_mem RowsAt F1)


open K50 (wl vNeNilD)
open K55 (isTu isTu_wp isIn_wp all_wp cutD)
section
variable {fl : Fl} {es : List Ev} {S T : Sto} {b : Bool} {c : List Nat} {ns : List Int} {Fo : Nat → Prop} {m n : Nat} {v : Val} {d : PyData} {ev : Nat}
theorem vEqNilT {Q : Val → Sto → Prop} {vs : List Val} {ds : List PyData} (hm : m < 2 ^ 900) (hn : n ≤ 37) (h : TlL S Fo m n vs ds) (q : Q (.bl vs.isEmpty) S) : Wp (gEq (.tup vs) (.tup []) S) Q := by
  have e1 : eqS (.tup vs) (.tup []) = none := rfl
  have hT : Tl S Fo m (n + 1) (.tup vs) (.tuple ds) := .tup h
  refine ⟨_, S, ?_, q⟩
  unfold gEq eqA
  rw [e1]
  have t0 : toD S 40 (.tup []) = some (.tuple []) := rfl
  simp only [hT.toD 40 (by omega), t0]
  rw [if_pos ⟨hT.shaped hm (by omega), by decide⟩]
  cases h with
  | nil => rfl
  | cons a b => rfl
end
end K40
namespace K56
open PySem PySem.Spec PyProof.Rows L2 G Th AL
open K57 (feedL_ feedL_B drawL_ drawL_B endsL_ endsL_B)
end K56
namespace K56
open PySem PySem.Spec PyProof.Rows L2 G Th AL KL Fr Od
open K57 (feedL_ feedL_B drawL_ drawL_B endsL_ endsL_B)
open K57 (wireV Mb mbV Net WOk NOk NmOk keyV Ky KyOk Tf draw_wp Rw rwV SOk RwOk BsOk HdOk Bs Hd hdV boV bsV K2 feed_wp own mkey endsL_wp ends sortS_perm vInL)
open K37 (fmod_lt p60 p40 TxOk Sh ShL)
open K08 (ws_cut)
section
variable {n : Net} {s : List Rw} {S : Sto} {x : Str} {B : Int}
def fst (m : Mb) : Rw := ⟨m.name, some (own m), []⟩
def rowU (m : Mb) (r : Rw) (t : Bool) : Rw := if t = r.best.isSome then r else ⟨m.name, if t then some (own m) else none, []⟩
def upR (x : Str) (t : Bool) (p : Mb × Rw) : Rw := if p.2.name = x then rowU p.1 p.2 t else p.2
def up (n : Net) (s : List Rw) (x : Str) (t : Bool) : List Rw := (n.ms.zip s).map (upR x t)
def prV (p : Mb × Rw) : Val := .tup [mbV p.1, rwV p.2]
theorem wCalE {i k : Nat} {xv : Val} {B : SF} {ρ : Rho} {Q : Val → Sto → Prop} (h : ρ[i]? = some (some xv)) (z : Wp (runF k B [xv] S) Q) : Wp (eCalE i xv k B ρ S) Q := by
  obtain ⟨v, T, e, q⟩ := z
  exact ⟨v, T, by unfold eCalE; rw [if_pos h]; exact e, q⟩
end
end K56
namespace K64
open PySem PySem.Spec PyProof.Rows L2 G Th AL KL Fr Od
open K57 (val_map nd_len vInL vInD pairs_map nd_inr Tf draw_wp pool NmOk nm_pool in_strs)
open K62 (follow_ring_ follow_ring_B fpV fpD)
open K63 (val_ld ld_mem rg RG FR fr_at fr_no ringO POk rg_ring rg_next pairs_wp ringL_wp follow_wp pairsL_ ringL_ fr_mem)
open K55 (isTu isTx isTu_wp isTx_wp bentL_ vEqNilD)
open K50 (vNeNilD wl)
open K40 (vEqNilT)
open K56 (wCalE)
open K37 (merge_app Sh ShL p60)
open K08 (ws_cut)
section
variable {P : List (Str × Str)} {S : Sto} {x y z : Str} {l : List Str} {Fo : Nat → Prop} {m n : Nat} {v : Val} {d : PyData}
def nth (l : List Str) (k : Nat) : Str := (l[k]?).getD ⟨#[]⟩
def twK (l : List Str) : Option Nat := (List.range l.length).find? fun k => decide (nth l k ∈ l.take k)
def foK (P : List (Str × Str)) (l : List Str) : Option Nat := (List.range l.length).find? fun k => decide (K63.ld P (nth l k) ≠ some (nth l ((k + 1) % l.length)))
theorem find_some {n i : Nat} {p : Nat → Bool} (hi : i < n) (h : p i = true) (hn : ∀ j < i, p j = false) : (List.range n).find? p = some i := by
  rw [List.find?_range_eq_some]
  exact ⟨h, List.mem_range.mpr hi, fun j hj => by rw [hn j hj]; rfl⟩
theorem find_none {n : Nat} {p : Nat → Bool} (hn : ∀ j < n, p j = false) : (List.range n).find? p = none := by
  rw [List.find?_range_eq_none]
  exact fun j hj => by rw [hn j hj]; rfl
def toS : Val → Str
  | .str x => x
  | _ => ⟨#[]⟩

def jd (P : List (Str × Str)) : Val → Option (Str × Int)
  | .tup vs => if vs = [] ∨ vs.all isTx = false then some (("shape" : Str), -1) else match twK (vs.map toS) with
    | some k => some (("twice" : Str), (k : Nat))
    | none => match foK P (vs.map toS) with
      | some k => some (("follows" : Str), (k : Nat))
      | none => none
  | _ => some (("shape" : Str), -1)
def lenV : Val → Nat
  | .tup vs => vs.length
  | _ => 0
theorem strs_of : ∀ {vs : List Val}, vs.all isTx = true → (vs.map toS).map Val.str = vs
  | [], _ => rfl
  | v :: vs, h => by
    rw [List.all_cons, Bool.and_eq_true] at h
    rw [List.map_cons, List.map_cons, strs_of h.2]
    cases v <;> first | rfl | (exact absurd h.1 (by simp [isTx]))
theorem nth_at {k : Nat} (h : k < l.length) : l[k]? = some (nth l k) := by
  unfold nth
  rw [List.getElem?_eq_getElem h]
  rfl
theorem vth_at {k : Nat} (h : k < l.length) : (l.map Val.str)[k]? = some (.str (nth l k)) := by rw [List.getElem?_map, nth_at h]; rfl
theorem cut_k {k : Nat} : cutL (l.map Val.str) none (some (k : Int)) = (l.take k).map Val.str := by
  unfold cutL
  rw [HT.sIx_nat, HT.sIx_none, List.drop_zero, Nat.sub_zero, List.map_take]
  by_cases h : k ≤ (l.map Val.str).length
  · rw [Nat.min_eq_left h]
  · rw [Nat.min_eq_right (by omega), List.take_of_length_le (Nat.le_refl _), List.take_of_length_le (by omega)]
theorem vInT {neg : Bool} {Q : Val → Sto → Prop} (q : Q (.bl (if neg then !decide (x ∈ l) else decide (x ∈ l))) S) : Wp (gIn neg (.str x) (.tup (l.map .str)) S) Q := by
  refine ⟨_, S, ?_, q⟩
  simp only [gIn, gInS, K57.flat_strs, in_strs, flatA, Bool.true_and, if_true]
theorem pair_in (ok : POk P) : (x, y) ∈ P ↔ K63.ld P x = some y := by
  constructor
  · intro h
    unfold K63.ld
    have : P.find? (fun p => decide (p.1 = x)) = some (x, y) := by
      have nd := ok.nd
      clear ok
      induction P with
      | nil => cases h
      | cons p P ih =>
        rw [List.map_cons, List.nodup_cons] at nd
        rw [List.find?_cons]
        rcases List.mem_cons.mp h with e | e
        · subst e
          simp
        · have ne : p.1 ≠ x := fun z => nd.1 (List.mem_map.mpr ⟨(x, y), e, z.symm⟩)
          rw [decide_eq_false ne]
          exact ih e nd.2
    rw [this]
    rfl
  · intro h
    obtain ⟨p, hp, e⟩ := Option.map_eq_some_iff.mp h
    have e1 : p.1 = x := of_decide_eq_true (List.find?_some (p := fun p : Str × Str => decide (p.1 = x)) hp)
    have := List.mem_of_find?_eq_some hp
    rw [← e, ← e1]
    exact this
theorem okP (ok : POk P) : ∀ w ∈ P, okW w = true := fun w hw => by
  obtain ⟨⟨h1, h2⟩, h3, h4⟩ := ok.nm w hw
  simp only [okW, h1, h3, Bool.true_and, Bool.and_eq_true, decide_eq_true_eq]
  omega

theorem txts {vs : List Val} {ds : List PyData} (h : TlL S Fo m n vs ds) (a : vs.all isTx = true) : ∃ l : List Str, vs = l.map .str ∧ vs.map toS = l ∧ ∀ x ∈ l, PyData.strOk x = true ∧ x.cps.size ≤ 70 := by
  refine ⟨vs.map toS, (strs_of a).symm, rfl, fun x hx => ?_⟩
  obtain ⟨v, hv, rfl⟩ := List.mem_map.mp hx
  have e := List.all_eq_true.mp a v hv
  obtain ⟨d, _, t⟩ := h.mem hv
  cases t with
  | str x h l => exact ⟨h, l⟩
  | non => cases e
  | bl _ => cases e
  | int _ _ => cases e
  | tup _ => cases e
  | lst _ _ _ => cases e
theorem jd_bad {vs : List Val} (h : vs = [] ∨ vs.all isTx = false) : jd P (.tup vs) = some (("shape" : Str), -1) := if_pos h
theorem jd_good {vs : List Val} (h : ¬ (vs = [] ∨ vs.all isTx = false)) : jd P (.tup vs) = match twK (vs.map toS) with
    | some k => some (("twice" : Str), ((k : Nat) : Int))
    | none => match foK P (vs.map toS) with
      | some k => some (("follows" : Str), ((k : Nat) : Int))
      | none => none := if_neg h
theorem jd_not (h : isTu v = false) : jd P v = some (("shape" : Str), -1) := by cases v <;> first | rfl | cases h
theorem lets_wp (ok : POk P) (h : Tl S Fo m n v d) (hl : d.weight ≤ 800000) : Wp (lets_follow_ring_ [.tup (P.map fpV), v] S) fun r U => Kn S U ∧ ((jd P v = none ∧ r = .int (lenV v : Nat)) ∨ ∃ w k, jd P v = some (w, k) ∧ r = xv "NoPaper" [.str w, .int k]) := by
  have bad : jd P v = some (("shape" : Str), -1) → ∀ U : Sto, Kn S U → (Kn S U ∧ ((jd P v = none ∧ xv "NoPaper" [.str "shape", .int (-1)] = .int (lenV v : Nat)) ∨ ∃ w k, jd P v = some (w, k) ∧ xv "NoPaper" [.str "shape", .int (-1)] = xv "NoPaper" [.str w, .int k])) := fun e U k => ⟨k, .inr ⟨_, _, e, rfl⟩⟩
  refine AL.wf ?_; simp only [List.map_cons, List.map_nil, List.length_cons, List.length_nil, Nat.reduceAdd, Nat.reduceSub, List.replicate_succ, List.replicate_zero, List.cons_append, List.nil_append]; unfold lets_follow_ring_B; array_get_dec
  refine isTu_wp h ?_
  cases hT : isTu v with
  | false =>
    refine tb rfl (brT rfl (brT rfl ?_))
    refine ws_raise (wa1 ?_)
    array_get_dec
    exact bad (jd_not hT) _ (.refl _)
  | true =>
    refine tb rfl (brF rfl ?_)
    cases h with
    | non => cases hT
    | bl _ => cases hT
    | int _ _ => cases hT
    | str _ _ _ => cases hT
    | lst _ _ _ => cases hT
    | @tup n vs ds tt =>
    have lv := tt.len
    have lw : ds.length ≤ 800000 := by
      have := wl ds
      simp only [PyData.weight] at hl
      omega
    array_get_dec
    refine Br.of (fun c => ?_) (fun c => ?_)
    · have c : ((vs.length : Nat) : Int) = 0 := of_decide_eq_true c
      refine brT rfl ?_
      refine ws_raise (wa1 ?_)
      array_get_dec
      exact bad (jd_bad (.inl (List.eq_nil_of_length_eq_zero (by omega)))) _ (.refl _)
    have c : ((vs.length : Nat) : Int) ≠ 0 := of_decide_eq_false c
    array_get_dec
    refine .inl ⟨_, rfl, ?_⟩
    refine lc_pure (fun _ => true) (fun v => .bl (isTx v)) trivial (by omega) (fun w hw => ?_) ?_
    · obtain ⟨dw, _, tw⟩ := tt.mem hw
      refine bn rfl ?_
      array_get_dec
      refine ⟨rfl, rfl, fun _ => ?_⟩
      array_get_dec
      exact isTx_wp tw ⟨rfl, rfl⟩
    intro S1 r1 e_r1 l_S1 g_r1 k_S1
    array_get_dec
    refine K55.all_wp g_r1 ?_
    cases ha : vs.all isTx with
    | false =>
      refine tb rfl (brT rfl ?_)
      refine ws_raise (wa1 ?_)
      array_get_dec
      exact bad (jd_bad (.inr ha)) _ k_S1
    | true =>
      refine tb rfl (brF rfl ?_)
      obtain ⟨l, e1, e2, tx⟩ := txts tt ha
      have jg : jd P (.tup vs) = match twK l with
        | some k => some (("twice" : Str), ((k : Nat) : Int))
        | none => match foK P l with
          | some k => some (("follows" : Str), ((k : Nat) : Int))
          | none => none := by
        rw [jd_good, e2]
        rintro (z | z)
        · rw [z] at c; exact c rfl
        · rw [ha] at z; cases z
      have ll : l.length = vs.length := by rw [e1, List.length_map]
      subst e1
      array_get_dec
      refine .inl ⟨_, rfl, ?_⟩
      refine ws_loop (fun i ρ U => (∃ z2 z3 : Option Val, ρ = [some (.tup (P.map fpV)), some (.tup (l.map .str)), z2, z3]) ∧ U = S1 ∧ ∀ j < i, nth l j ∉ l.take j) ⟨⟨_, _, rfl⟩, rfl, fun j hj => absurd hj (by omega)⟩ (fun _ _ _ _ _ => trivial) ?_ ?_
      · rintro i w ρ U hw ⟨⟨z2, z3, rfl⟩, rfl, hN⟩
        obtain ⟨x, hx, rfl⟩ := enumV_get hw
        have li : i < l.length := by
          have := (List.getElem?_eq_some_iff.mp hx).1
          rwa [List.length_map] at this
        rw [vth_at li] at hx
        cases hx
        refine bn rfl ?_
        array_get_dec
        refine vSlA rfl ?_
        rw [cut_k]
        array_get_dec
        refine vInT ?_
        refine tb rfl (Br.of (fun q => ?_) (fun q => ?_))
        · have q : nth l i ∈ l.take i := of_decide_eq_true q
          refine ws_raise (wa1 ?_)
          array_get_dec
          have ek : twK l = some i := find_some li (decide_eq_true q) fun j hj => decide_eq_false (hN j hj)
          refine ⟨k_S1, .inr ⟨"twice", (i : Nat), ?_, rfl⟩⟩
          rw [jg, ek]
        · have q : nth l i ∉ l.take i := of_decide_eq_false q
          refine ws_nil ⟨⟨_, _, rfl⟩, rfl, fun j hj => ?_⟩
          by_cases e : j = i
          · rw [e]
            exact q
          · exact hN j (by omega)
      rintro ρ U ⟨⟨z2, z3, rfl⟩, rfl, hN⟩
      have le : (enumV (l.map Val.str)).length = l.length := by simp [enumV]
      rw [le] at hN
      have et : twK l = none := find_none fun j hj => decide_eq_false (hN j hj)
      rw [et] at jg
      dsimp only at jg
      array_get_dec
      refine .inl ⟨_, rfl, ?_⟩
      refine ws_loop (fun i ρ V => (∃ z2 z3 : Option Val, ρ = [some (.tup (P.map fpV)), some (.tup (l.map .str)), z2, z3]) ∧ V = U ∧ ∀ j < i, K63.ld P (nth l j) = some (nth l ((j + 1) % l.length))) ⟨⟨_, _, rfl⟩, rfl, fun j hj => absurd hj (by omega)⟩ (fun _ _ _ _ _ => trivial) ?_ ?_
      · rintro i w ρ V hw ⟨⟨z2, z3, rfl⟩, rfl, hM⟩
        obtain ⟨x, hx, rfl⟩ := enumV_get hw
        have li : i < l.length := by
          have := (List.getElem?_eq_some_iff.mp hx).1
          rwa [List.length_map] at this
        rw [vth_at li] at hx
        cases hx
        have lm : (i + 1) % l.length < l.length := Nat.mod_lt _ (by omega)
        refine bn rfl ?_
        array_get_dec
        rotate_left
        · rw [List.length_map]
          omega
        have em : ((i : Int) + 1).fmod ((l.map Val.str).length : Nat) = (((i + 1) % l.length : Nat) : Int) := by
          rw [List.length_map, Int.fmod_eq_emod_of_nonneg _ (by omega), show ((i : Int) + 1) = ((i + 1 : Nat) : Int) by omega]
          exact (Int.natCast_emod _ _).symm
        rw [em]
        refine vIxT rfl rfl (atI_nat (vth_at lm)) ?_
        array_get_dec
        have tn : ∀ k, k < l.length → PyData.strOk (nth l k) = true ∧ (nth l k).cps.size ≤ 70 := fun k hk => tx _ (List.mem_of_getElem? (nth_at hk))
        refine vInW (p := (nth l i, nth l ((i + 1) % l.length))) rfl rfl ?_ (okP ok) (by have := ok.len; omega) ?_
        · simp only [okW, (tn i li).1, (tn _ lm).1, Bool.true_and, Bool.and_eq_true, decide_eq_true_eq]
          exact ⟨(tn i li).2, (tn _ lm).2⟩
        refine tb rfl (Br.of (fun q => ?_) (fun q => ?_))
        · have q : (nth l i, nth l ((i + 1) % l.length)) ∉ P := by simpa using q
          have q2 : K63.ld P (nth l i) ≠ some (nth l ((i + 1) % l.length)) := fun z => q ((pair_in ok).mpr z)
          refine ws_raise (wa1 ?_)
          array_get_dec
          have ek : foK P l = some i := find_some li (decide_eq_true q2) fun j hj => decide_eq_false (fun z => z (hM j hj))
          refine ⟨k_S1, .inr ⟨"follows", (i : Nat), ?_, rfl⟩⟩
          rw [jg, ek]
        · have q : (nth l i, nth l ((i + 1) % l.length)) ∈ P := by simpa using q
          refine ws_nil ⟨⟨_, _, rfl⟩, rfl, fun j hj => ?_⟩
          by_cases e : j = i
          · rw [e]
            exact (pair_in ok).mp q
          · exact hM j (by omega)
      · rintro ρ V ⟨⟨z2, z3, rfl⟩, rfl, hM⟩
        rw [le] at hM
        have ek : foK P l = none := find_none fun j hj => decide_eq_false (fun z => z (hM j hj))
        rw [ek] at jg
        refine ws_retN ?_
        array_get_dec
        exact ⟨k_S1, .inl ⟨jg, rfl⟩⟩

def ansV (P : List (Str × Str)) (v : Val) : Val := match jd P v with
  | some (w, k) => .tup [.str "paper", .str w, .int k]
  | none => .tup [.str "told", .int (lenV v : Nat)]
theorem ans_bad {w : Str} {k : Int} (e : jd P v = some (w, k)) : ansV P v = .tup [.str "paper", .str w, .int k] := by unfold ansV; rw [e]
theorem ans_told (e : jd P v = none) : ansV P v = .tup [.str "told", .int (lenV v : Nat)] := by unfold ansV; rw [e]
theorem tl_filter (p : Val → Bool) : ∀ {vs : List Val} {ds : List PyData}, TlL S Fo m n vs ds → ∃ es, TlL S Fo m n (vs.filter p) es
  | _, _, .nil => ⟨[], .nil⟩
  | _, _, .cons (v := v) h t => by
    obtain ⟨es, te⟩ := tl_filter p t
    cases hp : p v with
    | true => rw [List.filter_cons_of_pos hp]; exact ⟨_, .cons h te⟩
    | false => rw [List.filter_cons_of_neg (by rw [hp]; decide)]; exact ⟨_, te⟩
theorem none_bad : ∀ vs : List Val, (vs.filter fun v => !isTx v).isEmpty = vs.all isTx
  | [] => rfl
  | v :: vs => by
    have ih := none_bad vs
    cases h : isTx v with
    | true => rw [List.filter_cons_of_neg (by rw [h]; decide), List.all_cons, h, ih]; rfl
    | false => rw [List.filter_cons_of_pos (by rw [h]; rfl), List.all_cons, h]; rfl
theorem ought_wp (ok : POk P) (hm : m < 2 ^ 900) (hn : n ≤ 30) (h : Tl S Fo m n v d) (hl : d.weight ≤ 800000) : Wp (oughtL_ [.ptu (P.map fpV), v] S) fun r U => Kn S U ∧ r = ansV P v := by
  refine AL.wf ?_; simp only [List.map_cons, List.map_nil, List.length_cons, List.length_nil, Nat.reduceAdd, Nat.reduceSub, List.replicate_succ, List.replicate_zero, List.cons_append, List.nil_append]; unfold oughtL_B; array_get_dec
  refine isTu_wp h ?_
  cases hT : isTu v with
  | false =>
    refine tb rfl (brT rfl (brT rfl ?_))
    array_get_dec
    exact ⟨.refl _, (ans_bad (jd_not hT)).symm⟩
  | true =>
    refine tb rfl (brF rfl ?_)
    cases h with
    | non => cases hT
    | bl _ => cases hT
    | int _ _ => cases hT
    | str _ _ _ => cases hT
    | lst _ _ _ => cases hT
    | @tup n vs ds tt =>
    have lv := tt.len
    have lw : ds.length ≤ 800000 := by
      have := wl ds
      simp only [PyData.weight] at hl
      omega
    array_get_dec
    refine vEqNilT hm (by omega) tt ?_
    cases he : vs.isEmpty with
    | true =>
      refine tb rfl (brT rfl (brT rfl ?_))
      array_get_dec
      exact ⟨.refl _, (ans_bad (jd_bad (.inl (List.isEmpty_iff.mp he)))).symm⟩
    | false =>
    have he' : vs ≠ [] := fun z => by rw [z] at he; cases he
    refine tb rfl (brF rfl ?_)
    array_get_dec
    refine .inl ⟨_, rfl, ?_⟩
    refine lc_pure (fun v => !isTx v) id trivial (by omega) (fun w hw => ?_) ?_
    · obtain ⟨dw, _, tw⟩ := tt.mem hw
      refine bn rfl ?_
      array_get_dec
      refine isTx_wp tw ?_
      refine tb rfl ⟨rfl, rfl, fun _ => ?_⟩
      array_get_dec
      exact ⟨rfl, rfl⟩
    rw [List.map_id]
    intro S1 r1 e_r1 l_S1 g_r1 k_S1
    array_get_dec
    intro S2 r2 e_r2 l_S2 g_r2 k_S2
    obtain ⟨es, te⟩ := tl_filter (fun v => !isTx v) tt
    have k12 : Kn S S2 := k_S1.trans k_S2
    have te2 := te.up (Nat.le_refl m) (Fo' := Fo) (T := S2) (fun r vs f g => ⟨f, k12 _ _ g⟩) n (Nat.le_refl n)
    refine vNeNilD hm (by omega) te2 (k_S2 _ _ g_r1) g_r2 ?_
    rw [none_bad]
    cases ha : vs.all isTx with
    | false =>
      refine tb rfl (brT rfl ?_)
      array_get_dec
      exact ⟨k12, (ans_bad (jd_bad (.inr ha))).symm⟩
    | true =>
      refine tb rfl (brF rfl ?_)
      obtain ⟨l, e1, e2, tx⟩ := txts tt ha
      have jg : jd P (.tup vs) = match twK l with
        | some k => some (("twice" : Str), ((k : Nat) : Int))
        | none => match foK P l with
          | some k => some (("follows" : Str), ((k : Nat) : Int))
          | none => none := by
        rw [jd_good, e2]
        rintro (z | z)
        · exact he' z
        · rw [ha] at z; cases z
      have ll : l.length = vs.length := by rw [e1, List.length_map]
      have l0 : l.length ≠ 0 := fun z => he' (List.eq_nil_of_length_eq_zero (by omega))
      subst e1
      array_get_dec
      rw [List.length_map]
      refine ⟨_, rfl, ?_, by omega, by omega⟩
      have lr : (rangeV 0 ((l.length : Nat) : Int).toNat).length = l.length := by simp [rangeV]
      have at_ : ∀ {i : Nat} {w : Val}, (rangeV 0 ((l.length : Nat) : Int).toNat)[i]? = some w → i < l.length ∧ w = .int (i : Nat) := fun {i w} hw => by
        have li := (List.getElem?_eq_some_iff.mp hw).1
        rw [lr] at li
        refine ⟨li, ?_⟩
        have := (List.getElem?_eq_some_iff.mp hw).2
        rw [← this]
        simp [rangeV]
      refine ws_loop (fun i ρ U => (∃ z2 z3 z4 : Option Val, ρ = [some (.ptu (P.map fpV)), some (.tup (l.map .str)), z2, z3, z4]) ∧ U = S2 ∧ ∀ j < i, nth l j ∉ l.take j) ⟨⟨_, _, _, rfl⟩, rfl, fun j hj => absurd hj (by omega)⟩ (fun _ _ _ _ _ => trivial) ?_ ?_
      · rintro i w ρ U hw ⟨⟨z2, z3, z4, rfl⟩, rfl, hN⟩
        obtain ⟨li, rfl⟩ := at_ hw
        refine bn rfl ?_
        array_get_dec
        refine vIxT rfl rfl (atI_nat (vth_at li)) ?_
        array_get_dec
        refine vSlA rfl ?_
        rw [cut_k]
        refine vInT ?_
        refine tb rfl (Br.of (fun q => ?_) (fun q => ?_))
        · have q : nth l i ∈ l.take i := of_decide_eq_true q
          array_get_dec
          have ek : twK l = some i := find_some li (decide_eq_true q) fun j hj => decide_eq_false (hN j hj)
          refine ⟨k12, (ans_bad ?_).symm⟩
          rw [jg, ek]
        · have q : nth l i ∉ l.take i := of_decide_eq_false q
          refine ws_nil ⟨⟨_, _, _, rfl⟩, rfl, fun j hj => ?_⟩
          by_cases e : j = i
          · rw [e]
            exact q
          · exact hN j (by omega)
      rintro ρ U ⟨⟨z2, z3, z4, rfl⟩, rfl, hN⟩
      rw [lr] at hN
      have et : twK l = none := find_none fun j hj => decide_eq_false (hN j hj)
      rw [et] at jg
      dsimp only at jg
      have pk : pairsK (P.map fpV) = some (fpD P) := pairs_map (fun p : Str × Str => p.1) (fun p : Str × Str => Val.str p.2) P
      array_get_dec
      refine vDictP rfl pk ?_
      rw [show mergeA [] (fpD P) = fpD P from merge_app (fpD P) [] (by rw [List.nil_append]; exact nd_inr (fun p : Str × Str => p.1) (fun p : Str × Str => Val.str p.2) ok.nd)]
      intro S3 rd e_rd l_S3 g_rd k_S3
      array_get_dec
      rw [List.length_map]
      refine ⟨_, rfl, ?_, by omega, by omega⟩
      refine ws_loop (fun i ρ V => (∃ z2 z4 : Option Val, ρ = [some (.ptu (P.map fpV)), some (.tup (l.map .str)), z2, some (.ref rd), z4]) ∧ V = S3 ∧ ∀ j < i, K63.ld P (nth l j) = some (nth l ((j + 1) % l.length))) ⟨⟨_, _, rfl⟩, rfl, fun j hj => absurd hj (by omega)⟩ (fun _ _ _ _ _ => trivial) ?_ ?_
      · rintro i w ρ V hw ⟨⟨z2, z4, rfl⟩, rfl, hM⟩
        obtain ⟨li, rfl⟩ := at_ hw
        have lm : (i + 1) % l.length < l.length := Nat.mod_lt _ (by omega)
        have out : K63.ld P (nth l i) ≠ some (nth l ((i + 1) % l.length)) → Kn S V ∧ Val.tup [.str "paper", .str "follows", .int (i : Nat)] = ansV P (.tup (l.map .str)) := fun q2 => by
          have ek : foK P l = some i := find_some li (decide_eq_true q2) fun j hj => decide_eq_false (fun z => z (hM j hj))
          refine ⟨k12.trans k_S3, (ans_bad ?_).symm⟩
          rw [jg, ek]
        refine bn rfl ?_
        array_get_dec
        refine vIxT rfl rfl (atI_nat (vth_at li)) ?_
        array_get_dec
        refine vInD g_rd ?_
        rw [val_ld]
        cases hv : K63.ld P (nth l i) with
        | none =>
          refine tb rfl (brT rfl (brT rfl ?_))
          array_get_dec
          exact out (by rw [hv]; exact fun z => by cases z)
        | some z =>
          refine tb rfl (brF rfl ?_)
          array_get_dec
          refine vIxT rfl rfl (atI_nat (vth_at li)) ?_
          refine vIxD rfl g_rd rfl (by rw [val_ld, hv]; rfl) ?_
          array_get_dec
          rotate_left
          · rw [List.length_map]
            omega
          have em : ((i : Int) + 1).fmod ((l.map Val.str).length : Nat) = (((i + 1) % l.length : Nat) : Int) := by
            rw [List.length_map, Int.fmod_eq_emod_of_nonneg _ (by omega), show ((i : Int) + 1) = ((i + 1 : Nat) : Int) by omega]
            exact (Int.natCast_emod _ _).symm
          rw [em]
          refine vIxT rfl rfl (atI_nat (vth_at lm)) ?_
          array_get_dec
          refine Br.of (fun q => ?_) (fun q => ?_)
          · have q : z ≠ nth l ((i + 1) % l.length) := by simpa using q
            array_get_dec
            exact out (by rw [hv]; exact fun e => q (Option.some.inj e))
          · have q : z = nth l ((i + 1) % l.length) := by simpa using q
            refine ws_nil ⟨⟨_, _, rfl⟩, rfl, fun j hj => ?_⟩
            by_cases e : j = i
            · rw [e, hv, q]
            · exact hM j (by omega)
      · rintro ρ V ⟨⟨z2, z4, rfl⟩, rfl, hM⟩
        rw [lr] at hM
        have ek : foK P l = none := find_none fun j hj => decide_eq_false (fun z => z (hM j hj))
        rw [ek] at jg
        array_get_dec
        exact ⟨k12.trans k_S3, (ans_told jg).symm⟩
end
end K64
namespace K64
open PySem PySem.Spec PyProof.Rows L2 G Th AL KL Fr Od
open K57 (val_map nd_len vInL vInD pairs_map nd_inr Tf draw_wp pool NmOk nm_pool in_strs)
open K62 (follow_ring_ follow_ring_B fpV fpD)
open K63 (val_ld ld_mem rg RG FR fr_at fr_no ringO POk rg_ring rg_next pairs_wp ringL_wp follow_wp pairsL_ ringL_ fr_mem)
open K55 (In InL In.to In.mono InL.map In.non In.str In.int in_bent M0 m0_big Fq isTu isTx isTu_wp isTx_wp bentL_ vEqNilD)
open K50 (vNeNilD wl)
open K40 (vEqNilT)
open K56 (wCalE)
open K37 (merge_app Sh ShL p60)
open K08 (ws_cut)
section
variable {P : List (Str × Str)} {S : Sto} {x y z : Str} {l : List Str} {Fo : Nat → Prop} {m n w : Nat} {v : Val} {d : PyData}
theorem cut_map {α β : Type} (f : α → β) (xs : List α) (lo hi : Option Int) : cutL (xs.map f) lo hi = (cutL xs lo hi).map f := by
  unfold cutL
  rw [List.length_map, List.map_take, List.map_drop]
theorem cut_le {α : Type} (xs : List α) (lo hi : Option Int) : (cutL xs lo hi).length ≤ xs.length := by
  unfold cutL
  rw [List.length_take, List.length_drop]
  omega
theorem word_paper {a b xv : Val} : runF 2 (wordL_S_NoPaper [a, b] xv) [xv] S = some (.tup [.str "paper", a, b], S ++ [.lst [.bl true, .bl false, .bl false]]) := by
  refine run_of ?_
  refine wf ?_
  unfold wordL_S_NoPaper
  refine ws_seq (ws_asg (wLst (wa1 (wIsE rfl (wa1 (wIsE rfl (wa1 (wIsE rfl (wa0 (sd (by decide) ?_))))))))))
  intro T r e_r l_T g_r k_T
  have eT := nw_eq e_r l_T g_r k_T
  refine bn rfl ?_
  refine ws_seq (ws_if (wbO ?_))
  array_get_dec
  refine vCntB (bs := [true, false, false]) g_r ?_
  array_get_dec
  refine wIsE rfl ?_
  array_get_dec
  refine wIsE rfl ?_
  array_get_dec
  refine wIsE rfl ?_
  array_get_dec
  refine wIsE rfl ?_
  array_get_dec
  refine wIsE rfl ?_
  array_get_dec
  refine wXf rfl ?_
  array_get_dec
  refine wXf rfl ?_
  array_get_dec
  exact ⟨rfl, eT⟩
theorem said_wp (ok : POk P) (h : Tl S Fo m n v d) (hl : d.weight ≤ 800000) : Wp (saidL_ [.ptu (P.map fpV), v] S) fun r U => Kn S U ∧ r = ansV P v := by
  refine AL.wf ?_; simp only [List.map_cons, List.map_nil, List.length_cons, List.length_nil, Nat.reduceAdd, Nat.reduceSub, List.replicate_succ, List.replicate_zero, List.cons_append, List.nil_append]; unfold saidL_B; array_get_dec
  refine ws_tryE (ws_asgX (wTup1X (wc ?_)))
  array_get_dec
  refine wUnp ?_
  array_get_dec
  refine (lets_wp ok h hl).imp ?_
  rintro r U ⟨k, ⟨e, rfl⟩ | ⟨w, j, e, rfl⟩⟩
  · refine Xs.no rfl ⟨rfl, Xs.no rfl (bn rfl ?_)⟩
    array_get_dec
    exact ⟨k, (ans_told e).symm⟩
  · refine Xs.yes rfl (Xs.yes rfl (.inr ⟨"NoPaper", [.str w, .int j], .nx [some (.ptu (P.map fpV)), some v, some (.tup [.str "paper", .str w, .int j]), none] (U ++ [.lst [.bl true, .bl false, .bl false]]), rfl, by simp, rfl, fun xv => ?_, ?_⟩))
    · have := res_of (r := saidL_H "NoPaper" [.str w, .int j] xv ([some (.ptu (P.map fpV)), some v, some (.tup [.str "odd"]), none].set 3 (some xv)) U) (ρ0 := [some (.ptu (P.map fpV)), some v, some (.tup [.str "paper", .str w, .int j]), some xv]) (S0 := U ++ [.lst [.bl true, .bl false, .bl false]]) ?_
      · rw [this]
        rfl
      unfold saidL_H
      rw [if_pos rfl]
      unfold saidL_S_NoPaper
      refine ws_asg (wCalE rfl ?_)
      rw [word_paper]
      exact ⟨_, _, rfl, bn rfl ⟨rfl, rfl⟩⟩
    · array_get_dec
      exact ⟨k.trans kn_app, (ans_bad e).symm⟩
theorem nodup_of (h : ∀ j < l.length, nth l j ∉ l.take j) : l.Nodup := by
  refine List.pairwise_iff_getElem.mpr fun i j hi hj hij e => h j hj ?_
  rw [show nth l j = l[j] from Option.some.inj ((nth_at hj).symm.trans (List.getElem?_eq_getElem hj)), ← e]
  exact List.mem_iff_getElem.mpr ⟨i, by rw [List.length_take]; omega, by rw [List.getElem_take]⟩
theorem take_nth {k : Nat} (h : k < l.length) : l.take k ++ [nth l k] = l.take (k + 1) := by
  rw [List.take_add_one, nth_at h]
  rfl
theorem rg_ex (hd : ∀ j < l.length, K63.ld P (nth l j) = some (nth l ((j + 1) % l.length))) (nd : ∀ j < l.length, nth l j ∉ l.take j) :
    ∀ (t k : Nat), k + t + 1 = l.length → ∀ f, t + 1 ≤ f → ∃ r, rg P (nth l 0) f (l.take k) (nth l k) = some r
  | 0, k, hk, f, hf => by
    have := hd k (by omega)
    rw [show (k + 1) % l.length = 0 by rw [show k + 1 = l.length by omega]; exact Nat.mod_self _] at this
    exact ⟨_, rg_ring (by omega) this⟩
  | t + 1, k, hk, f, hf => by
    obtain ⟨g, rfl⟩ : ∃ g, f = g + 1 := ⟨f - 1, by omega⟩
    have h1 := hd k (by omega)
    rw [show (k + 1) % l.length = k + 1 from Nat.mod_eq_of_lt (by omega)] at h1
    have h2 := nd (k + 1) (by omega)
    have ne : nth l (k + 1) ≠ nth l 0 := fun e => h2 (by
      rw [e]
      have h0 : 0 < l.length := by omega
      rw [show nth l 0 = l[0] from Option.some.inj ((nth_at h0).symm.trans (List.getElem?_eq_getElem h0))]
      exact List.mem_iff_getElem.mpr ⟨0, by rw [List.length_take]; omega, by rw [List.getElem_take]⟩)
    have h3 : nth l (k + 1) ∉ l.take k ++ [nth l k] := by rw [take_nth (by omega)]; exact h2
    rw [rg_next h1 ne h3, take_nth (by omega)]
    exact rg_ex hd nd t (k + 1) (by omega) g (by omega)
theorem told_ring (ok : POk P) (h : jd P v = none) : FR P ≠ none := by
  intro hf
  cases v with
  | tup vs =>
    by_cases c : vs = [] ∨ vs.all isTx = false
    · rw [jd_bad c] at h; cases h
    rw [jd_good c] at h
    cases e1 : twK (vs.map toS) with
    | some k => rw [e1] at h; cases h
    | none =>
    rw [e1] at h
    dsimp only at h
    cases e2 : foK P (vs.map toS) with
    | some k => rw [e2] at h; cases h
    | none =>
    generalize hl : vs.map toS = l at e1 e2
    have l0 : 0 < l.length := by
      rw [← hl, List.length_map]
      exact List.length_pos_iff.mpr fun z => c (.inl z)
    have nd : ∀ j < l.length, nth l j ∉ l.take j := fun j hj => by
      have := List.find?_range_eq_none.mp e1 j hj
      simpa using this
    have hd : ∀ j < l.length, K63.ld P (nth l j) = some (nth l ((j + 1) % l.length)) := fun j hj => by
      have := List.find?_range_eq_none.mp e2 j hj
      simpa using this
    have l8 : l.length ≤ P.length := by
      have := nd_len (nodup_of nd) (ys := P.map (·.1)) fun a ha => by
        obtain ⟨i, hi, e⟩ := List.getElem_of_mem ha
        have := ld_mem (hd i hi)
        rwa [show nth l i = l[i] from Option.some.inj ((nth_at hi).symm.trans (List.getElem?_eq_getElem hi)), e] at this
      rwa [List.length_map] at this
    have p8 := ok.len
    obtain ⟨r, hr⟩ := rg_ex hd nd (l.length - 1) 0 (by omega) 9 (by omega)
    obtain ⟨p, hp, e⟩ := List.mem_map.mp (ld_mem (hd 0 l0))
    have := List.findSome?_eq_none_iff.mp hf p hp
    have e : p.1 = nth l 0 := e
    rw [e] at this
    have hr : RG P (nth l 0) = some r := hr
    rw [hr] at this
    cases this
  | non => cases h
  | bl _ => cases h
  | int _ => cases h
  | str _ => cases h
  | ref _ => cases h
  | scr _ => cases h
  | lam _ _ _ _ _ => cases h
  | exc _ _ _ _ => cases h
  | ptu _ => cases h
theorem ans_at : ∃ a b, ansV P v = .tup (.str a :: b) ∧ (a = "told" ↔ jd P v = none) := by
  cases e : jd P v with
  | none => exact ⟨_, _, ans_told e, ⟨fun _ => rfl, fun _ => rfl⟩⟩
  | some q => exact ⟨_, _, ans_bad (w := q.1) (k := q.2) e, ⟨fun h => absurd h (by decide), fun h => by cases h⟩⟩
end
end K64
namespace K64
open PySem PySem.Spec PyProof.Rows L2 G Th AL KL Fr Od
open K57 (drawL_ drawL_B val_map nd_len vInL vInD pairs_map nd_inr Tf draw_wp pool NmOk nm_pool in_strs)
open K62 (follow_ring_ follow_ring_B fpV fpD)
open K63 (val_ld ld_mem rg RG FR fr_at fr_no ringO POk rg_ring rg_next pairs_wp ringL_wp follow_wp pairsL_ ringL_ fr_mem)
open K55 (In InL In.mono InL.map In.non In.str In.int in_bent M0 m0_big Fq isTu isTx isTu_wp isTx_wp bentL_ vEqNilD)
open K50 (vNeNilD wl)
open K40 (vEqNilT)
open K56 (wCalE)
open K37 (merge_app Sh ShL p60)
open K08 (ws_cut)
section
variable {P : List (Str × Str)} {S : Sto} {x y z : Str} {l : List Str} {Fo : Nat → Prop} {m n w R : Nat} {v : Val} {d : PyData}

def Th (S : Sto) (R : Nat) (v : Val) : Prop := In S (Fq R) (M0 + 3) 4 1000 v
theorem in_txt (h : ∀ x ∈ l, NmOk x) (hl : l.length ≤ 30) : In S Fo m 1 300 (.tup (l.map .str)) :=
  ((K55.InL.map (S := S) (Fo := Fo) (m := m) (n := 0) (w := 8) (f := Val.str) l fun x hx => K55.In.str (h x hx)).tup).mono (Nat.le_refl _) (Nat.le_refl _) (by omega)
noncomputable def ringS : SF := (sIf (eT (eB gIsN (eV 5) (eC .non))) (sSeq (sAsg (.nm 11) (eDef drawL_ 2 (aCons (eV 1) (aCons (eCall gLen (aCons (eV 5) aNil)) aNil))))
    (sSeq (sAsg (.nm 10) (eB gAdd (eV 10) (eLst (aCons (eV 5) (aCons (eB gAddT (eSl gSlA (eV 5) (oS (eV 11)) oN) (eSl gSlA (eV 5) oN (oS (eV 11)))) (aCons (eU gRevT (eV 5)) (aCons (eSl gSlA (eV 5) (oS (eC (.int 1))) oN) (aCons (eB gAddT (eV 5) (eSl gSlA (eV 5) oN (oS (eC (.int 1))))) aNil))))))))
    (sAsg (.nm 10) (eB gAdd (eV 10) (eLst (aCons (eDef bentL_ 2 (aCons (eV 1) (aCons (eV 5) aNil))) (aCons (eDef bentL_ 2 (aCons (eV 1) (aCons (eB gAddT (eV 5) (eSl gSlA (eV 5) oN (oS (eC (.int 1))))) aNil))) aNil))))))) sNil)
theorem rg_pos : ∀ {n : Nat} {l : List Str} {y : Str} {r : List Str}, rg P x n l y = some r → 1 ≤ r.length
  | 0, _, _, _, h => by cases h
  | n + 1, l, y, r, h => by
    rw [rg] at h
    cases hv : K63.ld P y with
    | none => rw [hv] at h; cases h
    | some z =>
      rw [hv] at h
      dsimp only at h
      split at h
      · cases h
        simp
      · split at h
        · cases h
        · exact rg_pos h
theorem fr_pos {r : List Str} (h : FR P = some r) : 1 ≤ r.length := by
  obtain ⟨p, hp, e⟩ := List.exists_of_findSome?_eq_some h
  exact rg_pos e

theorem ring_things {B : Int} {vs : List Val} {r1 : Nat} {a0 a2 a3 a4 a6 a7 a8 a9 a11 a12 a13 a14 a15 : Option Val} (ok : POk P) (T : Tf S B) (hB : B + 300 < 2 ^ 40) (g1 : S[r1]? = some (.lst vs)) (r3 : 3 ≤ r1) (h1 : ∀ v ∈ vs, Th S r1 v) (l1 : vs.length ≤ 10) :
    Ws (ringS [a0, some (.ref 0), a2, a3, a4, some (ringO (FR P)), a6, a7, a8, a9, some (.ref r1), a11, a12, a13, a14, a15] S)
      (fun ρ U => ∃ (R : Nat) (us : List Val) (b : Option Val), ρ = [a0, some (.ref 0), a2, a3, a4, some (ringO (FR P)), a6, a7, a8, a9, some (.ref R), b, a12, a13, a14, a15] ∧ U[R]? = some (.lst us) ∧ 3 ≤ R ∧ (∀ v ∈ us, Th U R v) ∧ us.length ≤ 20 ∧ Tf U (B + 200) ∧ Kx 0 S U ∧ (R = r1 ∨ S.length ≤ R)) (fun _ _ => False) := by
  have M3 : M0 + 3 < 2 ^ 199 := by unfold M0; decide
  have s3 : r1 < S.length := lt_of_at g1
  unfold ringS
  cases hF : FR P with
  | none =>
    array_get_dec
    exact ⟨r1, vs, _, rfl, g1, r3, h1, by omega, T.mono (by omega), .refl _ _, .inl rfl⟩
  | some r =>
    obtain ⟨tx, l9⟩ := fr_mem ok hF
    have lp := fr_pos hF
    have sub : ∀ lo hi, ∀ x ∈ cutL r lo hi, NmOk x := fun lo hi x hx => tx x (List.mem_of_mem_drop (List.mem_of_mem_take hx))
    have app : ∀ {a b : List Str}, (∀ x ∈ a, NmOk x) → (∀ x ∈ b, NmOk x) → ∀ x ∈ a ++ b, NmOk x := fun {a b} h1 h2 x hx => (List.mem_append.mp hx).elim (h1 x) (h2 x)
    array_get_dec
    rw [List.length_map]
    refine (draw_wp T (m := (r.length : Nat)) (by omega) (by omega) (by omega)).imp ?_
    rintro _ S1 ⟨d, rfl, d0, d1, T1, k1⟩
    have l01 : S.length ≤ S1.length := k1.len (by omega)
    have g1' : S1[r1]? = some (.lst vs) := k1 _ _ (by omega) g1
    array_get_dec
    refine vSlA rfl ?_
    rw [cut_map]
    array_get_dec
    refine vSlA rfl ?_
    rw [cut_map]
    have c1 := cut_le r (some d) none
    have c2 := cut_le r none (some d)
    have c3 := cut_le r (some 1) none
    have c4 := cut_le r none (some 1)
    refine vAddT rfl rfl (by simp only [List.length_map]; omega) ?_
    rw [← List.map_append]
    array_get_dec
    refine vRevT rfl ?_
    rw [← List.map_reverse]
    array_get_dec
    refine vSlA rfl ?_
    rw [cut_map]
    array_get_dec
    refine vSlA rfl ?_
    rw [cut_map]
    refine vAddT rfl rfl (by simp only [List.length_map]; omega) ?_
    rw [← List.map_append]
    array_get_dec
    intro S2 q1 e_q1 l_S2 g_q1 k_S2
    refine vCatL rfl rfl (k_S2 _ _ g1') g_q1 (by simp; omega) ?_
    intro S3 r2 e_r2 l_S3 g_r2 k_S3
    array_get_dec
    have T3 := (T1.fr k_S2).fr k_S3
    have iR : In S3 (fun r => r ≠ 0) M0 1 300 (.tup (r.map .str)) := in_txt tx (by omega)
    refine (in_bent T3 (fun q hq => by show q ≠ 0; omega) (fun _ h => h) iR (by decide) (by decide) (by omega) (Nat.le_refl _) M3).imp ?_
    rintro b1 S4 ⟨i1, T4, k4⟩
    have l34 : S3.length ≤ S4.length := k4.len (by omega)
    array_get_dec
    refine vSlA rfl ?_
    rw [cut_map]
    refine vAddT rfl rfl (by simp only [List.length_map]; omega) ?_
    rw [← List.map_append]
    array_get_dec
    have iR2 : In S4 (fun r => r ≠ 0) M0 1 300 (.tup ((r ++ cutL r none (some 1)).map .str)) := in_txt (app tx (sub _ _)) (by rw [List.length_append]; omega)
    refine (in_bent T4 (fun q hq => by show q ≠ 0; omega) (fun _ h => h) iR2 (by decide) (by decide) (by omega) (Nat.le_refl _) M3).imp ?_
    rintro b2 S5 ⟨i2, T5, k5⟩
    have l45 : S4.length ≤ S5.length := k5.len (by omega)
    array_get_dec
    intro S6 q2 e_q2 l_S6 g_q2 k_S6
    have g5 : S6[r2]? = _ := k_S6 _ _ (k5 _ _ (by omega) (k4 _ _ (by omega) g_r2))
    refine vCatL rfl rfl g5 g_q2 (by simp; omega) ?_
    intro S7 R e_R l_S7 g_R k_S7
    array_get_dec
    have k35 : Kx 0 S3 S7 := (k4.trans k5).trans ((k_S6.trans k_S7).kx 0)
    have kS7 : Kx 0 S S7 := (k1.trans ((k_S2.trans k_S3).kx 0)).trans k35
    have lR : S5.length ≤ R := by omega
    refine ⟨R, _, _, rfl, g_R, by omega, fun v hv => ?_, by simp; omega, ((T5.fr k_S6).fr k_S7).mono (by omega), kS7, .inr (by omega)⟩
    have txt : ∀ {a : List Str}, (∀ x ∈ a, NmOk x) → a.length ≤ 30 → Th S7 R (.tup (a.map .str)) := fun h1 h2 => (in_txt h1 h2).mono (Nat.le_refl _) (by decide) (by decide)
    simp only [List.mem_append, List.mem_cons, List.not_mem_nil, or_false] at hv
    rcases hv with (hv | rfl | rfl | rfl | rfl | rfl) | rfl | rfl
    · refine (h1 v hv).to fun j us f e => ⟨⟨f.1, ?_⟩, kS7 _ _ f.1 e⟩
      have := lt_of_at e
      omega
    · exact txt tx (by omega)
    · exact txt (app (sub _ _) (sub _ _)) (by rw [List.length_append]; omega)
    · exact txt (fun x hx => tx x (List.mem_reverse.mp hx)) (by rw [List.length_reverse]; omega)
    · exact txt (sub _ _) (by omega)
    · exact txt (app tx (sub _ _)) (by rw [List.length_append]; omega)
    · refine (i1.mono (Nat.le_refl _) (by decide) (by decide)).to fun j us f e => ⟨⟨f, ?_⟩, (k5.trans ((k_S6.trans k_S7).kx 0)) _ _ f e⟩
      have := lt_of_at e
      omega
    · refine (i2.mono (Nat.le_refl _) (by decide) (by decide)).to fun j us f e => ⟨⟨f, ?_⟩, (k_S6.trans k_S7) _ _ e⟩
      have := lt_of_at e
      omega
end
end K64
namespace K64
open PySem PySem.Spec PyProof.Rows L2 G Th AL KL Fr Od
open K57 (feedL_ feedL_B feed_wp drawL_ drawL_B val_map nd_len vInL vInD pairs_map nd_inr Tf draw_wp pool NmOk nm_pool in_strs)
open K62 (follow_ring_ follow_ring_B fpV fpD)
open K63 (val_ld ld_mem rg RG FR fr_at fr_no ringO POk rg_ring rg_next pairs_wp ringL_wp follow_wp pairsL_ ringL_ fr_mem)
open K55 (In InL In.mono InL.map In.non In.str In.int in_bent M0 m0_big Fq isTu isTx isTu_wp isTx_wp bentL_ vEqNilD)
open K50 (vNeNilD wl)
open K40 (vEqNilT)
open K56 (wCalE)
open K37 (TxOk merge_app Sh ShL p60)
open K08 (ws_cut)
section
variable {P : List (Str × Str)} {S : Sto} {x y z : Str} {l : List Str} {Fo : Nat → Prop} {m n w R : Nat} {v : Val} {d : PyData}
theorem jd_some {w : Str} {k : Int} (h : jd P v = some (w, k)) (hl : lenV v ≤ 1000) : TxOk w ∧ k.natAbs < 1024 := by
  have rng : ∀ {n i : Nat} {p : Nat → Bool}, (List.range n).find? p = some i → i < n := fun h => by
    have := List.mem_of_find?_eq_some h
    exact List.mem_range.mp this
  have shp : TxOk ("shape" : Str) := ⟨by decide +kernel, by decide +kernel⟩
  cases v with
  | tup vs =>
    by_cases c : vs = [] ∨ vs.all isTx = false
    · rw [jd_bad c] at h
      cases h
      exact ⟨shp, by decide⟩
    rw [jd_good c] at h
    have ll : (vs.map toS).length ≤ 1000 := by rw [List.length_map]; exact hl
    cases e1 : twK (vs.map toS) with
    | some k =>
      rw [e1] at h
      cases h
      have := rng e1
      exact ⟨⟨by decide +kernel, by decide +kernel⟩, by omega⟩
    | none =>
      rw [e1] at h
      dsimp only at h
      cases e2 : foK P (vs.map toS) with
      | some k =>
        rw [e2] at h
        cases h
        have := rng e2
        exact ⟨⟨by decide +kernel, by decide +kernel⟩, by omega⟩
      | none => rw [e2] at h; cases h
  | non => cases h; exact ⟨shp, by decide⟩
  | bl _ => cases h; exact ⟨shp, by decide⟩
  | int _ => cases h; exact ⟨shp, by decide⟩
  | str _ => cases h; exact ⟨shp, by decide⟩
  | ref _ => cases h; exact ⟨shp, by decide⟩
  | scr _ => cases h; exact ⟨shp, by decide⟩
  | lam _ _ _ _ _ => cases h; exact ⟨shp, by decide⟩
  | exc _ _ _ _ => cases h; exact ⟨shp, by decide⟩
  | ptu _ => cases h; exact ⟨shp, by decide⟩
theorem len_w (h : Tl S Fo m n v d) (hw : d.weight ≤ 1000) : lenV v ≤ 1000 := by
  cases h with
  | @tup n vs ds tt =>
    have := tt.len
    have := wl ds
    simp only [PyData.weight] at hw
    show vs.length ≤ 1000
    omega
  | non => exact Nat.zero_le _
  | bl _ => exact Nat.zero_le _
  | int _ _ => exact Nat.zero_le _
  | str _ _ _ => exact Nat.zero_le _
  | lst _ _ _ => exact Nat.zero_le _
theorem sh_ans (hl : lenV v ≤ 1000) : Sh 1 100 (ansV P v) := by
  cases e : jd P v with
  | none =>
    rw [ans_told e]
    have t : TxOk ("told" : Str) := ⟨by decide +kernel, by decide +kernel⟩
    exact ((ShL.cons (Sh.str t) (ShL.cons (Sh.int (b := 10) (by omega) (by decide)) (ShL.nil (w := 0)))).tup).mono (Nat.le_refl _) (by omega)
  | some q =>
    obtain ⟨w, k⟩ := q
    obtain ⟨h1, h2⟩ := jd_some e hl
    rw [ans_bad e]
    have t : TxOk ("paper" : Str) := ⟨by decide +kernel, by decide +kernel⟩
    exact ((ShL.cons (Sh.str t) (ShL.cons (Sh.str h1) (ShL.cons (Sh.int (b := 10) (by omega) (by decide)) (ShL.nil (w := 0))))).tup).mono (Nat.le_refl _) (by omega)
theorem pairs_in (ok : POk P) : In S Fo m 2 200 (.tup (P.map fpV)) := by
  have l8 := ok.len
  refine ((K55.InL.map (S := S) (Fo := Fo) (m := m) (n := 1) (w := 18) (f := fpV) P fun p hp => ?_).tup).mono (Nat.le_refl _) (Nat.le_refl _) (by omega)
  exact ((K55.InL.cons (K55.In.str (ok.nm p hp).1) (K55.InL.cons (K55.In.str (ok.nm p hp).2) K55.InL.nil)).tup).mono (Nat.le_refl _) (Nat.le_refl _) (by decide)
def oddL (L : Nat) : List Val := [.non, .tup [], .tup [.str "a"], .ref L, .str "a", .tup [.str "a", .int 1], .tup [.str "a", .str "a"], .tup [.tup []]]
theorem odd_th {L R : Nat} (hL : L ≠ 0) (hR : L ≠ R) (g : S[L]? = some (.lst [.str "a"])) : ∀ v ∈ oddL L, Th S R v := by
  have a : NmOk ("a" : Str) := ⟨by decide +kernel, by decide +kernel⟩
  have sa : ∀ {n}, In S (Fq R) (M0 + 3) n 8 (.str "a") := K55.In.str a
  have i1 : In S (Fq R) (M0 + 3) 0 1 (.int 1) := K55.In.int 1 (by have := K55.m0_big; show 1 ≤ M0 + 3; omega) (by decide)
  have nl : In S (Fq R) (M0 + 3) 1 0 (.tup []) := K55.InL.nil.tup
  intro v hv
  simp only [oddL, List.mem_cons, List.not_mem_nil, or_false] at hv
  rcases hv with rfl | rfl | rfl | rfl | rfl | rfl | rfl | rfl
  · exact (K55.In.non (n := 0)).mono (Nat.le_refl _) (by decide) (by decide)
  · exact nl.mono (Nat.le_refl _) (by decide) (by decide)
  · exact ((K55.InL.cons (n := 0) sa K55.InL.nil).tup).mono (Nat.le_refl _) (by decide) (by decide)
  · exact ((K55.InL.cons (n := 0) sa K55.InL.nil).lst (Fo := Fq R) ⟨hL, hR⟩ g).mono (Nat.le_refl _) (by decide) (by decide)
  · exact (sa (n := 0)).mono (Nat.le_refl _) (by decide) (by decide)
  · exact ((K55.InL.cons (n := 0) sa (K55.InL.cons i1 K55.InL.nil)).tup).mono (Nat.le_refl _) (by decide) (by decide)
  · exact ((K55.InL.cons (n := 0) sa (K55.InL.cons sa K55.InL.nil)).tup).mono (Nat.le_refl _) (by decide) (by decide)
  · exact ((K55.InL.cons nl K55.InL.nil).tup).mono (Nat.le_refl _) (by decide) (by decide)
end
theorem law_true (ns : List Int) (h : ns.length ≤ 63) : ∃ S', law_ [.scr ns] [] = some (.bl true, S') := by
  suffices z : Wp (law_ [.scr ns] []) fun v _ => v = .bl true by
    obtain ⟨v, S', e, rfl⟩ := z
    exact ⟨S', e⟩
  refine AL.wf ?_; simp only [List.map_cons, List.map_nil, List.length_cons, List.length_nil, Nat.reduceAdd, Nat.reduceSub, List.replicate_succ, List.replicate_zero, List.cons_append, List.nil_append]; unfold law_B; array_get_dec
  refine (feed_wp ns h).imp ?_
  rintro _ S0 ⟨rfl, t0⟩
  have s3 : 3 ≤ S0.length := by
    obtain ⟨_, _, _, _, hh, _⟩ := t0.ex
    have := lt_of_at hh
    omega
  array_get_dec
  intro S1 L e_L l_S1 g_L k_S1
  array_get_dec
  intro S2 M e_M l_S2 g_M k_S2
  have gL := k_S2 _ _ g_L
  array_get_dec
  refine ⟨_, rfl, ?_, by omega, by omega⟩
  have lz : (rangeV 0 (8 : Int).toNat).length = 8 := by rfl
  have ML : L < M := by have := lt_of_at g_L; omega
  refine ws_loop (fun i ρ S => (∃ z3 z4 z5 z6 z7 z8 z9 z10 z11 z12 z13 z14 z15 : Option Val, ρ = [some (.scr ns), some (.ref 0), some (.ref M), z3, z4, z5, z6, z7, z8, z9, z10, z11, z12, z13, z14, z15]) ∧ S[L]? = some (.lst [.str "a"]) ∧ S[M]? = some (.lst (oddL L)) ∧ Tf S (1000 * (i : Nat)) ∧ i ≤ 8) ⟨⟨_, _, _, _, _, _, _, _, _, _, _, _, _, rfl⟩, gL, g_M, by simpa using (t0.fr k_S1).fr k_S2, Nat.zero_le _⟩ (fun _ _ _ _ _ => trivial) ?_ ?_
  · rintro i v ρ S hv ⟨⟨z3, z4, z5, z6, z7, z8, z9, z10, z11, z12, z13, z14, z15, rfl⟩, hL, hM, T, i6⟩
    have li : i < 8 := by
      have := (List.getElem?_eq_some_iff.mp hv).1
      rwa [lz] at this
    refine bn rfl ?_
    array_get_dec
    refine (pairs_wp T (by omega)).imp ?_
    rintro _ S3 ⟨P, rfl, ok, T3, k3⟩
    have l8 := ok.len
    have hL3 := k3 _ _ (by omega) hL
    have hM3 := k3 _ _ (by omega) hM
    array_get_dec
    refine vListL rfl hM3 ?_
    intro S4 r1 e_r1 l_S4 g_r1 k_S4
    have r1M : M < r1 := by have := lt_of_at hM3; omega
    array_get_dec
    refine wUnp ?_
    array_get_dec
    refine .inl ⟨_, rfl, ?_⟩
    refine lc_pure (fun _ => true) (fun v => match v with | .tup [a, _] => a | _ => .non) trivial (by rw [List.length_map]; omega) (fun v hv => ?_) ?_
    · obtain ⟨p, hp, rfl⟩ := List.mem_map.mp hv
      refine bn rfl ?_
      array_get_dec
      exact ⟨rfl, rfl, fun _ => by array_get_dec; exact ⟨rfl, rfl⟩⟩
    rw [List.filter_eq_self.mpr (fun _ _ => rfl), List.map_map, show ((fun v => match v with | .tup [a, _] => a | _ => Val.non) ∘ fpV) = (fun p : Str × Str => Val.str p.1) from rfl]
    intro S5 q1 e_q1 l_S5 g_q1 k_S5
    array_get_dec
    intro S6 q2 e_q2 l_S6 g_q2 k_S6
    refine vCatL rfl rfl (k_S6 _ _ g_q1) g_q2 (by simp; omega) ?_
    intro S7 N e_N l_S7 g_N k_S7
    array_get_dec
    have T7 := ((T3.fr k_S4).fr k_S5).fr (k_S6.trans k_S7)
    have k47 : Kn S4 S7 := k_S5.trans (k_S6.trans k_S7)
    refine (ringL_wp ok).imp ?_
    rintro _ S8 ⟨rfl, k8⟩
    have T8 := T7.fr k8
    have g1 := k8 _ _ (k47 _ _ g_r1)
    have th1 : ∀ v ∈ oddL L, Th S8 r1 v := odd_th (by omega) (by omega) (k8 _ _ (k47 _ _ (k_S4 _ _ hL3)))
    refine bn rfl (ws_seq ?_)
    refine ws_cut' (ring_things ok T8 (by omega) g1 (by omega) th1 (show 8 ≤ 10 by omega)) ?_ (fun _ _ h => h.elim)
    rintro _ S9 ⟨R, us, b11, rfl, gR, R3, th, lu, T9, k89, hR⟩
    have q1l : r1 < q1 := by have := lt_of_at g_r1; omega
    have nl : q1 < N := by have := lt_of_at (k_S6 _ _ g_q1); omega
    have N8 := lt_of_at (k8 _ _ g_N)
    have RN : R ≠ N := by rcases hR with h | h <;> omega
    have RL : R ≠ L := by rcases hR with h | h <;> omega
    have RM : R ≠ M := by rcases hR with h | h <;> omega
    have hL9 := k89 _ _ (by omega) (k8 _ _ (k47 _ _ (k_S4 _ _ hL3)))
    have hM9 := k89 _ _ (by omega) (k8 _ _ (k47 _ _ (k_S4 _ _ hM3)))
    have gN9 := k89 N _ (by omega) (k8 _ _ g_N)
    have a0 : NmOk ("a" : Str) := ⟨by decide +kernel, by decide +kernel⟩
    have eN : (P.map fun p => Val.str p.1) ++ [Val.str "a"] = (P.map (·.1) ++ [("a" : Str)]).map .str := by
      rw [List.map_append, List.map_map]
      rfl
    rw [eN] at gN9
    have nN : ∀ x ∈ P.map (·.1) ++ [("a" : Str)], NmOk x := fun x hx => by
      rcases List.mem_append.mp hx with h | h
      · obtain ⟨p, hp, rfl⟩ := List.mem_map.mp h
        exact (ok.nm p hp).1
      · rw [List.mem_singleton.mp h]
        exact a0
    have lN : (P.map (·.1) ++ [("a" : Str)]).length ≤ 9 ∧ 1 ≤ (P.map (·.1) ++ [("a" : Str)]).length := by
      rw [List.length_append, List.length_map, List.length_singleton]
      omega
    generalize P.map (·.1) ++ [("a" : Str)] = NS at gN9 nN lN
    array_get_dec
    refine ⟨_, rfl, ?_, by omega, by omega⟩
    have lz4 : (rangeV 0 (4 : Int).toNat).length = 4 := by rfl
    refine ws_loop (fun j ρ U => (∃ b3 b6 b7 b8 b11 b12 b13 b14 b15 : Option Val, ρ = [some (.scr ns), some (.ref 0), some (.ref M), b3, some (.ref N), some (ringO (FR P)), b6, b7, b8, some (.ptu (P.map fpV)), some (.ref R), b11, b12, b13, b14, b15]) ∧ U[L]? = some (.lst [.str "a"]) ∧ U[M]? = some (.lst (oddL L)) ∧ U[N]? = some (.lst (NS.map .str)) ∧ (∃ us : List Val, U[R]? = some (.lst us) ∧ (∀ v ∈ us, Th U R v) ∧ us.length ≤ 20 + j) ∧ Tf U (1000 * ((i : Nat) : Int) + 300 + 10 * (j : Nat)) ∧ j ≤ 4) ⟨⟨_, _, _, _, _, _, _, _, _, rfl⟩, hL9, hM9, gN9, ⟨us, gR, th, by omega⟩, T9.mono (by omega), Nat.zero_le _⟩ (fun _ _ _ _ _ => trivial) ?_ ?_
    · rintro j v ρ U hv ⟨⟨b3, b6, b7, b8, b11, b12, b13, b14, b15, rfl⟩, uL, uM, uN, ⟨us, uR, tu, lu⟩, TU, j4⟩
      have lj : j < 4 := by
        have := (List.getElem?_eq_some_iff.mp hv).1
        rwa [lz4] at this
      refine bn rfl ?_
      array_get_dec
      refine (draw_wp TU (m := 4) (by omega) (by omega) (by omega)).imp ?_
      rintro _ U1 ⟨d, rfl, d0, d1, TU1, kU1⟩
      obtain ⟨d, rfl⟩ := Int.eq_ofNat_of_zero_le d0
      array_get_dec
      refine ⟨d, rfl, ?_, by omega, by omega⟩
      refine lc_inv (fun k a V => ∃ l : List Str, a = l.map .str ∧ (∀ x ∈ l, NmOk x) ∧ l.length = k ∧ k ≤ d ∧ Tf V (1000 * ((i : Nat) : Int) + 300 + 10 * (j : Nat) + 1 + (k : Nat)) ∧ Kx 0 U1 V) (by simp [rangeV]; omega) ⟨[], rfl, by simp, rfl, by omega, by simpa using TU1, .refl _ _⟩ (fun _ _ _ _ _ => trivial) (fun k a V ⟨l, e, _, h, _⟩ => by rw [e, List.length_map]; omega) ?_ ?_
      · rintro k v a V hv ⟨l, rfl, tl, hk, hkd, TV, kV⟩
        have lk : k < d := by
          have := (List.getElem?_eq_some_iff.mp hv).1
          simp [rangeV] at this
          omega
        have gNV := kV N _ (by omega) (kU1 N _ (by omega) uN)
        refine bn rfl ?_
        array_get_dec
        rw [List.length_map]
        refine (draw_wp TV (m := (NS.length : Nat)) (by omega) (by omega) (by omega)).imp ?_
        rintro _ V1 ⟨e, rfl, e0, e1, TV1, kV1⟩
        obtain ⟨e, rfl⟩ := Int.eq_ofNat_of_zero_le e0
        have he : e < NS.length := by omega
        refine vIxL rfl rfl (kV1 N _ (by omega) gNV) (atI_nat (by rw [List.getElem?_map, List.getElem?_eq_getElem he]; rfl)) ?_
        refine ⟨l ++ [NS[e]], by rw [List.map_append]; rfl, fun x hx => ?_, by rw [List.length_append, hk]; rfl, by omega, TV1.mono (by omega), kV.trans kV1⟩
        rcases List.mem_append.mp hx with h | h
        · exact tl x h
        · rw [List.mem_singleton.mp h]
          exact nN _ (List.getElem_mem he)
      · rintro a V ⟨l, rfl, tl, hk, hkd, TV, kV⟩
        have hk3 : l.length ≤ 3 := by
          have : (rangeV 0 ((d : Nat) : Int).toNat).length = d := by simp [rangeV]
          omega
        intro V1 o e_o l_V1 g_o k_V1
        array_get_dec
        have kUV : Kx 0 U V1 := (kU1.trans kV).trans (k_V1.kx 0)
        have lUV : U.length ≤ V1.length := kUV.len (by have := lt_of_at uR; omega)
        refine vApp rfl (kUV R _ (by omega) uR) ?_ (small (by omega))
        intro W l_W g_W k_W
        have TW : Tf V1 (1000 * ((i : Nat) : Int) + 300 + 10 * ((j + 1 : Nat) : Int)) := (TV.fr k_V1).mono (by
          have : (rangeV 0 ((d : Nat) : Int).toNat).length = d := by simp [rangeV]
          omega)
        refine ⟨⟨_, _, _, _, _, _, _, _, _, rfl⟩, k_W L _ RL.symm (kUV L _ (by omega) uL), k_W M _ RM.symm (kUV M _ (by omega) uM), k_W N _ RN.symm (kUV N _ (by omega) uN), ⟨_, g_W, fun v hv => ?_, by rw [List.length_append]; simp; omega⟩, TW.kx k_W R3, by omega⟩
        rcases List.mem_append.mp hv with h | h
        · exact (tu v h).to fun q us f e => ⟨f, k_W q _ f.2 (kUV q _ f.1 e)⟩
        · rw [List.mem_singleton.mp h]
          exact (in_txt tl (by omega)).mono (Nat.le_refl _) (by decide) (by decide)
    rintro ρ U ⟨⟨b3, b6, b7, b8, b11, b12, b13, b14, b15, rfl⟩, uL, uM, uN, ⟨us, uR, tu, lu⟩, TU, j4⟩
    rw [lz4] at TU lu
    array_get_dec
    refine .inr ⟨_, _, rfl, uR, ?_⟩
    refine ws_loop (fun _ ρ V => (∃ b3 b6 b7 b8 b11 b12 b13 b14 b15 : Option Val, ρ = [some (.scr ns), some (.ref 0), some (.ref M), b3, some (.ref N), some (ringO (FR P)), b6, b7, b8, some (.ptu (P.map fpV)), some (.ref R), b11, b12, b13, b14, b15]) ∧ Kn U V) ⟨⟨_, _, _, _, _, _, _, _, _, rfl⟩, .refl _⟩ (fun _ _ V _ h => h.2 _ _ uR) ?_ ?_
    · rintro j v ρ V hv ⟨⟨b3, b6, b7, b8, b11, b12, b13, b14, b15, rfl⟩, kV⟩
      obtain ⟨d, t, hw⟩ := tu v (List.mem_of_getElem? hv)
      obtain ⟨dp, tp, hp⟩ := pairs_in (S := U) (Fo := Fq R) (m := M0 + 3) ok
      have M9 : M0 + 3 < 2 ^ 900 := Nat.lt_of_lt_of_le (show M0 + 3 < 2 ^ 199 by unfold M0; decide) (Nat.pow_le_pow_right (by decide) (by decide))
      have two : Tl U (Fq R) (M0 + 3) 5 (.tup [.tup (P.map fpV), v]) (.tuple [dp, d]) := .tup (.cons (tp.up (Nat.le_refl _) (fun r vs f g => ⟨f, g⟩) 4 (by decide)) (.cons t .nil))
      have rep : ∀ W, Kn U W → gRepr [.tup [.tup (P.map fpV), v]] W = some (.str (PyData.tuple [dp, d]).shown, W) := fun W kW =>
        (two.up (Nat.le_refl _) (fun r vs f g => ⟨f, kW _ _ g⟩) 5 (Nat.le_refl _)).repr M9 (by decide) (by simp only [PyData.weight, PyData.weightAll]; omega)
      have tW : ∀ W, Kn U W → Tl W (Fq R) (M0 + 3) 4 v d := fun W kW => t.up (Nat.le_refl _) (fun r vs f g => ⟨f, kW _ _ g⟩) 4 (Nat.le_refl _)
      obtain ⟨xa, hxa⟩ := (sh_ans (P := P) (len_w t hw)).repr (by decide) (by decide)
      obtain ⟨aw, ar, ea, eq_⟩ := ans_at (P := P) (v := v)
      refine bn rfl ?_
      dsimp only [List.set_cons_zero, List.set_cons_succ]
      array_get_dec
      refine wUnp ?_
      array_get_dec
      refine Wp.of (rep _ kV) ?_
      array_get_dec
      refine (ought_wp ok M9 (by decide) (tW _ kV) (by omega)).imp ?_
      rintro _ V1 ⟨k1, rfl⟩
      array_get_dec
      refine (said_wp ok (tW _ (kV.trans k1)) (by omega)).imp ?_
      rintro _ V2 ⟨k2, rfl⟩
      array_get_dec
      refine Wp.of (hxa _) ?_
      array_get_dec
      refine Wp.of (hxa _) ?_
      array_get_dec
      refine brF (by simp) ?_
      array_get_dec
      refine wUnp ?_
      array_get_dec
      refine Wp.of (rep _ (kV.trans (k1.trans k2))) ?_
      array_get_dec
      refine brF (by simp) ?_
      array_get_dec
      rw [ea]
      array_get_dec
      refine vIxT rfl rfl (show atI (Val.str aw :: ar) ((0 : Nat) : Int) = some (.str aw) from atI_nat rfl) ?_
      array_get_dec
      refine Br.of (fun c => ?_) (fun c => ?_)
      · have c : aw = "told" := of_decide_eq_true c
        have fr := told_ring ok (eq_.mp c)
        array_get_dec
        refine wUnp ?_
        array_get_dec
        refine (follow_wp ok.nd ok.len).imp ?_
        rintro _ V3 ⟨rfl, k3⟩
        cases hF : FR P with
        | none => exact absurd hF fr
        | some r =>
          array_get_dec
          exact ⟨⟨_, _, _, _, _, _, _, _, _, rfl⟩, kV.trans (k1.trans (k2.trans k3))⟩
      · array_get_dec
        exact ⟨⟨_, _, _, _, _, _, _, _, _, rfl⟩, kV.trans (k1.trans k2)⟩
    rintro ρ V ⟨⟨b3, b6, b7, b8, b11, b12, b13, b14, b15, rfl⟩, kV⟩
    array_get_dec
    refine .inr ⟨_, _, rfl, kV _ _ uN, ?_⟩
    refine ws_loop (fun _ ρ W => (∃ b3 b6 b7 b8 b11 b12 b13 b14 b15 : Option Val, ρ = [some (.scr ns), some (.ref 0), some (.ref M), b3, some (.ref N), some (ringO (FR P)), b6, b7, b8, some (.ptu (P.map fpV)), some (.ref R), b11, b12, b13, b14, b15]) ∧ Kn V W) ⟨⟨_, _, _, _, _, _, _, _, _, rfl⟩, .refl _⟩ (fun _ _ W _ h => h.2 _ _ (kV _ _ uN)) ?_ ?_
    · rintro j v ρ W hv ⟨⟨b3, b6, b7, b8, b11, b12, b13, b14, b15, rfl⟩, kW⟩
      rw [List.getElem?_map] at hv
      obtain ⟨x, hx, rfl⟩ := Option.map_eq_some_iff.mp hv
      have nx := nN x (List.mem_of_getElem? hx)
      refine bn rfl ?_
      dsimp only [List.set_cons_zero, List.set_cons_succ]
      cases hF : FR P with
      | some r =>
        array_get_dec
        exact ⟨⟨_, _, _, _, _, _, _, _, _, rfl⟩, kW⟩
      | none =>
        have t1 : Tl W (Fq R) (M0 + 3) 1 (.tup [.str x]) (.tuple [.str x]) := .tup (.cons (.str x nx.1 (by have := nx.2; omega)) .nil)
        obtain ⟨aw, ar, ea, eq_⟩ := ans_at (P := P) (v := .tup [.str x])
        array_get_dec
        refine (said_wp ok t1 (by have := nx.2; simp only [PyData.weight, PyData.weightAll]; omega)).imp ?_
        rintro _ W1 ⟨k1, rfl⟩
        rw [ea]
        array_get_dec
        refine vIxT rfl rfl (show atI (Val.str aw :: ar) ((0 : Nat) : Int) = some (.str aw) from atI_nat rfl) ?_
        array_get_dec
        refine Br.of (fun c => ?_) (fun c => ?_)
        · have c : aw = "told" := of_decide_eq_true c
          exact absurd hF (told_ring ok (eq_.mp c))
        · array_get_dec
          exact ⟨⟨_, _, _, _, _, _, _, _, _, rfl⟩, kW.trans k1⟩
    · rintro ρ W ⟨⟨b3, b6, b7, b8, b11, b12, b13, b14, b15, rfl⟩, kW⟩
      exact ⟨⟨_, _, _, _, _, _, _, _, _, _, _, _, _, rfl⟩, kW _ _ (kV _ _ uL), kW _ _ (kV _ _ uM), (TU.fr (kV.trans kW)).mono (by omega), by omega⟩
  · rintro ρ S ⟨⟨z3, z4, z5, z6, z7, z8, z9, z10, z11, z12, z13, z14, z15, rfl⟩, hL, hM, T, i6⟩
    array_get_dec
    rfl
end K64
namespace K64
open PySem PySem.Spec PyProof.Rows L2 G Th AL
open K57 (feedL_ feedL_B drawL_ drawL_B)
open K62 (ring_from_ ring_from_B follow_ring_ follow_ring_B)
open K63 (pairsL_ pairsL_B ringL_ ringL_B)
open K55 (bentL_ bentL_B bentL_n)
theorem all_mk {l : PySem.W.OpenLaw} {w : World} {K : PySem.W.Frag} {h : Heap} {mg : Str → Option Value} {fa : Addr} (X : K.In h) (G : h.Ns mainGlobals mg) (hfa : mg "law" = some (.ref fa))
    {o0 : Value} {od0 an0 : Option Addr} {sl0 : Array (Option Value)} {kV0 dc0 pm0 cd0 ct0 : Value} {f0 : Addr} {o1 : Value} {od1 an1 : Option Addr} {sl1 : Array (Option Value)} {kV1 dc1 pm1 cd1 ct1 : Value} {f1 : Addr} {o2 : Value} {od2 an2 : Option Addr} {sl2 : Array (Option Value)} {kV2 dc2 pm2 cd2 ct2 : Value} {f2 : Addr} {o3 : Value} {od3 an3 : Option Addr} {sl3 : Array (Option Value)} {kV3 dc3 pm3 cd3 ct3 : Value} {f3 : Addr} {o4 : Value} {od4 an4 : Option Addr} {sl4 : Array (Option Value)} {kV4 dc4 pm4 cd4 ct4 : Value} {f4 : Addr} {o5 : Value} {od5 an5 : Option Addr} {sl5 : Array (Option Value)} {kV5 dc5 pm5 cd5 ct5 : Value} {f5 : Addr} {o6 : Value} {od6 an6 : Option Addr} {sl6 : Array (Option Value)} {kV6 dc6 pm6 cd6 ct6 : Value} {f6 : Addr} {o7 : Value} {od7 an7 : Option Addr} {sl7 : Array (Option Value)} {kV7 dc7 pm7 cd7 ct7 : Value} {f7 : Addr} {o8 : Value} {od8 an8 : Option Addr} {sl8 : Array (Option Value)} {kV8 dc8 pm8 cd8 ct8 : Value} {f8 : Addr} {o9 : Value} {od9 an9 : Option Addr} {sl9 : Array (Option Value)} {kV9 dc9 pm9 cd9 ct9 : Value} {f9 : Addr} {o10 : Value} {od10 an10 : Option Addr} {sl10 : Array (Option Value)} {kV10 dc10 pm10 cd10 ct10 : Value} {f10 : Addr} {o11 : Value} {od11 an11 : Option Addr} {sl11 : Array (Option Value)} {kV11 dc11 pm11 cd11 ct11 : Value} {f11 : Addr}
 {C_ClockError : Addr} {C_LackError : Addr} {C_Lied : Addr} {C_NoEvent : Addr} {C_NoHouse : Addr} {C_NoLink : Addr} {C_NoNumber : Addr} {C_NoPaper : Addr} {C_NoRow : Addr} {C_NoStep : Addr} {C_NoText : Addr} {C_NoWorld : Addr} {fI_NoPaper : Addr} {oI_NoPaper kVI_NoPaper dcI_NoPaper pmI_NoPaper cdI_NoPaper ctI_NoPaper : Value} {odI_NoPaper anI_NoPaper : Option Addr} {slI_NoPaper : Array (Option Value)}
    (a0 : PySem.W.nsIn K mainGlobals "lets_follow_ring" = some (some (.ref f0))) (l0 : K.lookup f0 = some ⟨o0, od0, .func (PySem.W.fnOf "lets_follow_ring" "lets_follow_ring" (defArgs st_lets_follow_ring_) (defBody st_lets_follow_ring_) (defScope st_lets_follow_ring_) .none kV0 dc0 pm0 an0 cd0 ct0), sl0⟩) (c0 : PySem.W.codeIn K cd0 "lets_follow_ring" = true) (k0 : PySem.W.keepIn K (.ref f0) = true)
    (a1 : PySem.W.nsIn K mainGlobals "ring_from" = some (some (.ref f1))) (l1 : K.lookup f1 = some ⟨o1, od1, .func (PySem.W.fnOf "ring_from" "ring_from" (defArgs st_ring_from_) (defBody st_ring_from_) (defScope st_ring_from_) .none kV1 dc1 pm1 an1 cd1 ct1), sl1⟩) (c1 : PySem.W.codeIn K cd1 "ring_from" = true) (k1 : PySem.W.keepIn K (.ref f1) = true)
    (a2 : PySem.W.nsIn K mainGlobals "follow_ring" = some (some (.ref f2))) (l2 : K.lookup f2 = some ⟨o2, od2, .func (PySem.W.fnOf "follow_ring" "follow_ring" (defArgs st_follow_ring_) (defBody st_follow_ring_) (defScope st_follow_ring_) .none kV2 dc2 pm2 an2 cd2 ct2), sl2⟩) (c2 : PySem.W.codeIn K cd2 "follow_ring" = true) (k2 : PySem.W.keepIn K (.ref f2) = true)
    (a3 : PySem.W.nsIn K mainGlobals "_law_feed" = some (some (.ref f3))) (l3 : K.lookup f3 = some ⟨o3, od3, .func (PySem.W.fnOf "_law_feed" "_law_feed" (defArgs st_feedL_) (defBody st_feedL_) (defScope st_feedL_) .none kV3 dc3 pm3 an3 cd3 ct3), sl3⟩) (c3 : PySem.W.codeIn K cd3 "_law_feed" = true) (k3 : PySem.W.keepIn K (.ref f3) = true)
    (a4 : PySem.W.nsIn K mainGlobals "_law_draw" = some (some (.ref f4))) (l4 : K.lookup f4 = some ⟨o4, od4, .func (PySem.W.fnOf "_law_draw" "_law_draw" (defArgs st_drawL_) (defBody st_drawL_) (defScope st_drawL_) .none kV4 dc4 pm4 an4 cd4 ct4), sl4⟩) (c4 : PySem.W.codeIn K cd4 "_law_draw" = true) (k4 : PySem.W.keepIn K (.ref f4) = true)
    (a5 : PySem.W.nsIn K mainGlobals "_law_pairs" = some (some (.ref f5))) (l5 : K.lookup f5 = some ⟨o5, od5, .func (PySem.W.fnOf "_law_pairs" "_law_pairs" (defArgs st_pairsL_) (defBody st_pairsL_) (defScope st_pairsL_) .none kV5 dc5 pm5 an5 cd5 ct5), sl5⟩) (c5 : PySem.W.codeIn K cd5 "_law_pairs" = true) (k5 : PySem.W.keepIn K (.ref f5) = true)
    (a6 : PySem.W.nsIn K mainGlobals "_law_ring" = some (some (.ref f6))) (l6 : K.lookup f6 = some ⟨o6, od6, .func (PySem.W.fnOf "_law_ring" "_law_ring" (defArgs st_ringL_) (defBody st_ringL_) (defScope st_ringL_) .none kV6 dc6 pm6 an6 cd6 ct6), sl6⟩) (c6 : PySem.W.codeIn K cd6 "_law_ring" = true) (k6 : PySem.W.keepIn K (.ref f6) = true)
    (a7 : PySem.W.nsIn K mainGlobals "_law_word" = some (some (.ref f7))) (l7 : K.lookup f7 = some ⟨o7, od7, .func (PySem.W.fnOf "_law_word" "_law_word" (defArgs st_wordL_) (defBody st_wordL_) (defScope st_wordL_) .none kV7 dc7 pm7 an7 cd7 ct7), sl7⟩) (c7 : PySem.W.codeIn K cd7 "_law_word" = true) (k7 : PySem.W.keepIn K (.ref f7) = true)
    (a8 : PySem.W.nsIn K mainGlobals "_law_bent" = some (some (.ref f8))) (l8 : K.lookup f8 = some ⟨o8, od8, .func (PySem.W.fnOf "_law_bent" "_law_bent" (defArgs st_bentL_) (defBody st_bentL_) (defScope st_bentL_) .none kV8 dc8 pm8 an8 cd8 ct8), sl8⟩) (c8 : PySem.W.codeIn K cd8 "_law_bent" = true) (k8 : PySem.W.keepIn K (.ref f8) = true)
    (a9 : PySem.W.nsIn K mainGlobals "_law_ought" = some (some (.ref f9))) (l9 : K.lookup f9 = some ⟨o9, od9, .func (PySem.W.fnOf "_law_ought" "_law_ought" (defArgs st_oughtL_) (defBody st_oughtL_) (defScope st_oughtL_) .none kV9 dc9 pm9 an9 cd9 ct9), sl9⟩) (c9 : PySem.W.codeIn K cd9 "_law_ought" = true) (k9 : PySem.W.keepIn K (.ref f9) = true)
    (a10 : PySem.W.nsIn K mainGlobals "_law_said" = some (some (.ref f10))) (l10 : K.lookup f10 = some ⟨o10, od10, .func (PySem.W.fnOf "_law_said" "_law_said" (defArgs st_saidL_) (defBody st_saidL_) (defScope st_saidL_) .none kV10 dc10 pm10 an10 cd10 ct10), sl10⟩) (c10 : PySem.W.codeIn K cd10 "_law_said" = true) (k10 : PySem.W.keepIn K (.ref f10) = true)
    (a11 : PySem.W.nsIn K mainGlobals "law" = some (some (.ref f11))) (l11 : K.lookup f11 = some ⟨o11, od11, .func (PySem.W.fnOf "law" "law" (defArgs st_law_) (defBody st_law_) (defScope st_law_) .none kV11 dc11 pm11 an11 cd11 ct11), sl11⟩) (c11 : PySem.W.codeIn K cd11 "law" = true) (k11 : PySem.W.keepIn K (.ref f11) = true)
    (aC_ClockError : PySem.W.nsIn K mainGlobals "ClockError" = some (some (.ref C_ClockError)))
    (aC_LackError : PySem.W.nsIn K mainGlobals "LackError" = some (some (.ref C_LackError)))
    (aC_Lied : PySem.W.nsIn K mainGlobals "Lied" = some (some (.ref C_Lied)))
    (aC_NoEvent : PySem.W.nsIn K mainGlobals "NoEvent" = some (some (.ref C_NoEvent)))
    (aC_NoHouse : PySem.W.nsIn K mainGlobals "NoHouse" = some (some (.ref C_NoHouse)))
    (aC_NoLink : PySem.W.nsIn K mainGlobals "NoLink" = some (some (.ref C_NoLink)))
    (aC_NoNumber : PySem.W.nsIn K mainGlobals "NoNumber" = some (some (.ref C_NoNumber)))
    (aC_NoPaper : PySem.W.nsIn K mainGlobals "NoPaper" = some (some (.ref C_NoPaper)))
    (aC_NoRow : PySem.W.nsIn K mainGlobals "NoRow" = some (some (.ref C_NoRow)))
    (aC_NoStep : PySem.W.nsIn K mainGlobals "NoStep" = some (some (.ref C_NoStep)))
    (aC_NoText : PySem.W.nsIn K mainGlobals "NoText" = some (some (.ref C_NoText)))
    (aC_NoWorld : PySem.W.nsIn K mainGlobals "NoWorld" = some (some (.ref C_NoWorld)))
    (T_NoPaper : OexC K C_NoPaper) (iC_NoPaper : PySem.W.findIn K (.ref C_NoPaper) "__init__" = some (some (.ref fI_NoPaper))) (tI_NoPaper : PySem.W.typeIn K (.ref fI_NoPaper) = some (.type "function")) (lI_NoPaper : K.lookup fI_NoPaper = some ⟨oI_NoPaper, odI_NoPaper, .func (PySem.W.fnOf "__init__" "NoPaper.__init__" (defArgs st_i_NoPaper) (defBody st_i_NoPaper) (defScope st_i_NoPaper) .none kVI_NoPaper dcI_NoPaper pmI_NoPaper anI_NoPaper cdI_NoPaper ctI_NoPaper), slI_NoPaper⟩) (cI_NoPaper : PySem.W.codeIn K cdI_NoPaper "NoPaper.__init__" = true) (kI_NoPaper : PySem.W.keepIn K (.ref fI_NoPaper) = true) (nC_NoPaper_0 : PySem.W.findIn K (.ref C_NoPaper) "word" = some none) (nC_NoPaper_1 : PySem.W.findIn K (.ref C_NoPaper) "at" = some none)
    (eY_NoPaper_ClockError : PySem.W.exmOne K (.ref C_NoPaper) (.ref C_ClockError) = some true)
    (eY_NoPaper_LackError : PySem.W.exmOne K (.ref C_NoPaper) (.ref C_LackError) = some false)
    (kE_NoPaper_0 : PySem.W.findIn K (.ref C_NoPaper) "__getattribute__" = some (some (.builtin "BaseException.__getattribute__")))
    (kE_NoPaper_1 : PySem.W.findIn K (.ref C_NoPaper) "__getattr__" = some none)
    (kE_NoPaper_2 : PySem.W.subIn K (.ref C_NoPaper) (.type "BaseException") = some true)
    (kE_NoPaper_3 : PySem.W.hasDictIn K C_NoPaper = true)
    (kE_NoPaper_4 : PySem.W.findIn K (.ref C_NoPaper) "__class__" = some (some (.builtin "object.__class__")))
    (kE_NoPaper_5 : PySem.W.specialIn K (.builtin "object.__class__") "__get__" = some (some (.builtin "getset_descriptor.__get__")))
    (kE_NoPaper_6 : PySem.W.takesIn K (.builtin "object.__class__") = some true)
    (kE_NoPaper_7 : PySem.W.mroIn K C_NoPaper (.type "object") = some true)
    (qi_NoPaper_LookupError : PySem.W.kitOne K (.ref C_NoPaper) (.type "LookupError") = some false)
    (qi_NoPaper_ValueError : PySem.W.kitOne K (.ref C_NoPaper) (.type "ValueError") = some true)
    (qi_NoPaper_LackError : PySem.W.kitOne K (.ref C_NoPaper) (.ref C_LackError) = some false)
    (qi_NoPaper_ClockError : PySem.W.kitOne K (.ref C_NoPaper) (.ref C_ClockError) = some true)
    (qkt_NoPaper_Lied_NoEvent_NoNumber_NoRow_NoStep_NoText_NoWorld : PySem.W.kitAny K (.ref C_NoPaper) [.ref C_Lied, .ref C_NoEvent, .ref C_NoNumber, .ref C_NoRow, .ref C_NoStep, .ref C_NoText, .ref C_NoWorld] = some false)
    (qi_NoPaper_NoLink : PySem.W.kitOne K (.ref C_NoPaper) (.ref C_NoLink) = some false)
    (qi_NoPaper_NoHouse : PySem.W.kitOne K (.ref C_NoPaper) (.ref C_NoHouse) = some false)
    (qi_NoPaper_NoPaper : PySem.W.kitOne K (.ref C_NoPaper) (.ref C_NoPaper) = some true)
    (z_enumerate : PySem.W.nsIn K mainGlobals "enumerate" = some none) (z_len : PySem.W.nsIn K mainGlobals "len" = some none) (z_isinstance : PySem.W.nsIn K mainGlobals "isinstance" = some none) (z_tuple : PySem.W.nsIn K mainGlobals "tuple" = some none) (z_all : PySem.W.nsIn K mainGlobals "all" = some none) (z_str : PySem.W.nsIn K mainGlobals "str" = some none) (z_list : PySem.W.nsIn K mainGlobals "list" = some none) (z_sorted : PySem.W.nsIn K mainGlobals "sorted" = some none) (z_range : PySem.W.nsIn K mainGlobals "range" = some none) (z_dict : PySem.W.nsIn K mainGlobals "dict" = some none) (z_ValueError : PySem.W.nsIn K mainGlobals "ValueError" = some none) (z_LookupError : PySem.W.nsIn K mainGlobals "LookupError" = some none) (z_int : PySem.W.nsIn K mainGlobals "int" = some none) (z_bool : PySem.W.nsIn K mainGlobals "bool" = some none) (z_repr : PySem.W.nsIn K mainGlobals "repr" = some none) :
    ∃ fd : FuncData, (∀ (s : Shared) (v : Value), BindsTo s fd ⟨[v], []⟩ [("_law_script", v)]) ∧ ∀ base : Heap, K.In base → base.Ns mainGlobals mg → FnG l.prog w K mg base 11 fa fd ["_law_script"] (spA K 1 law_) := by
  have e := hfa.symm.trans (PySem.W.mg_of X G a11)
  cases e
  have F0 := fun_mk (st := st_lets_follow_ring_) l0 c0 k0
  have g0 := PySem.W.mg_of X G a0
  have b0 := F0.binds (ps := ["pairs", "thing"]) fun _ _ _ _ _ _ us hl => match us, hl with | [_, _], _ => rfl
  have F1 := fun_mk (st := st_ring_from_) l1 c1 k1
  have g1 := PySem.W.mg_of X G a1
  have b1 := F1.binds (ps := ["leads", "name"]) fun _ _ _ _ _ _ us hl => match us, hl with | [_, _], _ => rfl
  have F2 := fun_mk (st := st_follow_ring_) l2 c2 k2
  have g2 := PySem.W.mg_of X G a2
  have b2 := F2.binds (ps := ["pairs"]) fun _ _ _ _ _ _ us hl => match us, hl with | [_], _ => rfl
  have F3 := fun_mk (st := st_feedL_) l3 c3 k3
  have g3 := PySem.W.mg_of X G a3
  have b3 := F3.binds (ps := ["_law_script"]) fun _ _ _ _ _ _ us hl => match us, hl with | [_], _ => rfl
  have F4 := fun_mk (st := st_drawL_) l4 c4 k4
  have g4 := PySem.W.mg_of X G a4
  have b4 := F4.binds (ps := ["_law_feed_here", "_law_many"]) fun _ _ _ _ _ _ us hl => match us, hl with | [_, _], _ => rfl
  have F5 := fun_mk (st := st_pairsL_) l5 c5 k5
  have g5 := PySem.W.mg_of X G a5
  have b5 := F5.binds (ps := ["_law_feed_here"]) fun _ _ _ _ _ _ us hl => match us, hl with | [_], _ => rfl
  have F6 := fun_mk (st := st_ringL_) l6 c6 k6
  have g6 := PySem.W.mg_of X G a6
  have b6 := F6.binds (ps := ["_law_pairs_here"]) fun _ _ _ _ _ _ us hl => match us, hl with | [_], _ => rfl
  have F7 := fun_mk (st := st_wordL_) l7 c7 k7
  have g7 := PySem.W.mg_of X G a7
  have b7 := F7.binds (ps := ["_law_e"]) fun _ _ _ _ _ _ us hl => match us, hl with | [_], _ => rfl
  have F8 := fun_mk (st := st_bentL_) l8 c8 k8
  have g8 := PySem.W.mg_of X G a8
  have b8 := F8.binds (ps := ["_law_feed_here", "_law_thing"]) fun _ _ _ _ _ _ us hl => match us, hl with | [_, _], _ => rfl
  have F9 := fun_mk (st := st_oughtL_) l9 c9 k9
  have g9 := PySem.W.mg_of X G a9
  have b9 := F9.binds (ps := ["_law_pairs_here", "_law_thing"]) fun _ _ _ _ _ _ us hl => match us, hl with | [_, _], _ => rfl
  have F10 := fun_mk (st := st_saidL_) l10 c10 k10
  have g10 := PySem.W.mg_of X G a10
  have b10 := F10.binds (ps := ["_law_pairs_here", "_law_thing"]) fun _ _ _ _ _ _ us hl => match us, hl with | [_, _], _ => rfl
  have F11 := fun_mk (st := st_law_) l11 c11 k11
  have gC_ClockError := PySem.W.mg_of X G aC_ClockError
  have gC_LackError := PySem.W.mg_of X G aC_LackError
  have gC_Lied := PySem.W.mg_of X G aC_Lied
  have gC_NoEvent := PySem.W.mg_of X G aC_NoEvent
  have gC_NoHouse := PySem.W.mg_of X G aC_NoHouse
  have gC_NoLink := PySem.W.mg_of X G aC_NoLink
  have gC_NoNumber := PySem.W.mg_of X G aC_NoNumber
  have gC_NoPaper := PySem.W.mg_of X G aC_NoPaper
  have gC_NoRow := PySem.W.mg_of X G aC_NoRow
  have gC_NoStep := PySem.W.mg_of X G aC_NoStep
  have gC_NoText := PySem.W.mg_of X G aC_NoText
  have gC_NoWorld := PySem.W.mg_of X G aC_NoWorld
  have FI_NoPaper := fun_mk (st := st_i_NoPaper) lI_NoPaper cI_NoPaper kI_NoPaper
  have bI_NoPaper := FI_NoPaper.binds (ps := ["self", "word", "at"]) fun _ _ _ _ _ _ us hl => match us, hl with | [_, _, _], _ => rfl
  have m_enumerate := PySem.W.mg_none_of X G z_enumerate
  have m_len := PySem.W.mg_none_of X G z_len
  have m_isinstance := PySem.W.mg_none_of X G z_isinstance
  have m_tuple := PySem.W.mg_none_of X G z_tuple
  have m_all := PySem.W.mg_none_of X G z_all
  have m_str := PySem.W.mg_none_of X G z_str
  have m_list := PySem.W.mg_none_of X G z_list
  have m_sorted := PySem.W.mg_none_of X G z_sorted
  have m_range := PySem.W.mg_none_of X G z_range
  have m_dict := PySem.W.mg_none_of X G z_dict
  have m_ValueError := PySem.W.mg_none_of X G z_ValueError
  have m_LookupError := PySem.W.mg_none_of X G z_LookupError
  have m_int := PySem.W.mg_none_of X G z_int
  have m_bool := PySem.W.mg_none_of X G z_bool
  have m_repr := PySem.W.mg_none_of X G z_repr
  refine ⟨PySem.W.fnOf "law" "law" (defArgs st_law_) (defBody st_law_) (defScope st_law_) .none kV11 dc11 pm11 an11 cd11 ct11, fun s v => .of_eq rfl, fun base _ _ => ?_⟩
  have x_NoPaper : KnX l.prog w K mg base "NoPaper" := kn_NoPaper T_NoPaper iC_NoPaper tI_NoPaper gC_NoPaper FI_NoPaper bI_NoPaper nC_NoPaper_0 nC_NoPaper_1
  have cl_ClockError := gC_ClockError
  have cl_LackError := gC_LackError
  have hx_NoPaper : ∃ D, mg "NoPaper" = some (.ref D) ∧ PySem.W.exmAny K (.ref D) [.ref C_ClockError, .ref C_LackError] = some true := ⟨_, gC_NoPaper, by simp only [PySem.W.exmAny, eY_NoPaper_ClockError, eY_NoPaper_LackError, Bool.or_true, Bool.true_or, Bool.or_false, Bool.false_or]⟩
  have ke_NoPaper : KnE K mg "NoPaper" := ⟨C_NoPaper, gC_NoPaper, kE_NoPaper_0, kE_NoPaper_1, kE_NoPaper_2, kE_NoPaper_3, kE_NoPaper_4, kE_NoPaper_5, kE_NoPaper_6, kE_NoPaper_7, fun n hn => by
    have hn : n ∈ (["word", "at"] : List Str) := hn
    simp only [List.mem_cons, List.not_mem_nil, or_false] at hn
    rcases hn with rfl | rfl
    · exact nC_NoPaper_0
    · exact nC_NoPaper_1⟩
  have ki_NoPaper_LookupError : KI K mg "NoPaper" "LookupError" false := ⟨C_NoPaper, .ty "LookupError", gC_NoPaper, (.inr ⟨m_LookupError, "LookupError", by decide +kernel, rfl⟩), qi_NoPaper_LookupError⟩
  have ki_NoPaper_ValueError : KI K mg "NoPaper" "ValueError" true := ⟨C_NoPaper, .ty "ValueError", gC_NoPaper, (.inr ⟨m_ValueError, "ValueError", by decide +kernel, rfl⟩), qi_NoPaper_ValueError⟩
  have ki_NoPaper_LackError : KI K mg "NoPaper" "LackError" false := ⟨C_NoPaper, .ref C_LackError, gC_NoPaper, (.inl ⟨_, gC_LackError, rfl⟩), qi_NoPaper_LackError⟩
  have ki_NoPaper_ClockError : KI K mg "NoPaper" "ClockError" true := ⟨C_NoPaper, .ref C_ClockError, gC_NoPaper, (.inl ⟨_, gC_ClockError, rfl⟩), qi_NoPaper_ClockError⟩
  have kt_NoPaper_Lied_NoEvent_NoNumber_NoRow_NoStep_NoText_NoWorld : KTu K mg "NoPaper" ["Lied", "NoEvent", "NoNumber", "NoRow", "NoStep", "NoText", "NoWorld"] false := ⟨C_NoPaper, [.ref C_Lied, .ref C_NoEvent, .ref C_NoNumber, .ref C_NoRow, .ref C_NoStep, .ref C_NoText, .ref C_NoWorld], gC_NoPaper, (.cons (.inl ⟨_, gC_Lied, rfl⟩) (.cons (.inl ⟨_, gC_NoEvent, rfl⟩) (.cons (.inl ⟨_, gC_NoNumber, rfl⟩) (.cons (.inl ⟨_, gC_NoRow, rfl⟩) (.cons (.inl ⟨_, gC_NoStep, rfl⟩) (.cons (.inl ⟨_, gC_NoText, rfl⟩) (.cons (.inl ⟨_, gC_NoWorld, rfl⟩) .nil))))))), qkt_NoPaper_Lied_NoEvent_NoNumber_NoRow_NoStep_NoText_NoWorld⟩
  have ki_NoPaper_NoLink : KI K mg "NoPaper" "NoLink" false := ⟨C_NoPaper, .ref C_NoLink, gC_NoPaper, (.inl ⟨_, gC_NoLink, rfl⟩), qi_NoPaper_NoLink⟩
  have ki_NoPaper_NoHouse : KI K mg "NoPaper" "NoHouse" false := ⟨C_NoPaper, .ref C_NoHouse, gC_NoPaper, (.inl ⟨_, gC_NoHouse, rfl⟩), qi_NoPaper_NoHouse⟩
  have ki_NoPaper_NoPaper : KI K mg "NoPaper" "NoPaper" true := ⟨C_NoPaper, .ref C_NoPaper, gC_NoPaper, (.inl ⟨_, gC_NoPaper, rfl⟩), qi_NoPaper_NoPaper⟩
  have d_lets_follow_ring_ : DefX l.prog w K mg base 3 "lets_follow_ring" ["pairs", "thing"] lets_follow_ring_ := ok_lets_follow_ring_ F0 b0 g0 x_NoPaper m_enumerate m_len m_isinstance m_tuple m_all m_str
  have d_ring_from_ : Def l.prog w K mg base 1 "ring_from" ["leads", "name"] ring_from_ := ok_ring_from_ F1 b1 g1 m_len m_tuple
  have d_follow_ring_ : Def l.prog w K mg base 2 "follow_ring" ["pairs"] follow_ring_ := ok_follow_ring_ F2 b2 g2 d_ring_from_
  have d_feedL_ : Def l.prog w K mg base 1 "_law_feed" ["_law_script"] feedL_ := ok_feedL_ F3 b3 g3 m_list
  have d_drawL_ : Def l.prog w K mg base 1 "_law_draw" ["_law_feed_here", "_law_many"] drawL_ := ok_drawL_ F4 b4 g4 m_len
  have d_pairsL_ : Def l.prog w K mg base 2 "_law_pairs" ["_law_feed_here"] pairsL_ := ok_pairsL_ F5 b5 g5 d_drawL_ m_sorted m_tuple m_range m_len
  have d_ringL_ : Def l.prog w K mg base 1 "_law_ring" ["_law_pairs_here"] ringL_ := ok_ringL_ F6 b6 g6 m_dict m_tuple
  have e_wordL_NoPaper : DefE l.prog w K mg base 1 "_law_word" 2 "NoPaper" wordL_S_NoPaper := ok_wordL_NoPaper F7 b7 g7 ke_NoPaper ki_NoPaper_LookupError ki_NoPaper_ValueError ki_NoPaper_LackError ki_NoPaper_ClockError kt_NoPaper_Lied_NoEvent_NoNumber_NoRow_NoStep_NoText_NoWorld ki_NoPaper_NoLink ki_NoPaper_NoHouse ki_NoPaper_NoPaper m_isinstance m_ValueError m_LookupError
  have d_bentL_ : Def l.prog w K mg base 10 "_law_bent" ["_law_feed_here", "_law_thing"] bentL_ := ok_bentL_ F8 b8 g8 d_drawL_ m_isinstance m_tuple m_int m_list m_bool m_len
  have d_oughtL_ : Def l.prog w K mg base 1 "_law_ought" ["_law_pairs_here", "_law_thing"] oughtL_ := ok_oughtL_ F9 b9 g9 m_range m_dict m_len m_isinstance m_tuple m_str
  have d_saidL_ : Def l.prog w K mg base 4 "_law_said" ["_law_pairs_here", "_law_thing"] saidL_ := ok_saidL_ F10 b10 g10 e_wordL_NoPaper d_lets_follow_ring_ cl_ClockError cl_LackError hx_NoPaper ke_NoPaper
  exact ok_law_ F11 d_feedL_ d_ringL_ d_pairsL_ d_drawL_ d_oughtL_ d_bentL_ d_follow_ring_ d_saidL_ m_range m_list m_len m_tuple m_repr
end K64
open PySem PySem.W PyProof.Rows in
set_option maxRecDepth 100000 in
set_option maxHeartbeats 0 in
theorem PySem.Challenge.cw_ledclocks_k64_follow_rings_judged_holds : PySem.Challenge.rw_ledclocks_k64_follow_rings_judged.Holds := by
  w_on; o_law; k_head; (case hw => w_witness2)
  k_fill
  refine G.walk_g (l := PySem.Challenge.rw_ledclocks_k64_follow_rings_judged) (n := 63) (k := 11) (x := "_law_script") (sp := fun w => AL.spA _ 1 K64.law_) rfl (by decide) rfl ⟨rfl, by decide, by decide⟩ (fun w h Y => PySem.W.kIn_of Y) ?F (fun w _ a ns hl hO hS => AL.hsp_a K64.law_true hl hO hS)
  case F =>
    intro w mg fa h KX G hmg
    refine' K64.all_mk KX G hmg  ?a0 ?l0 ?c0 ?k0 ?a1 ?l1 ?c1 ?k1 ?a2 ?l2 ?c2 ?k2 ?a3 ?l3 ?c3 ?k3 ?a4 ?l4 ?c4 ?k4 ?a5 ?l5 ?c5 ?k5 ?a6 ?l6 ?c6 ?k6 ?a7 ?l7 ?c7 ?k7 ?a8 ?l8 ?c8 ?k8 ?a9 ?l9 ?c9 ?k9 ?a10 ?l10 ?c10 ?k10 ?a11 ?l11 ?c11 ?k11   ?aC_ClockError ?aC_LackError ?aC_Lied ?aC_NoEvent ?aC_NoHouse ?aC_NoLink ?aC_NoNumber ?aC_NoPaper ?aC_NoRow ?aC_NoStep ?aC_NoText ?aC_NoWorld  ?T_NoPaper ?iC_NoPaper ?tI_NoPaper ?lI_NoPaper ?cI_NoPaper ?kI_NoPaper ?nC_NoPaper_0 ?nC_NoPaper_1 ?eY_NoPaper_ClockError ?eY_NoPaper_LackError ?kE_NoPaper_0 ?kE_NoPaper_1 ?kE_NoPaper_2 ?kE_NoPaper_3 ?kE_NoPaper_4 ?kE_NoPaper_5 ?kE_NoPaper_6 ?kE_NoPaper_7 ?qi_NoPaper_LookupError ?qi_NoPaper_ValueError ?qi_NoPaper_LackError ?qi_NoPaper_ClockError ?qkt_NoPaper_Lied_NoEvent_NoNumber_NoRow_NoStep_NoText_NoWorld ?qi_NoPaper_NoLink ?qi_NoPaper_NoHouse ?qi_NoPaper_NoPaper  ?z_enumerate ?z_len ?z_isinstance ?z_tuple ?z_all ?z_str ?z_list ?z_sorted ?z_range ?z_dict ?z_ValueError ?z_LookupError ?z_int ?z_bool ?z_repr
    (case a0 => k_is)
    (case l0 => k_is)
    (case c0 => k_is)
    (case k0 => k_is)
    (case a1 => k_is)
    (case l1 => k_is)
    (case c1 => k_is)
    (case k1 => k_is)
    (case a2 => k_is)
    (case l2 => k_is)
    (case c2 => k_is)
    (case k2 => k_is)
    (case a3 => k_is)
    (case l3 => k_is)
    (case c3 => k_is)
    (case k3 => k_is)
    (case a4 => k_is)
    (case l4 => k_is)
    (case c4 => k_is)
    (case k4 => k_is)
    (case a5 => k_is)
    (case l5 => k_is)
    (case c5 => k_is)
    (case k5 => k_is)
    (case a6 => k_is)
    (case l6 => k_is)
    (case c6 => k_is)
    (case k6 => k_is)
    (case a7 => k_is)
    (case l7 => k_is)
    (case c7 => k_is)
    (case k7 => k_is)
    (case a8 => k_is)
    (case l8 => k_is)
    (case c8 => k_is)
    (case k8 => k_is)
    (case a9 => k_is)
    (case l9 => k_is)
    (case c9 => k_is)
    (case k9 => k_is)
    (case a10 => k_is)
    (case l10 => k_is)
    (case c10 => k_is)
    (case k10 => k_is)
    (case a11 => k_is)
    (case l11 => k_is)
    (case c11 => k_is)
    (case k11 => k_is)
    (case aC_ClockError => k_is)
    (case aC_LackError => k_is)
    (case aC_Lied => k_is)
    (case aC_NoEvent => k_is)
    (case aC_NoHouse => k_is)
    (case aC_NoLink => k_is)
    (case aC_NoNumber => k_is)
    (case aC_NoPaper => k_is)
    (case aC_NoRow => k_is)
    (case aC_NoStep => k_is)
    (case aC_NoText => k_is)
    (case aC_NoWorld => k_is)
    (case eY_NoPaper_ClockError => exact PySem.W.exm_ref (by k_is) (by k_is) (by k_is) (by k_is))
    (case eY_NoPaper_LackError => exact PySem.W.exm_ref (by k_is) (by k_is) (by k_is) (by k_is))
    (case kE_NoPaper_0 => k_is)
    (case kE_NoPaper_1 => k_is)
    (case kE_NoPaper_2 => k_is)
    (case kE_NoPaper_3 => k_is)
    (case kE_NoPaper_4 => k_is)
    (case kE_NoPaper_5 => k_is)
    (case kE_NoPaper_6 => k_is)
    (case kE_NoPaper_7 => k_is)
    (case qi_NoPaper_LookupError => kit_is)
    (case qi_NoPaper_ValueError => kit_is)
    (case qi_NoPaper_LackError => kit_is)
    (case qi_NoPaper_ClockError => kit_is)
    (case qkt_NoPaper_Lied_NoEvent_NoNumber_NoRow_NoStep_NoText_NoWorld => kit_is)
    (case qi_NoPaper_NoLink => kit_is)
    (case qi_NoPaper_NoHouse => kit_is)
    (case qi_NoPaper_NoPaper => kit_is)
    (case T_NoPaper => exact ⟨⟨_, _, _, _, _, _, _, _, _, _, _, _, _, _, _, by k_is, by decide +kernel⟩, by k_is, by k_is, by k_is, by k_is⟩)
    (case iC_NoPaper => k_is)
    (case tI_NoPaper => k_is)
    (case lI_NoPaper => k_is)
    (case cI_NoPaper => k_is)
    (case kI_NoPaper => k_is)
    (case nC_NoPaper_0 => k_is)
    (case nC_NoPaper_1 => k_is)
    (case z_enumerate => k_is)
    (case z_len => k_is)
    (case z_isinstance => k_is)
    (case z_tuple => k_is)
    (case z_all => k_is)
    (case z_str => k_is)
    (case z_list => k_is)
    (case z_sorted => k_is)
    (case z_range => k_is)
    (case z_dict => k_is)
    (case z_ValueError => k_is)
    (case z_LookupError => k_is)
    (case z_int => k_is)
    (case z_bool => k_is)
    (case z_repr => k_is)
