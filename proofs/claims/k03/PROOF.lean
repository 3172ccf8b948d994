import PyProof.Rows.All
import Wide.All
import OpenK.AllK
import Wide.FinOn
import HandS.ForMost
import HandS.Wide
import HandS.TryOnly
import HandS.Codes
import PyProof.ReprRoads
import HandS.Lambda
import HandS.Walk
import HandS.Strs
import HandS.Sort
import HandS.SortRule
import HandS.Style
import HandS.IsInst
import HandS.TupAny
import HandS.RaiseMore
import PyProof.StrOps2
import PyProof.StrLawsRepr
import KE.GoesMore
import PyProof.EnumMake
import PyProof.EnumFor
import PyProof.Draws
import HandS.Iter
import KE.GoesZip
import HandS.Zip
import KE.KSortTupAny
import HandS.SortOrd
import HandS.More
import HandS.Defaults
import HandS.MakeKwOnly
import HandS.DictComp
import HandS.Exc
import HandS.SetFor
import HandS.Deep
import HandS.ExcOwn
import HandS.ExcInit
import KE.KExcInit
import HandS.Conv
import HandS.ExcField
import HandS.EndBits
import KE.KExcIs
import KE.KTryMore
import PyProof.Rows.CountFlat
import KE.KDictPairs
import HandS.Dict
import KE.KEqDict
import HandS.HotCalls
import HandS.TupMul
import HandS.Text
import HandS.SetTxt0
import PyProof.Rows.SetFrom
import PyProof.Rows.SortShellAny
import PyProof.P3Eq
import HandS.TupLe
import PyProof.StrLawsIn
import PyProof.CallStr
import PyProof.FitsInt
import HandS.ExcIs
import PySem.Challenge.RW_ledclocks_k03_houses_links_fields_by_kin
set_option Elab.async false
set_option linter.all false
set_option maxRecDepth 100000
set_option maxHeartbeats 4000000
set_option exponentiation.threshold 3000
namespace G
open PySem PySem.Spec PyProof.Rows L2

structure FnG (P : Program) (w : World) (K : PySem.W.Frag) (mg : Str → Option Value) (base : Heap) (k : Nat) (f : Addr) (fd : FuncData) (ps : List Str) (sp : Sp) : Prop where
  len : ∀ vs H Q E, sp vs H Q E → vs.length = ps.length
  run : ∀ (A : Around) (outer : List Env) (s : Shared) (H : Hp) (args : Args) (us : List Value) (vs : List V) (Q : VK) (E : XK),
    A.guards = some [] → Room k A → Env0 P w K mg base A outer s H → BindsTo s fd args (ps.zip us) → Vals vs us → sp vs H Q E →
      codeAny (model P w) A (.call (.ref f) args) (CR CX0 outer P w H s Q E) s
section
variable {X : Cx} {k : Nat} {f : Addr} {fd : FuncData} {ps : List Str} {sp : Sp} {E : XK} {x : Str} {p pos : Pos} {e : Expr} {es : List Expr} {t : TA}
theorem run_g {pins : List (Addr × Obj)} {σ : L2.St} {H : Hp} {s : Shared} {Q : VK} {us : List Value} {vs : List V}
    (F : FnG X.prog X.w X.K X.mg X.base k f fd ps sp) (g : X.A.guards = some []) (hr : Room k X.A) (hb : Binds X.K fd ps [])
    (I : Inv X pins σ H s) (r : Vals vs us) (h : sp vs H Q E) :
    wpAny (model X.prog X.w) X.A (call (.ref f) us) (EP X pins σ Q) X.xe s := by
  have n1 : us.length = ps.length := r.length.symm.trans (F.len vs H Q E h)
  have b1 := hb s us I.kIn ((congrArg List.length (List.append_nil us)).trans n1)
  rw [List.append_nil] at b1
  refine wpAny_call (codeAny_mono (F.run X.A X.stack s H ⟨us, []⟩ us vs Q E g hr I.env0 b1 r h) ?_)
  intro res s' c
  match res, c with
  | .error _, c => exact False.elim c
  | .ok (.ret _), c => exact I.after c
  | .ok .next, c => exact False.elim c
  | .ok .brk, c => exact False.elim c
  | .ok .cont, c => exact False.elim c

theorem pe_callG (F : FnG X.prog X.w X.K X.mg X.base k f fd ps sp) (g : X.A.guards = some []) (hr : Room k X.A) (hgl : Gl X x) (hm : X.mg x = some (.ref f))
    (hk : PySem.W.keepIn X.K (.ref f) = true) (hb : Binds X.K fd ps []) (ha : PA X (e :: es) t)
    (hdb : (x == ("__debug__" : Str)) = false := by decide)
    (he : starEach (e :: es) X.env = (false, eval e X.env) :: starEach es X.env := by rfl)
    (hpl : (backTo pos (starEach es X.env)).any (·.1) = false := by rfl) :
    PE X (.Call (.Name x p) (e :: es) [] pos) (fun σ H Q => t σ H fun vs H1 => sp vs H1 Q E0) := by
  constructor
  intro pins s σ H Q I h
  apply wpAny_Call_Name_kw
  apply ld_glob I hgl hm _ hdb
  refine PySem.W.callWith_K (h₀ := X.base) I.ok.mod.kin hk (thn (ha.run pos pins s σ H _ I h) ?_) he hpl
  rintro us s1 ⟨vs, H1, I1, r, q⟩
  exact ⟨I1.kIn, run_g (E := E0) F g hr hb I1 r q⟩
end

theorem fn_g {P : Program} {w : World} {K : PySem.W.Frag} {mg : Str → Option Value} {base : Heap} {x qual : Str} {st : Stmt} {f : Addr} {fd : FuncData} {N ps : List Str} {k : Nat} {sp : Sp}
    (F : Fun K x qual st f fd) (S : FnScope N ps (defScope st)) (len : ∀ vs H Q E, sp vs H Q E → vs.length = ps.length)
    (body : ∀ (cdv : Value) (A : Around) (outer : List Env) (s : Shared) (H : Hp) (vs : List V) (Q : VK) (E : XK), A.guards = some [] →
      Room k (A.deeper (envOfC qual (defScope st) s.heap.objs.size f cdv)) → sp vs H Q E →
      ∃ t, PSs (cxOf CX0 P w K mg base N qual (defScope st) f cdv A outer s H E).nox (defBody st) t ∧ t { nx := fun _ H' => Q .non H', rt := Q } (start N vs) H) :
    FnG P w K mg base (k + 1) f fd ps sp := by
  obtain ⟨oc, od, kV, doc, pm, an, cdv, ct, osl, rfl, lk, hcd⟩ := F.ex
  refine ⟨len, ?_⟩
  intro A outer s H args us vs Q E g hr e0 hb r hsp
  have up : ∀ b o, base.get? b = some o → s.heap.get? b = some o := fun b o e => (e0.bs b o e).1
  have KX : K.In s.heap := e0.mod.kin.keeps up
  refine codeAny_call_function hr.depth (KX _ _ lk) rfl S.co S.gen rfl (PySem.W.codeRec_of KX hcd) (hb _ _ _ _ ?_)
  refine wpAny_newFunctionEnv_cells S.kind ?_ ?_
  · rintro ⟨n, v⟩ hy
    cases S.par n (List.of_mem_zip hy).1 with
    | inl q => exact .inl q
    | inr q => exact .inr ⟨q, PySem.W.cellsFrom_some _ _ _ (.inl q)⟩
  · rintro env rfl s1 x
    refine ⟨(e0.mod.nolimit.keeps up).keeps x.toInCall.keep, codeAny_func ?_⟩
    obtain ⟨t, ht, hq⟩ := body cdv A outer s H vs Q E g (hr.deeper _) hsp
    have I := inv_start (CX := CX0) (E := E) S hr.hd e0 (len _ _ _ _ hsp) r x
    refine wpAny_mono (ht.nox.run [] s1 (start N vs) H _ I hq) ?_ (fun e s' hs => hs)
    intro fl s' hs
    match fl, hs with
    | .ret u, ⟨v, σ', H', J, rv, q⟩ => exact ⟨v, H', J.os, J.bare, J.base, J.hok, rv, q⟩
    | .next, ⟨σ', H', J, q⟩ => exact ⟨.non, H', J.os, J.bare, J.base, J.hok, rfl, q⟩
    | .brk, ⟨_, _, _, q⟩ => exact False.elim q
    | .cont, ⟨_, _, _, q⟩ => exact False.elim q

theorem law_core {P : Program} {w : World} {K : PySem.W.Frag} {mg mb : Str → Option Value} {k : Nat} {fa a : Addr} {fd : FuncData} {x : Str} {sp : Sp} {s₁ : Shared} {vs : List Value}
    (KX : K.In s₁.heap) (hns : s₁.heap.Ns mainGlobals mg) (hb : s₁.heap.Ns builtinsNs mb) (hbb : ∀ x : Str, x ≠ "__name__" → mb x = bootBuiltins x) (hlim : s₁.heap.NoLimit) (hg : s₁.gens = #[])
    (ha : s₁.heap.get? a = some { cls := .type "list", data := .seq vs.toArray }) (hr : Room k callerA)
    (F : ∀ base : Heap, K.In base → base.Ns mainGlobals mg → FnG P w K mg base k fa fd [x] sp) (hbind : ∀ (s : Shared) (u : Value), BindsTo s fd ⟨[u], []⟩ [(x, u)])
    (H : Hp) (hO : Only H) (hok : HOk P w H s₁.heap) (hA : ∀ b, H b ≠ none → b = a) (hK : H a ≠ none → K.lookup a = none)
    (hsp : sp [.ref a] H (fun v _ => v = .bl true) fun _ _ _ => False) :
    codeAny (model P w) callerA (.call (.ref fa) ⟨[.ref a], []⟩) (fun r s' => r = .ok (.ret (.bool true)) ∧ OldK s₁.heap s'.heap ∧ s'.os = s₁.os ∧ AllBare s'.gens) s₁ := by
  have free : ∀ {b : Addr} {o : Obj}, s₁.heap.get? b = some o → (b = a → False) → H b = none := by
    intro b o _ hne
    cases q : H b with
    | none => rfl
    | some u => exact (hne (hA b (by simp [q]))).elim
  have hid : ∀ {b : Addr} {o : Obj}, s₁.heap.get? b = some o → H b = none → (hidT s₁.heap H).get? b = some o := fun e n => hidT_get e n
  have ns_of : ∀ {b : Addr} {m : Str → Option Value}, s₁.heap.Ns b m → (hidT s₁.heap H).Ns b m := by
    rintro b m ⟨o, es, ep, e, d, r⟩
    refine ⟨o, es, ep, hid e (free e fun z => ?_), d, r⟩
    subst z
    rw [ha] at e
    cases e
    cases (d : Data.seq vs.toArray _ = Data.dict es ep)
  have kin : K.In (hidT s₁.heap H) := by
    intro b o e
    have e2 := KX b o e
    cases q : H b with
    | none => exact hid e2 q
    | some u =>
      have z := hA b (by simp [q])
      subst z
      rw [hK (by simp [q])] at e
      cases e
  obtain ⟨mc, l1, l2⟩ := hlim
  have md : Mod K mg (hidT s₁.heap H) := ⟨kin, ns_of hns, ⟨mb, ns_of hb, hbb⟩, ⟨mc, ns_of l1, l2⟩⟩
  have none_in : ∀ {b : Addr} {Z : Prop}, b ∈ ([] : List Addr) → Z := fun z => (nomatch z)
  have e0 : Env0 P w K mg (hidT s₁.heap H) callerA [] s₁ H :=
    ⟨rfl, md, fun b o e => of_hidT e, Nat.le_of_eq (hidT_size _ _), trivial, fun b z => none_in z, hok, .of_eq hg⟩
  refine codeAny_mono ((F _ kin (ns_of hns)).run callerA [] s₁ H ⟨[.ref a], []⟩ [.ref a] [.ref a] _ _ rfl hr e0 (hbind s₁ (.ref a)) (.cons rfl .nil) hsp) ?_
  intro r s' c
  match r, c with
  | .error _, c => exact False.elim c
  | .ok .next, c => exact False.elim c
  | .ok .brk, c => exact False.elim c
  | .ok .cont, c => exact False.elim c
  | .ok (.ret u), ⟨v, H', os, bare, un, hok', rv, q⟩ =>
    have q' : v = .bl true := q
    subst q'
    obtain rfl : u = Value.bool true := rv
    refine ⟨rfl, OldK.of_keep ?_, os, bare⟩
    intro b o e
    cases hq : H b with
    | none => exact un.keep b o e hq (fun z => none_in z) (by simp)
    | some u =>
      cases hO b with
      | inl z => rw [hq] at z; cases z
      | inr z =>
        obtain ⟨ob, xs, z⟩ := z
        have o1 := (hok b _ z).1
        have o2 := (hok' b _ (un.frzs b ob _ z)).1
        rw [e] at o1
        cases o1
        exact o2
theorem law_g {P : Program} {w : World} {K : PySem.W.Frag} {mg mb : Str → Option Value} {k : Nat} {fa a : Addr} {fd : FuncData} {x : Str} {sp : Sp} {s₁ : Shared} {vs : List Value} {ns : List Int}
    (KX : K.In s₁.heap) (hns : s₁.heap.Ns mainGlobals mg) (hb : s₁.heap.Ns builtinsNs mb) (hbb : ∀ x : Str, x ≠ "__name__" → mb x = bootBuiltins x) (hlim : s₁.heap.NoLimit) (hg : s₁.gens = #[])
    (ha : s₁.heap.get? a = some { cls := .type "list", data := .seq vs.toArray }) (hi : IntsAre vs ns) (hl : ns.length ≤ sizeLine) (hr : Room k callerA)
    (F : ∀ base : Heap, K.In base → base.Ns mainGlobals mg → FnG P w K mg base k fa fd [x] sp) (hbind : ∀ (s : Shared) (u : Value), BindsTo s fd ⟨[u], []⟩ [(x, u)])
    (hsp : ∀ H : Hp, Only H → SqL K H a (ns.map V.int) → sp [.ref a] H (fun v _ => v = .bl true) fun _ _ _ => False) :
    codeAny (model P w) callerA (.call (.ref fa) ⟨[.ref a], []⟩) (fun r s' => r = .ok (.ret (.bool true)) ∧ OldK s₁.heap s'.heap ∧ s'.os = s₁.os ∧ AllBare s'.gens) s₁ := by
  have rv := vals_ints hi
  cases hk : K.lookup a with
  | some o =>
    have e := KX a o hk
    rw [ha] at e
    cases e
    have oo : Only (fun _ => none) := fun _ => .inl rfl
    refine law_core KX hns hb hbb hlim hg ha hr F hbind (fun _ => none) oo (fun b u z => by cases (z : (none : Option HO) = some u)) (fun b z => absurd rfl z) (fun z => absurd rfl z) (hsp _ oo ?_)
    refine .inr ⟨_, vs.toArray, _, hk, rfl, rfl, rfl, ?_, by simpa using rv⟩
    rw [List.size_toArray, hi.length]
    exact hl
  | none =>
    let H : Hp := fun b => if b = a then some (.frz { cls := .type "list", data := .seq vs.toArray } (.lst (ns.map V.int))) else none
    have at_ : H a = some (.frz { cls := .type "list", data := .seq vs.toArray } (.lst (ns.map V.int))) := if_pos rfl
    have off : ∀ {b : Addr}, b ≠ a → H b = none := fun n => if_neg n
    have oo : Only H := fun b => by
      by_cases z : b = a
      · subst z
        exact .inr ⟨_, _, at_⟩
      · exact .inl (off z)
    refine law_core KX hns hb hbb hlim hg ha hr F hbind H oo ?_ ?_ (fun _ => hk) (hsp _ oo (.inl (.inr ⟨_, at_⟩)))
    · intro b u z
      by_cases q : b = a
      · subst q
        rw [at_] at z
        cases z
        exact ⟨ha, by rw [List.length_map]; exact hl, vs, _, rv, ha⟩
      · rw [off q] at z
        cases z
    · intro b z
      by_cases q : b = a
      · exact q
      · exact absurd (off q) z

theorem walk_g {l : PySem.W.OpenLaw} {n k : Nat} {q : Program} {loose : List Str} {XP : (Str → Option Value) → Heap → Prop} {YP : World → Heap → Prop} {d : DefRec} {K : Params → PySem.W.Frag} {sp : World → Sp} {x : Str}
    (hn : l.most = some n) (hn2 : n ≤ sizeLine) (hdf : d.params.defaults = []) (hr : Room k callerA)
    (hY : ∀ (w : World) (h : Heap), YP w h → (K w.params).In h)
    (F : ∀ (w : World) (mg : Str → Option Value) (fa : Addr) (h : Heap), (K w.params).In h → h.Ns mainGlobals mg → mg d.name = some (.ref fa) →
      ∃ fd : FuncData, (∀ (s : Shared) (u : Value), BindsTo s fd ⟨[u], []⟩ [(x, u)]) ∧
        ∀ base : Heap, (K w.params).In base → base.Ns mainGlobals mg → FnG l.prog w (K w.params) mg base k fa fd [x] (sp w))
    (hsp : ∀ (w : World) (H : Hp) (a : Addr) (ns : List Int), ns.length ≤ n → Only H → SqL (K w.params) H a (ns.map V.int) → sp w [.ref a] H (fun v _ => v = .bl true) fun _ _ _ => False) :
    PySem.W.WalkO q loose XP YP l.row.toRowW d [] (fun f vs => PySem.call f vs) := by
  refine Att.attach_call hn hdf ?_
  intro w s₀ s₁ mg mb fa o pm cd doc a vs ns G Y ho hd hcd hmg hobj hints hlen hg
  obtain ⟨fd, hb, hF⟩ := F w mg fa _ (hY w _ Y) G.T.g hmg
  exact law_g (hY w _ Y) G.T.g G.T.b G.T.builtins G.T.nolimit hg hobj hints (Nat.le_trans hlen hn2) hr hF hb (fun H oo hS => hsp w H a ns hlen oo hS)
end G
namespace LamT
open PySem PySem.Spec PyProof.Rows L2 LamX

structure TE where
  P : Addr
  lo : Nat
  hi : Nat
  q : Str
def TabS (H : Hp) (e : TE) : Prop := ∃ tb : Array Value, H e.P = some (.tbl tb) ∧ TriplesOk tb.toList ∧ ∀ (at_ : Pos) (v : Value), e.lo ≤ at_.line → at_.line ≤ e.hi → codeAmong at_ tb.toList = some v → ∃ d, v = .ref d ∧ H d = some (CodeO d e.q)
def Tabs (T : List TE) (H : Hp) : Prop := ∀ e ∈ T, TabS H e
theorem TabS.nil {H : Hp} {e : TE} (h : H e.P = some (.tbl #[])) : TabS H e := by
  refine ⟨#[], h, trivial, ?_⟩
  intro at_ v _ _ z
  have z2 : codeAmong at_ ([] : List Value) = some v := z
  simp [codeAmong] at z2
end LamT
namespace AL
open PySem PySem.Spec PyProof.Rows L2 G
inductive Val where
  | non | bl (b : Bool) | int (i : Int) | str (x : Str) | tup (vs : List Val) | ref (n : Nat) | scr (ns : List Int)
  
  | lam (f c : Addr) (q : Str) (us : List V) (vs : List Val)
  
  | exc (a dd : Addr) (c : Str) (vs : List Val)
  
  | ptu (vs : List Val)
inductive Ob where
  | lst (vs : List Val)
  | dic (kvs : List (Key × Val))
  | set (w : World) (f : Int → Bool) (n : Nat)
  
  | obj (C : Str) (fs : List (Str × Val))
abbrev Sto := List Ob

class TT where
  T : List LamT.TE
  
  cls : Str → Addr
instance (priority := low) noTT : TT := ⟨[], fun _ => 0⟩

def xfs (c : Str) : List Str := if c = "NoPaper" then ["word", "at"] else if c = "NoEvent" then ["word", "at"] else if c = "NoWorld" then ["ring"] else if c = "Lied" then ["many"] else if c = "NoText" then ["row", "word"] else if c = "NoRow" then ["row"] else if c = "NoHouse" then ["name"] else ["number"]

theorem set_ne_code {w : World} {a : Addr} {f : Int → Bool} {n : Nat} {q : Str} : SetO w a f n ≠ LamX.CodeO a q := by
  intro z
  have e : (fun h => SetR w h a f n) = fun h => ∃ (oc : Obj) (vs : Array Value) (t : Tok), h.get? a = some oc ∧ oc.data = .fields vs ∧ vs[1]? = some (.str q t) := HO.ext.inj z
  have g : (⟨Array.replicate (a + 1) { cls := .none, data := .fields #[.none, .str q 0] }, {}⟩ : Heap).get? a = some { cls := .none, data := .fields #[.none, .str q 0] } := by
    unfold Heap.get?
    simp
  have y := congrFun e ⟨Array.replicate (a + 1) { cls := .none, data := .fields #[.none, .str q 0] }, {}⟩
  have h2 : ∃ (oc : Obj) (vs : Array Value) (t : Tok), (⟨Array.replicate (a + 1) { cls := .none, data := .fields #[.none, .str q 0] }, {}⟩ : Heap).get? a = some oc ∧ oc.data = .fields vs ∧ vs[1]? = some (.str q t) := ⟨_, _, 0, g, rfl, rfl⟩
  obtain ⟨o, es, ep, t, ho, _, hd, _⟩ := y.mpr h2
  rw [g] at ho
  cases ho
  cases hd
abbrev Rho := List (Option Val)

def SqF (K : PySem.W.Frag) (H : Hp) (a : Addr) (ns : List Int) : Prop :=
  (∃ o, H a = some (.frz o (.lst (ns.map V.int)))) ∨ ∃ (o : Obj) (its : Array Value) (n : Nat), K.lookup a = some o ∧ o.cls = .type "list" ∧ o.dict = none ∧ o.data = .seq its n ∧ its.size ≤ sizeLine ∧ Vals (ns.map V.int) its.toList
theorem SqF.sq {K : PySem.W.Frag} {H : Hp} {a : Addr} {ns : List Int} (h : SqF K H a ns) : SqL K H a (ns.map V.int) := by
  rcases h with ⟨o, h⟩ | h
  · exact .inl (.inr ⟨o, h⟩)
  · exact .inr h

def TupAt (K : PySem.W.Frag) (H : Hp) (a : Addr) (xs : List V) : Prop :=
  H a = some (.tup xs) ∨ (∃ (o : Obj) (its : Array Value) (n : Nat), K.lookup a = some o ∧ o.cls = .type "tuple" ∧ o.data = .seq its n ∧ its.size ≤ sizeLine ∧ Vals xs its.toList) ∨ ∃ o : Obj, H a = some (.frz o (.tup xs))
theorem TupAt.sq {K : PySem.W.Frag} {H : Hp} {a : Addr} {xs : List V} (h : TupAt K H a xs) : SqT K H a xs := by
  rcases h with h | h | ⟨o, h⟩
  · exact .inl (.inl h)
  · exact .inr h
  · exact .inl (.inr ⟨o, h⟩)
mutual
inductive VR (K : PySem.W.Frag) (H : Hp) (m : List Addr) : V → Val → Prop
  | non : VR K H m .non .non
  | bl (b : Bool) : VR K H m (.bl b) (.bl b)
  | int (i : Int) : VR K H m (.int i) (.int i)
  | str (x : Str) : VR K H m (.str x) (.str x)
  | tup {a : Addr} {xs : List V} {vs : List Val} : TupAt K H a xs → VRs K H m xs vs → VR K H m (.ref a) (.tup vs)
  | ref {a : Addr} {n : Nat} : m[n]? = some a → VR K H m (.ref a) (.ref n)
  | scr {a : Addr} {ns : List Int} : SqF K H a ns → VR K H m (.ref a) (.scr ns)
  | lam {f c : Addr} {q : Str} {us : List V} {vs : List Val} : H c = some (LamX.CodeO c q) → VRs K H m us vs → VR K H m (.ref f) (.lam f c q us vs)
  | exc {a dd : Addr} {c : Str} {fs : List (Str × V)} {us : List V} {vs : List Val} : H dd = some (.xd fs) → (∀ (i : Nat) (n : Str) (u : V), (xfs c)[i]? = some n → us[i]? = some u → fs.lookup n = some u) → VRs K H m us vs → VR K H m (.ref a) (.exc a dd c vs)
  | ptu {a : Addr} {o : Obj} {xs : List V} {vs : List Val} : H a = some (.frz o (.tup xs)) → o.dict = none → VRs K H m xs vs → VR K H m (.ref a) (.ptu vs)
inductive VRs (K : PySem.W.Frag) (H : Hp) (m : List Addr) : List V → List Val → Prop
  | nil : VRs K H m [] []
  | cons {u : V} {us : List V} {v : Val} {vs : List Val} : VR K H m u v → VRs K H m us vs → VRs K H m (u :: us) (v :: vs)
end

structure Kp (m : List Addr) (H : Hp) (m' : List Addr) (H' : Hp) : Prop where
  pre : ∃ r, m' = m ++ r
  tup : ∀ a xs, H a = some (.tup xs) → H' a = some (.tup xs)
  frz : ∀ a o u, H a = some (.frz o u) → H' a = some (.frz o u)
  xd : ∀ a fs, H a = some (.xd fs) → H' a = some (.xd fs)
  cod : ∀ a q, H a = some (LamX.CodeO a q) → H' a = some (LamX.CodeO a q)
theorem Kp.refl (m : List Addr) (H : Hp) : Kp m H m H := ⟨⟨[], (List.append_nil m).symm⟩, fun _ _ h => h, fun _ _ _ h => h, fun _ _ h => h, fun _ _ h => h⟩
theorem Kp.grow {m : List Addr} {H H' : Hp} (r : List Addr) (k : Kp m H m H') : Kp m H (m ++ r) H' := ⟨⟨r, rfl⟩, k.tup, k.frz, k.xd, k.cod⟩
theorem Kp.trans {m m1 m2 : List Addr} {H H1 H2 : Hp} (a : Kp m H m1 H1) (b : Kp m1 H1 m2 H2) : Kp m H m2 H2 := by
  obtain ⟨r, rfl⟩ := a.pre
  obtain ⟨q, rfl⟩ := b.pre
  exact ⟨⟨r ++ q, List.append_assoc ..⟩, fun x y h => b.tup x y (a.tup x y h), fun x y z h => b.frz x y z (a.frz x y z h), fun x y h => b.xd x y (a.xd x y h), fun x y h => b.cod x y (a.cod x y h)⟩
theorem Kp.get {m m' : List Addr} {H H' : Hp} (k : Kp m H m' H') {n : Nat} {a : Addr} (h : m[n]? = some a) : m'[n]? = some a := by
  obtain ⟨r, rfl⟩ := k.pre
  rw [List.getElem?_append_left (List.getElem?_eq_some_iff.mp h).1]
  exact h

def Mut (a : Addr) : HO → Prop := fun u => (∃ xs, u = .lst xs) ∨ (∃ xs, u = .dK xs) ∨ (∃ C dx fs, u = .ins C dx fs) ∨ ∃ w f n, u = SetO w a f n
theorem Mut.ne {a : Addr} {u : HO} (h : Mut a u) : (∀ xs, u ≠ .tup xs) ∧ (∀ o v, u ≠ .frz o v) ∧ (∀ fs, u ≠ .xd fs) ∧ (∀ q, u ≠ LamX.CodeO a q) ∧ ∀ ps, u ≠ .tbl ps := by
  rcases h with ⟨xs, rfl⟩ | ⟨xs, rfl⟩ | ⟨C, dx, fs, rfl⟩ | ⟨w, f, n, rfl⟩
  · refine ⟨?_, ?_, ?_, ?_, ?_⟩ <;> intros <;> intro z <;> cases z
  · refine ⟨?_, ?_, ?_, ?_, ?_⟩ <;> intros <;> intro z <;> cases z
  · refine ⟨?_, ?_, ?_, ?_, ?_⟩ <;> intros <;> intro z <;> cases z
  · refine ⟨fun _ z => ?_, fun _ _ z => ?_, fun _ z => ?_, fun _ => set_ne_code, fun _ z => ?_⟩ <;> (unfold SetO at z; cases z)
theorem Kp.at_ {m : List Addr} {H : Hp} {a : Addr} {o : HO} (h : ∀ u, H a = some u → Mut a u) : Kp m H m (upd H a o) := by
  refine ⟨⟨[], (List.append_nil m).symm⟩, fun b xs e => ?_, fun b o' u e => ?_, fun b xs e => ?_, fun b xs e => ?_⟩
  · rw [upd_ne (show b ≠ a from fun z => (h _ (z ▸ e)).ne.1 xs rfl)]
    exact e
  · rw [upd_ne (show b ≠ a from fun z => (h _ (z ▸ e)).ne.2.1 o' u rfl)]
    exact e
  · rw [upd_ne (show b ≠ a from fun z => (h _ (z ▸ e)).ne.2.2.1 xs rfl)]
    exact e
  · by_cases z : b = a
    · subst z
      exact absurd rfl ((h _ e).ne.2.2.2.1 xs)
    · rw [upd_ne z]
      exact e
theorem Kp.new {m : List Addr} {H : Hp} {a : Addr} {o : HO} (h : H a = none) : Kp m H m (upd H a o) := .at_ fun u e => by rw [h] at e; cases e
section
variable {K : PySem.W.Frag} {H H' : Hp} {m m' : List Addr}
theorem TupAt.kp (k : Kp m H m' H') {a : Addr} {xs : List V} (h : TupAt K H a xs) : TupAt K H' a xs := by
  rcases h with h | h | ⟨o, h⟩
  · exact .inl (k.tup _ _ h)
  · exact .inr (.inl h)
  · exact .inr (.inr ⟨o, k.frz _ _ _ h⟩)
theorem SqF.kp (k : Kp m H m' H') {a : Addr} {ns : List Int} (h : SqF K H a ns) : SqF K H' a ns := by
  rcases h with ⟨o, h⟩ | h
  · exact .inl ⟨o, k.frz _ _ _ h⟩
  · exact .inr h
mutual
theorem VR.kpA (k : Kp m H m' H') : ∀ (v : Val) (u : V), VR K H m u v → VR K H' m' u v
  | .non, _, h => by cases h; exact .non
  | .bl b, _, h => by cases h; exact .bl _
  | .int i, _, h => by cases h; exact .int _
  | .str x, _, h => by cases h; exact .str _
  | .ref n, _, h => by
    cases h with
    | ref e => exact .ref (k.get e)
  | .scr ns, _, h => by
    cases h with
    | scr e => exact .scr (e.kp k)
  | .lam f c q us vs, _, h => by
    cases h with
    | lam e r => exact .lam (k.cod _ _ e) (VRs.kpA k vs _ r)
  | .exc a dd c vs, _, h => by
    cases h with
    | exc e l r => exact .exc (k.xd _ _ e) l (VRs.kpA k vs _ r)
  | .ptu vs, _, h => by
    cases h with
    | ptu e d r => exact .ptu (k.frz _ _ _ e) d (VRs.kpA k vs _ r)
  | .tup vs, _, h => by
    cases h with
    | tup e r => exact .tup (e.kp k) (VRs.kpA k vs _ r)
theorem VRs.kpA (k : Kp m H m' H') : ∀ (vs : List Val) (us : List V), VRs K H m us vs → VRs K H' m' us vs
  | [], _, h => by cases h; exact .nil
  | v :: vs, _, h => by
    cases h with
    | cons a r => exact .cons (VR.kpA k v _ a) (VRs.kpA k vs _ r)
end
theorem VR.kp {u : V} {v : Val} (h : VR K H m u v) (k : Kp m H m' H') : VR K H' m' u v := VR.kpA k v u h
theorem VRs.kp {us : List V} {vs : List Val} (h : VRs K H m us vs) (k : Kp m H m' H') : VRs K H' m' us vs := VRs.kpA k vs us h
theorem VRs.len : ∀ {us : List V} {vs : List Val}, VRs K H m us vs → us.length = vs.length
  | _, _, .nil => rfl
  | _, _, .cons _ r => by rw [List.length_cons, List.length_cons, r.len]
theorem VRs.get : ∀ {us : List V} {vs : List Val} {i : Nat} {v : Val}, VRs K H m us vs → vs[i]? = some v → ∃ u, us[i]? = some u ∧ VR K H m u v
  | _, _, _, _, .nil, e => by simp at e
  | _, _, 0, _, .cons a q, e => by
    cases e
    exact ⟨_, rfl, a⟩
  | _, _, i + 1, _, .cons a q, e => q.get (i := i) e
theorem VRs.app : ∀ {us ws : List V} {vs xs : List Val}, VRs K H m us vs → VRs K H m ws xs → VRs K H m (us ++ ws) (vs ++ xs)
  | _, _, _, _, .nil, r => r
  | _, _, _, _, .cons a q, r => .cons a (q.app r)
theorem VRs.take : ∀ {us : List V} {vs : List Val} (n : Nat), VRs K H m us vs → VRs K H m (us.take n) (vs.take n)
  | _, _, 0, _ => .nil
  | _, _, _ + 1, .nil => .nil
  | _, _, n + 1, .cons a q => .cons a (q.take n)
theorem VRs.drop : ∀ {us : List V} {vs : List Val} (n : Nat), VRs K H m us vs → VRs K H m (us.drop n) (vs.drop n)
  | _, _, 0, h => h
  | _, _, _ + 1, .nil => .nil
  | _, _, n + 1, .cons a q => q.drop n
theorem VRs.set {u : V} {v : Val} (h : VR K H m u v) : ∀ {us : List V} {vs : List Val} (n : Nat), VRs K H m us vs → VRs K H m (us.set n u) (vs.set n v)
  | _, _, _, .nil => .nil
  | _, _, 0, .cons a q => .cons h q
  | _, _, n + 1, .cons a q => .cons a (q.set h n)
theorem VR.one {u : V} {v : Val} (h : VR K H m u v) : VRs K H m [u] [v] := .cons h .nil
end
variable [TT]

def OR (K : PySem.W.Frag) (H : Hp) (m : List Addr) (a : Addr) : Ob → Prop
  | .lst vs => ∃ xs, H a = some (.lst xs) ∧ VRs K H m xs vs
  | .dic kvs => ∃ xs : List (Key × V), H a = some (.dK xs) ∧ xs.map (·.1) = kvs.map (·.1) ∧ VRs K H m (xs.map (·.2)) (kvs.map (·.2))
  | .set w f n => H a = some (SetO w a f n)
  | .obj C fs => ∃ (dx : Addr) (xs : List (Str × V)), H a = some (.ins (TT.cls C) dx xs) ∧ xs.map (·.1) = fs.map (·.1) ∧ VRs K H m (xs.map (·.2)) (fs.map (·.2))
structure Rel (K : PySem.W.Frag) (m : List Addr) (S : Sto) (H : Hp) : Prop where
  len : m.length = S.length
  nd : m.Nodup
  ob : ∀ (n : Nat) (o : Ob) (a : Addr), S[n]? = some o → m[n]? = some a → OR K H m a o
  tb : LamT.Tabs TT.T H
structure Ext (m : List Addr) (H : Hp) (m' : List Addr) (H' : Hp) : Prop where
  pre : ∃ r, m' = m ++ r
  fr' : ∀ a o, H a = some o → a ∉ m → (∀ ps, o ≠ .tbl ps) → H' a = some o
  nw' : ∀ a o, a ∈ m' → a ∉ m → H a = some o → ∃ ps, o = .tbl ps
section
variable {K : PySem.W.Frag} {H H' H2 : Hp} {m m' m2 : List Addr} {S S' : Sto}
omit [TT] in
theorem Ext.refl (m : List Addr) (H : Hp) : Ext m H m H := ⟨⟨[], (List.append_nil m).symm⟩, fun _ _ h _ _ => h, fun _ _ h n => absurd h n⟩
omit [TT] in
theorem Ext.fr (e : Ext m H m' H') (a : Addr) (o : HO) (h : H a = some o) (n : a ∉ m) (t : ∀ ps, o ≠ .tbl ps := by intro ps z; cases z) : H' a = some o := e.fr' a o h n t
omit [TT] in
theorem Ext.no (e : Ext m H m' H') {a : Addr} {o : HO} (h : H a = some o) (n : a ∉ m) (t : ∀ ps, o ≠ .tbl ps := by intro ps z; cases z) : a ∉ m' := fun z => by
  obtain ⟨ps, e⟩ := e.nw' a o z n h
  exact t ps e
omit [TT] in
theorem Ext.mem (e : Ext m H m' H') {a : Addr} (h : a ∈ m) : a ∈ m' := by
  obtain ⟨r, rfl⟩ := e.pre
  exact List.mem_append_left _ h
omit [TT] in
theorem Ext.trans (a : Ext m H m' H') (b : Ext m' H' m2 H2) : Ext m H m2 H2 := by
  refine ⟨?_, fun x o h n t => b.fr' x o (a.fr' x o h n t) (a.no h n t) t, fun x o h n e => ?_⟩
  · obtain ⟨r, rfl⟩ := a.pre
    obtain ⟨q, rfl⟩ := b.pre
    exact ⟨r ++ q, List.append_assoc ..⟩
  · by_cases t : ∀ ps, o ≠ .tbl ps
    · exact b.nw' x o h (a.no e n t) (a.fr' x o e n t)
    · simpa using t
theorem Rel.find (R : Rel K m S H) {n : Nat} {a : Addr} (h : m[n]? = some a) : ∃ o, S[n]? = some o ∧ OR K H m a o := by
  have l := (List.getElem?_eq_some_iff.mp h).1
  have l2 : n < S.length := by rw [← R.len]; exact l
  exact ⟨S[n], List.getElem?_eq_getElem l2, R.ob n _ a (List.getElem?_eq_getElem l2) h⟩
theorem OR.some {a : Addr} {o : Ob} (h : OR K H m a o) : ∃ u, H a = some u ∧ Mut a u := by
  cases o with
  | lst vs => obtain ⟨xs, h, _⟩ := h; exact ⟨_, h, .inl ⟨xs, rfl⟩⟩
  | dic kvs => obtain ⟨xs, h, _⟩ := h; exact ⟨_, h, .inr (.inl ⟨xs, rfl⟩)⟩
  | set w f n => exact ⟨_, h, .inr (.inr (.inr ⟨w, f, n, rfl⟩))⟩
  | obj C fs => obtain ⟨dx, xs, h, _⟩ := h; exact ⟨_, h, .inr (.inr (.inl ⟨_, dx, xs, rfl⟩))⟩
theorem Rel.held (R : Rel K m S H) {a : Addr} (h : a ∈ m) : ∃ u, H a = some u ∧ Mut a u := by
  obtain ⟨n, hn⟩ := List.getElem?_of_mem h
  obtain ⟨o, _, q⟩ := R.find hn
  exact q.some
theorem Rel.off_ (R : Rel K m S H) {a : Addr} {u : HO} (h : H a = some u) (hu : ¬ Mut a u) : a ∉ m := fun z => by
  obtain ⟨u', e, hm⟩ := R.held z
  rw [h] at e
  cases e
  exact hu hm
theorem Rel.noTup (R : Rel K m S H) {a : Addr} {xs : List V} (h : H a = some (.tup xs)) : a ∉ m := R.off_ h fun z => z.ne.1 xs rfl
theorem Rel.noFrz (R : Rel K m S H) {a : Addr} {o : Obj} {u : HO} (h : H a = some (.frz o u)) : a ∉ m := R.off_ h fun z => z.ne.2.1 o u rfl
theorem Rel.noXd (R : Rel K m S H) {a : Addr} {fs : List (Str × V)} (h : H a = some (.xd fs)) : a ∉ m := R.off_ h fun z => z.ne.2.2.1 fs rfl
theorem Rel.noCod (R : Rel K m S H) {a : Addr} {q : Str} (h : H a = some (LamX.CodeO a q)) : a ∉ m := R.off_ h fun z => z.ne.2.2.2.1 q rfl
theorem Rel.noTbl (R : Rel K m S H) {a : Addr} {ps : Array Value} (h : H a = some (.tbl ps)) : a ∉ m := R.off_ h fun z => z.ne.2.2.2.2 ps rfl
theorem Rel.noNone (R : Rel K m S H) {a : Addr} (h : H a = none) : a ∉ m := fun z => by
  obtain ⟨u', e, _⟩ := R.held z
  rw [h] at e
  cases e

theorem Rel.kput (R : Rel K m S H) {a : Addr} {o : HO} (h : a ∈ m) : Kp m H m (upd H a o) := .at_ fun u e => by
  obtain ⟨u', e', hm⟩ := R.held h
  rw [e] at e'
  cases e'
  exact hm
theorem Ext.kp (R : Rel K m S H) (e : Ext m H m' H') : Kp m H m' H' := ⟨e.pre, fun a xs h => e.fr a _ h (R.noTup h), fun a o u h => e.fr a _ h (R.noFrz h), fun a xs h => e.fr a _ h (R.noXd h), fun a q h => e.fr' a _ h (R.noCod h) LamX.codeO_ne⟩
theorem OR.kp {a : Addr} {o : Ob} (h : OR K H m a o) (k : Kp m H m' H') (e : H' a = H a) : OR K H' m' a o := by
  cases o with
  | lst vs => obtain ⟨xs, h, r⟩ := h; exact ⟨xs, e.trans h, r.kp k⟩
  | dic kvs => obtain ⟨xs, h, q, r⟩ := h; exact ⟨xs, e.trans h, q, r.kp k⟩
  | set w f n => exact e.trans h
  | obj C fs => obtain ⟨dx, xs, h, q, r⟩ := h; exact ⟨dx, xs, e.trans h, q, r.kp k⟩

theorem tabs_kp {T : List LamT.TE} (h : LamT.Tabs T H) (k : Kp m H m' H') (t : ∀ P ps, H P = some (.tbl ps) → H' P = some (.tbl ps)) : LamT.Tabs T H' := fun p hp => by
  obtain ⟨ps, h1, h2, h3⟩ := h p hp
  refine ⟨ps, t _ _ h1, h2, fun pos cv l1 l2 hc => ?_⟩
  obtain ⟨c, e1, e2⟩ := h3 pos cv l1 l2 hc
  exact ⟨c, e1, k.cod _ _ e2⟩
theorem Rel.off (R : Rel K m S H) (k : Kp m H m H') (e : ∀ a ∈ m, H' a = H a) (t : ∀ P ps, H P = some (.tbl ps) → H' P = some (.tbl ps)) : Rel K m S H' :=
  ⟨R.len, R.nd, fun n o a h1 h2 => (R.ob n o a h1 h2).kp k (e a (List.mem_of_getElem? h2)), tabs_kp R.tb k t⟩
omit [TT] in
theorem tbl_at {a P : Addr} {o u : HO} {ps : Array Value} (h : H a = some u) (hu : ∀ ps, u ≠ .tbl ps) (e : H P = some (.tbl ps)) : upd H a o P = some (.tbl ps) := by
  rw [upd_ne fun z => ?_]
  · exact e
  · rw [z, h] at e
    cases e
    exact hu _ rfl
omit [TT] in
theorem Ext.off (e : ∀ a o, H a = some o → a ∉ m → H' a = some o) : Ext m H m H' := ⟨⟨[], (List.append_nil m).symm⟩, fun a o h n _ => e a o h n, fun _ _ h n => absurd h n⟩

theorem Rel.tmp (R : Rel K m S H) {p : Addr} {o : HO} (h : H p = none) : Rel K m S (upd H p o) ∧ Ext m H m (upd H p o) := by
  refine ⟨R.off (.new h) (fun a ha => upd_ne fun z => R.noNone h (z ▸ ha)) fun P ps e => by rw [upd_ne (ne_of_none e h)]; exact e, .off fun a o' e n => ?_⟩
  rw [upd_ne (ne_of_none e h)]
  exact e

theorem Rel.alloc (R : Rel K m S H) {p : Addr} {o : HO} {b : Ob} (h : H p = none) (hb : OR K (upd H p o) (m ++ [p]) p b) : Rel K (m ++ [p]) (S ++ [b]) (upd H p o) ∧ Ext m H (m ++ [p]) (upd H p o) := by
  have k : Kp m H (m ++ [p]) (upd H p o) := .grow [p] (.new h)
  have np := R.noNone h
  refine ⟨⟨by simp [R.len], ?_, fun n o' a h1 h2 => ?_, tabs_kp R.tb k fun P ps e => by rw [upd_ne (ne_of_none e h)]; exact e⟩, ⟨⟨[p], rfl⟩, fun a o' e n _ => ?_, fun a o' ha n e => ?_⟩⟩
  · rw [List.nodup_append]
    refine ⟨R.nd, by simp, fun a ha b hb z => ?_⟩
    simp only [List.mem_singleton] at hb
    exact np (hb ▸ z ▸ ha)
  · by_cases hn : n < S.length
    · rw [List.getElem?_append_left hn] at h1
      rw [List.getElem?_append_left (by rw [R.len]; exact hn)] at h2
      refine (R.ob n o' a h1 h2).kp k (upd_ne fun z => np (z ▸ List.mem_of_getElem? h2))
    · have e : n = S.length := by
        have := (List.getElem?_eq_some_iff.mp h1).1
        simp only [List.length_append, List.length_singleton] at this
        omega
      subst e
      rw [List.getElem?_concat_length] at h1
      rw [← R.len, List.getElem?_concat_length] at h2
      cases h1
      cases h2
      exact hb
  · rw [upd_ne (ne_of_none e h)]
    exact e
  · rcases List.mem_append.mp ha with q | q
    · exact absurd q n
    · simp only [List.mem_singleton] at q
      rw [q, h] at e
      cases e

theorem Rel.put (R : Rel K m S H) {n : Nat} {a : Addr} {o : HO} {b : Ob} (h : m[n]? = some a) (hb : OR K (upd H a o) m a b) : Rel K m (S.set n b) (upd H a o) ∧ Ext m H m (upd H a o) := by
  have ha := List.mem_of_getElem? h
  have k : Kp m H m (upd H a o) := R.kput ha
  refine ⟨⟨by simp [R.len], R.nd, fun n' o' a' h1 h2 => ?_, tabs_kp R.tb k fun P ps e => by rw [upd_ne (show P ≠ a from fun z => R.noTbl e (z ▸ ha))]; exact e⟩, .off fun x o' e nx => ?_⟩
  · by_cases z : n' = n
    · subst z
      rw [h] at h2
      cases h2
      have l := (List.getElem?_eq_some_iff.mp h1).1
      rw [List.length_set] at l
      rw [List.getElem?_set_self l] at h1
      cases h1
      exact hb
    · rw [List.getElem?_set_ne (Ne.symm z)] at h1
      refine (R.ob n' o' a' h1 h2).kp k (upd_ne fun q => z ?_)
      have l1 := (List.getElem?_eq_some_iff.mp h).1
      have l2 := (List.getElem?_eq_some_iff.mp h2).1
      rw [← q] at h
      exact (List.getElem?_inj l2 R.nd).mp (h2.trans h.symm)
  · rw [upd_ne (show x ≠ a from fun z => nx (z ▸ ha))]
    exact e
end
structure RhoR (K : PySem.W.Frag) (H : Hp) (m : List Addr) (ρ : Rho) (σ : L2.St) : Prop where
  len : ρ.length = σ.length
  at_ : ∀ (i : Nat) (v : Val), ρ[i]? = some (some v) → ∃ u, σ[i]? = some (some u) ∧ VR K H m u v
section
variable {K : PySem.W.Frag} {H H' : Hp} {m m' : List Addr} {ρ : Rho} {σ : L2.St}
theorem RhoR.kp (r : RhoR K H m ρ σ) (k : Kp m H m' H') : RhoR K H' m' ρ σ := ⟨r.len, fun i v h => let ⟨u, h1, h2⟩ := r.at_ i v h; ⟨u, h1, h2.kp k⟩⟩
theorem RhoR.set (r : RhoR K H m ρ σ) {u : V} {v : Val} (h : VR K H m u v) (i : Nat) : RhoR K H m (ρ.set i (some v)) (σ.set i (some u)) := by
  refine ⟨by simp [r.len], fun j w e => ?_⟩
  by_cases z : i = j
  · subst z
    have l := (List.getElem?_eq_some_iff.mp e).1
    rw [List.length_set] at l
    rw [List.getElem?_set_self l] at e
    cases e
    exact ⟨u, List.getElem?_set_self (by rw [← r.len]; exact l), h⟩
  · rw [List.getElem?_set_ne z] at e
    rw [List.getElem?_set_ne z]
    exact r.at_ j w e
theorem RhoR.unset (r : RhoR K H m ρ σ) (i : Nat) (o : Option V) : RhoR K H m (ρ.set i none) (σ.set i o) := by
  refine ⟨by simp [r.len], fun j w e => ?_⟩
  by_cases z : i = j
  · subst z
    have l := (List.getElem?_eq_some_iff.mp e).1
    rw [List.length_set] at l
    rw [List.getElem?_set_self l] at e
    cases e
  · rw [List.getElem?_set_ne z] at e
    rw [List.getElem?_set_ne z]
    exact r.at_ j w e
end
end AL
namespace AL
open PySem PySem.Spec PyProof.Rows L2 G
variable [TT]
abbrev EF := Rho → Sto → Option (Val × Sto)
abbrev BF := Rho → Sto → Option (Bool × Sto)
abbrev AF := Rho → Sto → Option (List Val × Sto)
def tF (K : PySem.W.Frag) (f : EF) : TE := fun σ H Q => ∃ m ρ S v S', Rel K m S H ∧ RhoR K H m ρ σ ∧ f ρ S = some (v, S') ∧ ∀ m' u H', Ext m H m' H' → Rel K m' S' H' → VR K H' m' u v → Q u H'
def tFb (K : PySem.W.Frag) (f : BF) : L2.TT := fun σ H Q => ∃ m ρ S b S', Rel K m S H ∧ RhoR K H m ρ σ ∧ f ρ S = some (b, S') ∧ ∀ m' H', Ext m H m' H' → Rel K m' S' H' → Q b H'
def tFa (K : PySem.W.Frag) (f : AF) : TA := fun σ H Q => ∃ m ρ S vs S', Rel K m S H ∧ RhoR K H m ρ σ ∧ f ρ S = some (vs, S') ∧ ∀ m' us H', Ext m H m' H' → Rel K m' S' H' → VRs K H' m' us vs → Q us H'
abbrev AE (X : Cx) (e : Expr) (f : EF) : Prop := PE X e (tF X.K f)
abbrev AT (X : Cx) (e : Expr) (f : BF) : Prop := PT X e (tFb X.K f)
abbrev AW (X : Cx) (e : Expr) (f : BF) : Prop := PW X e (tFb X.K f)
abbrev AA (X : Cx) (es : List Expr) (f : AF) : Prop := PA X es (tFa X.K f)
section
variable {X : Cx} {e a b c : Expr} {es : List Expr} {pos : Pos} {f fa fb fc : EF} {K : PySem.W.Frag}
theorem pe_w {t t' : TE} (h : PE X e t) (hi : ∀ σ H Q, t' σ H Q → t σ H Q) : PE X e t' := ⟨fun pins s σ H Q I hq => h.run pins s σ H Q I (hi σ H Q hq)⟩
theorem pt_w {t t' : L2.TT} (h : PT X e t) (hi : ∀ σ H Q, t' σ H Q → t σ H Q) : PT X e t' := ⟨fun pins s σ H Q I hq => h.run pins s σ H Q I (hi σ H Q hq)⟩
theorem pw_w {t t' : L2.TT} (h : PW X e t) (hi : ∀ σ H Q, t' σ H Q → t σ H Q) : PW X e t' := ⟨fun w pins s σ H Q I hq => h.run w pins s σ H Q I (hi σ H Q hq)⟩
theorem pa_w {t t' : TA} (h : PA X es t) (hi : ∀ σ H Q, t' σ H Q → t σ H Q) : PA X es t' := ⟨fun p pins s σ H Q I hq => h.run p pins s σ H Q I (hi σ H Q hq)⟩
def eV (i : Nat) : EF := fun ρ S => match ρ[i]? with
  | some (some v) => some (v, S)
  | _ => none
def eC (v : Val) : EF := fun _ S => some (v, S)
theorem av (i : Nat) {x : Str} (hN : X.N[i]? = some x := by rfl) (hv : Vis X.env.scope x := by first | exact Or.inl rfl | exact Or.inr (Or.inl rfl) | exact Or.inr (Or.inr rfl)) (hd : (x == ("__debug__" : Str)) = false := by decide)
    (hcd : (x == ("__classdict__" : Str)) = false := by decide) : AE X (.Name x pos) (eV i) := by
  refine pe_w (pe_var hN hv hd hcd) fun σ H Q h => ?_
  obtain ⟨m, ρ, S, v, S', R, r, e, q⟩ := h
  unfold eV at e
  split at e
  · next w hw =>
    cases e
    obtain ⟨u, h1, h2⟩ := r.at_ i _ hw
    exact ⟨u, h1, q m u H (.refl _ _) R h2⟩
  · cases e
theorem ac {u : V} {v : Val} (h : PE X e (tC u)) (hv : ∀ H m, VR X.K H m u v) : AE X e (eC v) := by
  refine pe_w h fun σ H Q h => ?_
  obtain ⟨m, ρ, S, w, S', R, r, e, q⟩ := h
  cases e
  exact q m u H (.refl _ _) R (hv H m)
theorem ai {i : Int} {j : Nat} : AE X (.Constant (.int i) j pos) (eC (.int i)) := ac pe_int fun _ _ => .int i
theorem abl {i : Bool} {j : Nat} : AE X (.Constant (.bool i) j pos) (eC (.bl i)) := ac pe_bl fun _ _ => .bl i
theorem an {j : Nat} : AE X (.Constant .none j pos) (eC .non) := ac pe_non fun _ _ => .non
theorem astr {x : Str} {j : Nat} : AE X (.Constant (.str x) j pos) (eC (.str x)) := ac pe_str fun _ _ => .str x
def eB (g : Val → Val → Sto → Option (Val × Sto)) (fa fb : EF) : EF := fun ρ S => (fa ρ S).bind fun p => (fb ρ p.2).bind fun q => g p.1 q.1 q.2
def OpA (K : PySem.W.Frag) (r : R2) (g : Val → Val → Sto → Option (Val × Sto)) : Prop := ∀ m S H x y v S' u w Q, Rel K m S H → VR K H m u x → VR K H m w y → g x y S = some (v, S') →
  (∀ m' z H', Ext m H m' H' → Rel K m' S' H' → VR K H' m' z v → Q z H') → r u w H Q
theorem eB_ok {r : R2} {g : Val → Val → Sto → Option (Val × Sto)} (hg : OpA K r g) {σ : L2.St} {H : Hp} {Q : VK} (h : tF K (eB g fa fb) σ H Q) : tOp r (tF K fa) (tF K fb) σ H Q := by
  obtain ⟨m, ρ, S, v, S', R, r, e, q⟩ := h
  obtain ⟨⟨x, S1⟩, e1, e⟩ := Option.bind_eq_some_iff.mp e
  obtain ⟨⟨y, S2⟩, e2, e⟩ := Option.bind_eq_some_iff.mp e
  refine ⟨m, ρ, S, x, S1, R, r, e1, fun m1 u H1 E1 R1 r1 => ⟨m1, ρ, S1, y, S2, R1, r.kp (E1.kp R), e2, fun m2 w H2 E2 R2 r2 => ?_⟩⟩
  exact hg m2 S2 H2 x y v S' u w Q R2 (r1.kp (E2.kp R1)) r2 e fun m3 z H3 E3 R3 r3 => q m3 z H3 ((E1.trans E2).trans E3) R3 r3
theorem aop {op : Operator} {r : R2} {g : Val → Val → Sto → Option (Val × Sto)} (ho : OpR X (binaryOp op) r) (hg : OpA X.K r g) (ha : AE X a fa) (hb : AE X b fb) : AE X (.BinOp a op b pos) (eB g fa fb) := pe_w (pe_op ho ha hb) fun _ _ _ h => eB_ok hg h
theorem acm {op : CmpOp} {r : R2} {g : Val → Val → Sto → Option (Val × Sto)} (ho : OpR X (compareOp op) r) (hg : OpA X.K r g) (ha : AE X a fa) (hb : AE X b fb) (hm : behindInMarks op b = false) : AE X (.Compare a [op] [b] pos) (eB g fa fb) := pe_w (pe_cmpR ho ha hb hm) fun _ _ _ h => eB_ok hg h
def eT (f : EF) : BF := fun ρ S => (f ρ S).bind fun p => match p.1 with
  | .bl b => some (b, p.2)
  | _ => none
theorem eT_ok {σ : L2.St} {H : Hp} {Q : Bool → Hp → Prop} (h : tFb K (eT f) σ H Q) : tF K f σ H fun x H' => ∃ k, x = .bl k ∧ Q k H' := by
  obtain ⟨m, ρ, S, v, S', R, r, e, q⟩ := h
  obtain ⟨⟨x, S1⟩, e1, e⟩ := Option.bind_eq_some_iff.mp e
  refine ⟨m, ρ, S, x, S1, R, r, e1, fun m1 u H1 E1 R1 r1 => ?_⟩
  cases x <;> try cases e
  cases r1
  exact ⟨_, rfl, q m1 H1 E1 R1⟩
theorem atc {op : CmpOp} {r : R2} {g : Val → Val → Sto → Option (Val × Sto)} (ho : OpR X (compareOp op) r) (hg : OpA X.K r g) (ha : AE X a fa) (hb : AE X b fb) (hm : behindInMarks op b = false) : AT X (.Compare a [op] [b] pos) (eT (eB g fa fb)) := pt_w (pt_cmpR ho ha hb hm) fun _ _ _ h => eB_ok hg (eT_ok h)
theorem atv (ha : AE X e f) (he : ∀ whole, isTrue e X.env whole = (do let v ← whole; standAt e.pos; holding [v] (truthy v)) := by intro _; rfl) : AT X e (eT f) := pt_w (pt_val ha he) fun _ _ _ h => eT_ok h
def bAnd (f g : BF) : BF := fun ρ S => (f ρ S).bind fun p => if p.1 then g ρ p.2 else some (false, p.2)
def bOr (f g : BF) : BF := fun ρ S => (f ρ S).bind fun p => if p.1 then some (true, p.2) else g ρ p.2
def bNot (f : BF) : BF := fun ρ S => (f ρ S).bind fun p => some (!p.1, p.2)
variable {g1 g2 : BF} {rest : List Expr}
theorem aw1 (h : AT X a g1) : AW X (.BoolOp .And [a] pos) g1 := pw_and1 h
theorem awo1 (h : AT X a g1) : AW X (.BoolOp .Or [a] pos) g1 := pw_or1 h
theorem aw (h : AT X a g1) (h2 : AW X (.BoolOp .And (b :: rest) pos) g2) : AW X (.BoolOp .And (a :: b :: rest) pos) (bAnd g1 g2) := by
  refine pw_w (pw_and h h2) fun σ H Q h => ?_
  obtain ⟨m, ρ, S, v, S', R, r, e, q⟩ := h
  obtain ⟨⟨x, S1⟩, e1, e⟩ := Option.bind_eq_some_iff.mp e
  refine ⟨m, ρ, S, x, S1, R, r, e1, fun m1 H1 E1 R1 => ?_⟩
  cases x with
  | true => exact ⟨m1, ρ, S1, v, S', R1, r.kp (E1.kp R), e, fun m2 H2 E2 R2 => q m2 H2 (E1.trans E2) R2⟩
  | false =>
    cases e
    exact q m1 H1 E1 R1
theorem awo (h : AT X a g1) (h2 : AW X (.BoolOp .Or (b :: rest) pos) g2) : AW X (.BoolOp .Or (a :: b :: rest) pos) (bOr g1 g2) := by
  refine pw_w (pw_or h h2) fun σ H Q h => ?_
  obtain ⟨m, ρ, S, v, S', R, r, e, q⟩ := h
  obtain ⟨⟨x, S1⟩, e1, e⟩ := Option.bind_eq_some_iff.mp e
  refine ⟨m, ρ, S, x, S1, R, r, e1, fun m1 H1 E1 R1 => ?_⟩
  cases x with
  | true =>
    cases e
    exact q m1 H1 E1 R1
  | false => exact ⟨m1, ρ, S1, v, S', R1, r.kp (E1.kp R), e, fun m2 H2 E2 R2 => q m2 H2 (E1.trans E2) R2⟩
theorem atw (h : AW X e g1) : AT X e g1 := PW.pt h
theorem atn (h : AT X a g1) : AT X (.UnaryOp .Not a pos) (bNot g1) := by
  refine pt_w (pt_not h) fun σ H Q h => ?_
  obtain ⟨m, ρ, S, v, S', R, r, e, q⟩ := h
  obtain ⟨⟨x, S1⟩, e1, e⟩ := Option.bind_eq_some_iff.mp e
  cases e
  exact ⟨m, ρ, S, x, _, R, r, e1, q⟩

def eAnd (f g : EF) : EF := fun ρ S => (f ρ S).bind fun p => match p.1 with
  | .bl true => g ρ p.2
  | .bl false => some (.bl false, p.2)
  | _ => none
def eOr (f g : EF) : EF := fun ρ S => (f ρ S).bind fun p => match p.1 with
  | .bl true => some (.bl true, p.2)
  | .bl false => g ρ p.2
  | _ => none
def eNot (f : EF) : EF := fun ρ S => (f ρ S).bind fun p => match p.1 with
  | .bl b => some (.bl (!b), p.2)
  | _ => none
theorem ae1 {op : BoolOp} (h : AE X a f) : AE X (.BoolOp op [a] pos) f := pe_one h
theorem aand (h : AE X a fa) (h2 : AE X (.BoolOp .And (b :: rest) pos) fb) : AE X (.BoolOp .And (a :: b :: rest) pos) (eAnd fa fb) := by
  refine pe_w (pe_and h h2) fun σ H Q h => ?_
  obtain ⟨m, ρ, S, v, S', R, r, e, q⟩ := h
  obtain ⟨⟨x, S1⟩, e1, e⟩ := Option.bind_eq_some_iff.mp e
  refine ⟨m, ρ, S, x, S1, R, r, e1, fun m1 u H1 E1 R1 r1 => ?_⟩
  cases x <;> try cases e
  rename_i k
  cases r1
  refine ⟨k, rfl, ?_⟩
  cases k with
  | true => exact ⟨m1, ρ, S1, v, S', R1, r.kp (E1.kp R), e, fun m2 u H2 E2 R2 r2 => q m2 u H2 (E1.trans E2) R2 r2⟩
  | false =>
    cases e
    exact q m1 _ H1 E1 R1 (.bl _)
theorem aor (h : AE X a fa) (h2 : AE X (.BoolOp .Or (b :: rest) pos) fb) : AE X (.BoolOp .Or (a :: b :: rest) pos) (eOr fa fb) := by
  refine pe_w (pe_or h h2) fun σ H Q h => ?_
  obtain ⟨m, ρ, S, v, S', R, r, e, q⟩ := h
  obtain ⟨⟨x, S1⟩, e1, e⟩ := Option.bind_eq_some_iff.mp e
  refine ⟨m, ρ, S, x, S1, R, r, e1, fun m1 u H1 E1 R1 r1 => ?_⟩
  cases x <;> try cases e
  rename_i k
  cases r1
  refine ⟨k, rfl, ?_⟩
  cases k with
  | true =>
    cases e
    exact q m1 _ H1 E1 R1 (.bl _)
  | false => exact ⟨m1, ρ, S1, v, S', R1, r.kp (E1.kp R), e, fun m2 u H2 E2 R2 r2 => q m2 u H2 (E1.trans E2) R2 r2⟩
theorem anot (h : AE X a fa) : AE X (.UnaryOp .Not a pos) (eNot fa) := by
  refine pe_w (pe_not h) fun σ H Q h => ?_
  obtain ⟨m, ρ, S, v, S', R, r, e, q⟩ := h
  obtain ⟨⟨x, S1⟩, e1, e⟩ := Option.bind_eq_some_iff.mp e
  refine ⟨m, ρ, S, x, S1, R, r, e1, fun m1 u H1 E1 R1 r1 => ?_⟩
  cases x <;> cases e
  rename_i k
  cases r1
  exact ⟨k, rfl, q m1 _ H1 E1 R1 (.bl _)⟩
def eIf (t : BF) (fa fb : EF) : EF := fun ρ S => (t ρ S).bind fun p => if p.1 then fa ρ p.2 else fb ρ p.2
theorem aif (hc : AT X c g1) (ha : AE X a fa) (hb : AE X b fb) : AE X (.IfExp c a b pos) (eIf g1 fa fb) := by
  refine pe_w (pe_ifExp hc ha hb) fun σ H Q h => ?_
  obtain ⟨m, ρ, S, v, S', R, r, e, q⟩ := h
  obtain ⟨⟨x, S1⟩, e1, e⟩ := Option.bind_eq_some_iff.mp e
  refine ⟨m, ρ, S, x, S1, R, r, e1, fun m1 H1 E1 R1 => ?_⟩
  cases x with
  | true => exact ⟨m1, ρ, S1, v, S', R1, r.kp (E1.kp R), e, fun m2 u H2 E2 R2 r2 => q m2 u H2 (E1.trans E2) R2 r2⟩
  | false => exact ⟨m1, ρ, S1, v, S', R1, r.kp (E1.kp R), e, fun m2 u H2 E2 R2 r2 => q m2 u H2 (E1.trans E2) R2 r2⟩

def eCh (g g' : Val → Val → Sto → Option (Val × Sto)) (fa fb fc : EF) : EF := fun ρ S => (fa ρ S).bind fun p => (fb ρ p.2).bind fun q => (g p.1 q.1 q.2).bind fun z => match z.1 with
  | .bl true => (fc ρ z.2).bind fun w => g' q.1 w.1 w.2
  | .bl false => some (.bl false, z.2)
  | _ => none
theorem eCh_ok {r r' : R2} {g g' : Val → Val → Sto → Option (Val × Sto)} (hg : OpA K r g) (hg' : OpA K r' g') {σ : L2.St} {H : Hp} {Q : VK} (h : tF K (eCh g g' fa fb fc) σ H Q) : tChain r r' (tF K fa) (tF K fb) (tF K fc) σ H Q := by
  obtain ⟨m, ρ, S, v, S', R, r, e, q⟩ := h
  obtain ⟨⟨x, S1⟩, e1, e⟩ := Option.bind_eq_some_iff.mp e
  obtain ⟨⟨y, S2⟩, e2, e⟩ := Option.bind_eq_some_iff.mp e
  obtain ⟨⟨z, S3⟩, e3, e⟩ := Option.bind_eq_some_iff.mp e
  refine ⟨m, ρ, S, x, S1, R, r, e1, fun m1 u H1 E1 R1 r1 => ⟨m1, ρ, S1, y, S2, R1, r.kp (E1.kp R), e2, fun m2 w H2 E2 R2 r2 => ?_⟩⟩
  refine hg m2 S2 H2 x y z S3 u w _ R2 (r1.kp (E2.kp R1)) r2 e3 fun m3 z' H3 E3 R3 r3 => ?_
  cases z <;> try cases e
  rename_i k
  cases r3
  refine ⟨k, rfl, ?_⟩
  cases k with
  | false =>
    cases e
    exact q m3 _ H3 ((E1.trans E2).trans E3) R3 (.bl _)
  | true =>
    obtain ⟨⟨w', S4⟩, e4, e⟩ := Option.bind_eq_some_iff.mp e
    refine ⟨m3, ρ, S3, w', S4, R3, r.kp (((E1.trans E2).trans E3).kp R), e4, fun m4 w4 H4 E4 R4 r4 => ?_⟩
    exact hg' m4 S4 H4 y w' v S' w w4 Q R4 (r2.kp ((E3.trans E4).kp R2)) r4 e fun m5 z5 H5 E5 R5 r5 => q m5 z5 H5 ((((E1.trans E2).trans E3).trans E4).trans E5) R5 r5
theorem ach {op op' : CmpOp} {r r' : R2} {g g' : Val → Val → Sto → Option (Val × Sto)} (ho : OpR X (compareOp op) r) (hg : OpA X.K r g) (ho' : OpR X (compareOp op') r') (hg' : OpA X.K r' g') (ha : AE X a fa) (hb : AE X b fb) (hc : AE X c fc)
    (hm : lastMarks [op, op'] [b, c] = false := by with_unfolding_all rfl) : AE X (.Compare a [op, op'] [b, c] pos) (eCh g g' fa fb fc) := pe_w (pe_chain ho ho' ha hb hc hm) fun _ _ _ h => eCh_ok hg hg' h
theorem atch {op op' : CmpOp} {r r' : R2} {g g' : Val → Val → Sto → Option (Val × Sto)} (ho : OpR X (compareOp op) r) (hg : OpA X.K r g) (ho' : OpR X (compareOp op') r') (hg' : OpA X.K r' g') (ha : AE X a fa) (hb : AE X b fb) (hc : AE X c fc)
    (hm : lastMarks [op, op'] [b, c] = false := by with_unfolding_all rfl) : AT X (.Compare a [op, op'] [b, c] pos) (eT (eCh g g' fa fb fc)) := pt_w (pt_chain ho ho' ha hb hc hm) fun _ _ _ h => eCh_ok hg hg' (eT_ok h)
def aNil : AF := fun _ S => some ([], S)
def aCons (f : EF) (g : AF) : AF := fun ρ S => (f ρ S).bind fun p => (g ρ p.2).bind fun q => some (p.1 :: q.1, q.2)
variable {ga : AF}
theorem aan : AA X [] aNil := by
  refine pa_w pa_nil fun σ H Q h => ?_
  obtain ⟨m, ρ, S, v, S', R, r, e, q⟩ := h
  cases e
  exact q m [] H (.refl _ _) R .nil
theorem aac (ha : AE X e f) (hr : AA X es ga) (hs : starEach (e :: es) X.env = (false, eval e X.env) :: starEach es X.env := by rfl) : AA X (e :: es) (aCons f ga) := by
  refine pa_w (pa_cons ha hr hs) fun σ H Q h => ?_
  obtain ⟨m, ρ, S, v, S', R, r, e, q⟩ := h
  obtain ⟨⟨x, S1⟩, e1, e⟩ := Option.bind_eq_some_iff.mp e
  obtain ⟨⟨y, S2⟩, e2, e⟩ := Option.bind_eq_some_iff.mp e
  cases e
  exact ⟨m, ρ, S, x, S1, R, r, e1, fun m1 u H1 E1 R1 r1 => ⟨m1, ρ, S1, y, S2, R1, r.kp (E1.kp R), e2, fun m2 w H2 E2 R2 r2 => q m2 _ H2 (E1.trans E2) R2 (.cons (r1.kp (E2.kp R1)) r2)⟩⟩
def eTup (g : AF) : EF := fun ρ S => (g ρ S).bind fun p => if p.1.length ≤ 1000000 then some (.tup p.1, p.2) else none
def eLst (g : AF) : EF := fun ρ S => (g ρ S).bind fun p => if p.1.length ≤ 1000000 then some (.ref p.2.length, p.2 ++ [.lst p.1]) else none
theorem mill {n : Nat} (h : n ≤ 1000000) : n ≤ sizeLine := Nat.le_trans h (by decide)
theorem atup {k : Nat} (h : AA X es ga) : AE X (.Tuple es k pos) (eTup ga) := by
  refine pe_w (pe_tup h) fun σ H Q h => ?_
  obtain ⟨m, ρ, S, v, S', R, r, e, q⟩ := h
  obtain ⟨⟨x, S1⟩, e1, e⟩ := Option.bind_eq_some_iff.mp e
  refine ⟨m, ρ, S, x, S1, R, r, e1, fun m1 us H1 E1 R1 r1 => ?_⟩
  dsimp only at e
  split at e
  · next hl =>
    cases e
    refine ⟨by rw [r1.len]; exact mill hl, fun p hp => ?_⟩
    obtain ⟨R2, E2⟩ := R1.tmp (o := .tup us) hp
    exact q m1 _ _ (E1.trans E2) R2 (.tup (.inl upd_same) (r1.kp (E2.kp R1)))
  · cases e
theorem alst (h : AA X es ga) : AE X (.List es pos) (eLst ga) := by
  refine pe_w (pe_lst h) fun σ H Q h => ?_
  obtain ⟨m, ρ, S, v, S', R, r, e, q⟩ := h
  obtain ⟨⟨x, S1⟩, e1, e⟩ := Option.bind_eq_some_iff.mp e
  refine ⟨m, ρ, S, x, S1, R, r, e1, fun m1 us H1 E1 R1 r1 => ?_⟩
  dsimp only at e
  split at e
  · next hl =>
    cases e
    refine ⟨by rw [r1.len]; exact mill hl, fun p hp => ?_⟩
    have k1 : Kp m1 H1 (m1 ++ [p]) (upd H1 p (.lst us)) := .grow [p] (.new hp)
    obtain ⟨R2, E2⟩ := R1.alloc (o := .lst us) (b := .lst x) hp ⟨us, upd_same, r1.kp k1⟩
    refine q _ _ _ (E1.trans E2) R2 (.ref ?_)
    rw [← R1.len, List.getElem?_concat_length]
  · cases e
def eCall (g : List Val → Sto → Option (Val × Sto)) (ga : AF) : EF := fun ρ S => (ga ρ S).bind fun p => g p.1 p.2
def CaA (K : PySem.W.Frag) (r : List V → Hp → VK → Prop) (g : List Val → Sto → Option (Val × Sto)) : Prop := ∀ m S H xs v S' us Q, Rel K m S H → VRs K H m us xs → g xs S = some (v, S') →
  (∀ m' z H', Ext m H m' H' → Rel K m' S' H' → VR K H' m' z v → Q z H') → r us H Q
theorem eCall_ok {r : List V → Hp → VK → Prop} {g : List Val → Sto → Option (Val × Sto)} (hg : CaA K r g) {σ : L2.St} {H : Hp} {Q : VK} (h : tF K (eCall g ga) σ H Q) : tFa K ga σ H fun us H1 => r us H1 Q := by
  obtain ⟨m, ρ, S, v, S', R, r, e, q⟩ := h
  obtain ⟨⟨x, S1⟩, e1, e⟩ := Option.bind_eq_some_iff.mp e
  exact ⟨m, ρ, S, x, S1, R, r, e1, fun m1 us H1 E1 R1 r1 => hg m1 S1 H1 x v S' us Q R1 r1 e fun m2 z H2 E2 R2 r2 => q m2 z H2 (E1.trans E2) R2 r2⟩
theorem CallR.or {f : Value} {r r' : List V → Hp → VK → Prop} (h : CallR X f r) (h' : CallR X f r') : CallR X f (fun xs H Q => r xs H Q ∨ r' xs H Q) := by
  intro pins s σ H xs us Q I rs q
  rcases q with q | q
  · exact h pins s σ H xs us Q I rs q
  · exact h' pins s σ H xs us Q I rs q
theorem acb {id : String} {x : Str} {p : Pos} {r : List V → Hp → VK → Prop} {g : List Val → Sto → Option (Val × Sto)} (hc : CallR X (.builtin id) r) (hgg : CaA X.K r g) (hg : Gl X x) (hm : X.mg x = none) (hv : bootBuiltins x = some (.builtin id)) (ha : AA X (e :: es) ga) (hn : x ≠ "__name__" := by decide) (hdb : (x == ("__debug__" : Str)) = false := by decide)
    (he : starEach (e :: es) X.env = (false, eval e X.env) :: starEach es X.env := by rfl) (hpl : (backTo pos (starEach es X.env)).any (·.1) = false := by rfl) : AE X (.Call (.Name x p) (e :: es) [] pos) (eCall g ga) :=
  pe_w (pe_callB hc hg hm hv ha hn hdb he hpl) fun _ _ _ h => eCall_ok hgg h
theorem act {T : String} {x : Str} {p : Pos} {r : List V → Hp → VK → Prop} {g : List Val → Sto → Option (Val × Sto)} (hc : CallR X (.type T) r) (hgg : CaA X.K r g) (hg : Gl X x) (hm : X.mg x = none) (hv : bootBuiltins x = some (.type T)) (ha : AA X (e :: es) ga) (hn : x ≠ "__name__" := by decide) (hdb : (x == ("__debug__" : Str)) = false := by decide)
    (he : starEach (e :: es) X.env = (false, eval e X.env) :: starEach es X.env := by rfl) (hpl : (backTo pos (starEach es X.env)).any (·.1) = false := by rfl) : AE X (.Call (.Name x p) (e :: es) [] pos) (eCall g ga) :=
  pe_w (pe_callTy hc hg hm hv ha hn hdb he hpl) fun _ _ _ h => eCall_ok hgg h
abbrev FA := List Val → Sto → Option (Val × Sto)
def spA (K : PySem.W.Frag) (n : Nat) (F : FA) : Sp := fun us H Q _ => us.length = n ∧ ∃ m S vs v S', Rel K m S H ∧ VRs K H m us vs ∧ F vs S = some (v, S') ∧ ∀ m' z H', Ext m H m' H' → Rel K m' S' H' → VR K H' m' z v → Q z H'

structure Def (P : Program) (w : World) (K : PySem.W.Frag) (mg : Str → Option Value) (base : Heap) (k : Nat) (x : Str) (ps : List Str) (F : FA) : Prop where
  ex : ∃ f fd, FnG P w K mg base k f fd ps (spA K ps.length F) ∧ Binds K fd ps [] ∧ mg x = some (.ref f) ∧ PySem.W.keepIn K (.ref f) = true
def eDef (F : FA) (n : Nat) (ga : AF) : EF := fun ρ S => (ga ρ S).bind fun p => if p.1.length = n then F p.1 p.2 else none
theorem acd {k : Nat} {x : Str} {ps : List Str} {F : FA} {p : Pos} (D : Def X.prog X.w X.K X.mg X.base k x ps F) (g : X.A.guards = some []) (hr : Room k X.A) (hgl : Gl X x) (ha : AA X (e :: es) ga) (hdb : (x == ("__debug__" : Str)) = false := by decide)
    (he : starEach (e :: es) X.env = (false, eval e X.env) :: starEach es X.env := by rfl) (hpl : (backTo pos (starEach es X.env)).any (·.1) = false := by rfl) {n : Nat} (hn : ps.length = n := by rfl) : AE X (.Call (.Name x p) (e :: es) [] pos) (eDef F n ga) := by
  subst hn
  obtain ⟨f, fd, hF, hb, hm, hk⟩ := D.ex
  refine pe_w (pe_callG hF g hr hgl hm hk hb ha hdb he hpl) fun σ H Q h => ?_
  obtain ⟨m, ρ, S, v, S', R, r, e, q⟩ := h
  obtain ⟨⟨x, S1⟩, e1, e⟩ := Option.bind_eq_some_iff.mp e
  dsimp only at e
  split at e
  · next hl => exact ⟨m, ρ, S, x, S1, R, r, e1, fun m1 us H1 E1 R1 r1 => ⟨by rw [r1.len]; exact hl, m1, S1, x, v, S', R1, r1, e, fun m2 z H2 E2 R2 r2 => q m2 z H2 (E1.trans E2) R2 r2⟩⟩
  · cases e
def eMt (ok : Val → Sto → Bool) (g : Val → List Val → Sto → Option (Val × Sto)) (fo : EF) (ga : AF) : EF := fun ρ S => (fo ρ S).bind fun p => if ok p.1 p.2 then (ga ρ p.2).bind fun q => g p.1 q.1 q.2 else none
def MtA (K : PySem.W.Frag) (r : V → List V → Hp → VK → Prop) (g : Val → List Val → Sto → Option (Val × Sto)) : Prop := ∀ m S H x xs v S' u us Q, Rel K m S H → VR K H m u x → VRs K H m us xs → g x xs S = some (v, S') →
  (∀ m' z H', Ext m H m' H' → Rel K m' S' H' → VR K H' m' z v → Q z H') → r u us H Q
def TyA (K : PySem.W.Frag) (T : String) (ok : Val → Sto → Bool) : Prop := ∀ m S H u v, Rel K m S H → VR K H m u v → ok v S = true → tyV K T u H
theorem am {o : Expr} {fo : EF} {name : Str} {apos cpos : Pos} {T id : String} {r : V → List V → Hp → VK → Prop} {g : Val → List Val → Sto → Option (Val × Sto)} {ok : Val → Sto → Bool} (pa : PlainAttrs T) (slot : Slot T name id) (hty : typeOf (.builtin id) = pure (.type "method_descriptor")) (hm : MtR X id r) (hg : MtA X.K r g) (ht : TyA X.K T ok) (ho : AE X o fo) (ha : AA X (e :: es) ga)
    (hbase : attributeBase o name X.env (eval o X.env) = eval o X.env := by rfl)
    (hfew : ((backTo cpos (starEach (e :: es) X.env)).all (fun x => !x.1) && (backToKw cpos (keywordEach [] X.env)).all (fun x => x.1.isSome)
      && decide ((e :: es).length + ([] : List Keyword).length + (if ([] : List Keyword).isEmpty then 0 else 1) < 30)) = true := by rfl)
    (hline : (apos.endLine == cpos.line) = true := by rfl) (hs : starEach (e :: es) X.env = (false, eval e X.env) :: starEach es X.env := by rfl) (hplain : (backTo cpos (starEach es X.env)).any (·.1) = false := by rfl) :
    AE X (.Call (.Attribute o name apos) (e :: es) [] cpos) (eMt ok g fo ga) := by
  refine pe_w (pe_bm pa slot hty hm ho ha hbase hfew hline hs hplain) fun σ H Q h => ?_
  obtain ⟨m, ρ, S, v, S', R, r, e, q⟩ := h
  obtain ⟨⟨x, S1⟩, e1, e⟩ := Option.bind_eq_some_iff.mp e
  dsimp only at e
  split at e
  · next hl =>
    obtain ⟨⟨y, S2⟩, e2, e⟩ := Option.bind_eq_some_iff.mp e
    refine ⟨m, ρ, S, x, S1, R, r, e1, fun m1 u H1 E1 R1 r1 => ⟨ht m1 S1 H1 u x R1 r1 hl, m1, ρ, S1, y, S2, R1, r.kp (E1.kp R), e2, fun m2 us H2 E2 R2 r2 => ?_⟩⟩
    exact hg m2 S2 H2 x y v S' u us Q R2 (r1.kp (E2.kp R1)) r2 e fun m3 z H3 E3 R3 r3 => q m3 z H3 ((E1.trans E2).trans E3) R3 r3
  · cases e
def eMt0 (ok : Val → Sto → Bool) (g : Val → List Val → Sto → Option (Val × Sto)) (fo : EF) : EF := fun ρ S => (fo ρ S).bind fun p => if ok p.1 p.2 then g p.1 [] p.2 else none

def eU (g : Val → Sto → Option (Val × Sto)) (fa : EF) : EF := fun ρ S => (fa ρ S).bind fun p => g p.1 p.2
def UnA (K : PySem.W.Frag) (r : V → Hp → VK → Prop) (g : Val → Sto → Option (Val × Sto)) : Prop := ∀ m S H x v S' u Q, Rel K m S H → VR K H m u x → g x S = some (v, S') → (∀ m' z H', Ext m H m' H' → Rel K m' S' H' → VR K H' m' z v → Q z H') → r u H Q
theorem aun {op : UnaryOp} {r : V → Hp → VK → Prop} {g : Val → Sto → Option (Val × Sto)} (ho : UnR X (unaryOp op) r) (hg : UnA X.K r g) (ha : AE X a fa) : AE X (.UnaryOp op a pos) (eU g fa) := by
  refine pe_w (pe_un ho ha) fun σ H Q h => ?_
  obtain ⟨m, ρ, S, v, S', R, r, e, q⟩ := h
  obtain ⟨⟨x, S1⟩, e1, e⟩ := Option.bind_eq_some_iff.mp e
  exact ⟨m, ρ, S, x, S1, R, r, e1, fun m1 u H1 E1 R1 r1 => hg m1 S1 H1 x v S' u Q R1 r1 e fun m2 z H2 E2 R2 r2 => q m2 z H2 (E1.trans E2) R2 r2⟩

abbrev OF := Rho → Sto → Option (Option Int × Sto)
def oN : OF := fun _ S => some (none, S)
def oS (f : EF) : OF := fun ρ S => (f ρ S).bind fun p => match p.1 with
  | .int i => some (some i, p.2)
  | _ => none
def tFo (K : PySem.W.Frag) (f : OF) : TO := fun σ H Q => ∃ m ρ S o S', Rel K m S H ∧ RhoR K H m ρ σ ∧ f ρ S = some (o, S') ∧ ∀ m' H', Ext m H m' H' → Rel K m' S' H' → Q o H'
theorem po_w {o : Option Expr} {t t' : TO} (h : PO X o t) (hi : ∀ σ H Q, t' σ H Q → t σ H Q) : PO X o t' := ⟨fun pins s σ H Q I hq => h.run pins s σ H Q I (hi σ H Q hq)⟩
theorem aon : PO X none (tFo X.K oN) := po_w po_none fun σ H Q h => by
  obtain ⟨m, ρ, S, v, S', R, r, e, q⟩ := h
  cases e
  exact q m H (.refl _ _) R
theorem aos (ha : AE X e f) : PO X (some e) (tFo X.K (oS f)) := po_w (po_some ha) fun σ H Q h => by
  obtain ⟨m, ρ, S, v, S', R, r, e, q⟩ := h
  obtain ⟨⟨x, S1⟩, e1, e⟩ := Option.bind_eq_some_iff.mp e
  refine ⟨m, ρ, S, x, S1, R, r, e1, fun m1 u H1 E1 R1 r1 => ?_⟩
  cases x <;> cases e
  cases r1
  exact ⟨_, rfl, q m1 H1 E1 R1⟩
def eSl (g : Val → Option Int → Option Int → Sto → Option (Val × Sto)) (fa : EF) (lo hi : OF) : EF := fun ρ S => (fa ρ S).bind fun p => (lo ρ p.2).bind fun q => (hi ρ q.2).bind fun z => g p.1 q.1 z.1 z.2
def SlA (K : PySem.W.Frag) (r : V → Option Int → Option Int → Hp → VK → Prop) (g : Val → Option Int → Option Int → Sto → Option (Val × Sto)) : Prop := ∀ m S H x lo hi v S' u Q, Rel K m S H → VR K H m u x → g x lo hi S = some (v, S') →
  (∀ m' z H', Ext m H m' H' → Rel K m' S' H' → VR K H' m' z v → Q z H') → r u lo hi H Q
theorem asl {r : V → Option Int → Option Int → Hp → VK → Prop} {g : Val → Option Int → Option Int → Sto → Option (Val × Sto)} {lo hi : Option Expr} {fl fh : OF} {p2 : Pos} (hs : SlR X r) (hg : SlA X.K r g) (ha : AE X a fa) (hl : PO X lo (tFo X.K fl)) (hh : PO X hi (tFo X.K fh)) : AE X (.Subscript a (.Slice lo hi none p2) pos) (eSl g fa fl fh) := by
  refine pe_w (pe_slice hs ha hl hh) fun σ H Q h => ?_
  obtain ⟨m, ρ, S, v, S', R, r, e, q⟩ := h
  obtain ⟨⟨x, S1⟩, e1, e⟩ := Option.bind_eq_some_iff.mp e
  obtain ⟨⟨y, S2⟩, e2, e⟩ := Option.bind_eq_some_iff.mp e
  obtain ⟨⟨z, S3⟩, e3, e⟩ := Option.bind_eq_some_iff.mp e
  refine ⟨m, ρ, S, x, S1, R, r, e1, fun m1 u H1 E1 R1 r1 => ⟨m1, ρ, S1, y, S2, R1, r.kp (E1.kp R), e2, fun m2 H2 E2 R2 => ⟨m2, ρ, S2, z, S3, R2, r.kp ((E1.trans E2).kp R), e3, fun m3 H3 E3 R3 => ?_⟩⟩⟩
  exact hg m3 S3 H3 x y z v S' u Q R3 (r1.kp ((E2.trans E3).kp R1)) e fun m4 z H4 E4 R4 r4 => q m4 z H4 (((E1.trans E2).trans E3).trans E4) R4 r4
end
end AL
namespace AL
open PySem PySem.Spec PyProof.Rows L2 G
variable [TT]
inductive Res where
  | stuck | nx (ρ : Rho) (S : Sto) | rt (v : Val) (S : Sto) | bk (ρ : Rho) (S : Sto) | ct (ρ : Rho) (S : Sto)
abbrev SF := Rho → Sto → Res
def Post (K : PySem.W.Frag) (m : List Addr) (H : Hp) (D : Ends) : Res → Prop
  | .stuck => False
  | .nx ρ S => ∀ m' σ' H', Ext m H m' H' → Rel K m' S H' → RhoR K H' m' ρ σ' → D.nx σ' H'
  | .rt v S => ∀ m' u H', Ext m H m' H' → Rel K m' S H' → VR K H' m' u v → D.rt u H'
  | .bk ρ S => ∀ m' σ' H', Ext m H m' H' → Rel K m' S H' → RhoR K H' m' ρ σ' → D.bk σ' H'
  | .ct ρ S => ∀ m' σ' H', Ext m H m' H' → Rel K m' S H' → RhoR K H' m' ρ σ' → D.ct σ' H'
theorem Post.ext {K : PySem.W.Frag} {m m1 : List Addr} {H H1 : Hp} {D : Ends} {r : Res} (h : Post K m H D r) (E : Ext m H m1 H1) : Post K m1 H1 D r := by
  cases r with
  | stuck => exact h
  | nx ρ S => exact fun m' σ' H' E' => h m' σ' H' (E.trans E')
  | rt ρ S => exact fun m' σ' H' E' => h m' σ' H' (E.trans E')
  | bk ρ S => exact fun m' σ' H' E' => h m' σ' H' (E.trans E')
  | ct ρ S => exact fun m' σ' H' E' => h m' σ' H' (E.trans E')
def tS (K : PySem.W.Frag) (g : SF) : TS := fun D σ H => ∃ m ρ S, Rel K m S H ∧ RhoR K H m ρ σ ∧ Post K m H D (g ρ S)
abbrev AS (X : Cx) (st : Stmt) (g : SF) : Prop := PS X st (tS X.K g)
abbrev ASs (X : Cx) (sts : List Stmt) (g : SF) : Prop := PSs X sts (tS X.K g)
section
variable {X : Cx} {st : Stmt} {sts rest : List Stmt} {e a b c o i : Expr} {es : List Expr} {pos : Pos} {f fa fb fc : EF} {g g1 g2 : SF} {tb : BF} {K : PySem.W.Frag} {ga : AF}
theorem ps_w {t t' : TS} (h : PS X st t) (hi : ∀ D σ H, t' D σ H → t D σ H) : PS X st t' := ⟨fun pins s σ H D I hq => h.run pins s σ H D I (hi D σ H hq)⟩
theorem pss_w {t t' : TS} (h : PSs X sts t) (hi : ∀ D σ H, t' D σ H → t D σ H) : PSs X sts t' := ⟨fun pins s σ H D I hq => h.run pins s σ H D I (hi D σ H hq)⟩
def sNil : SF := fun ρ S => .nx ρ S
def sSeq (g1 g2 : SF) : SF := fun ρ S => match g1 ρ S with
  | .nx ρ S => g2 ρ S
  | r => r
theorem asn : ASs X [] sNil := pss_w pss_nil fun D σ H h => by
  obtain ⟨m, ρ, S, R, r, p⟩ := h
  exact p m σ H (.refl _ _) R r
theorem asq (h1 : AS X st g1) (h2 : ASs X rest g2) : ASs X (st :: rest) (sSeq g1 g2) := pss_w (pss_cons h1 h2) fun D σ H h => by
  obtain ⟨m, ρ, S, R, r, p⟩ := h
  refine ⟨m, ρ, S, R, r, ?_⟩
  unfold sSeq at p
  cases e : g1 ρ S with
  | nx ρ1 S1 =>
    rw [e] at p
    intro m1 σ1 H1 E1 R1 r1
    exact ⟨m1, ρ1, S1, R1, r1, p.ext E1⟩
  | stuck => rw [e] at p; exact p
  | rt v S1 => rw [e] at p; exact p
  | bk v S1 => rw [e] at p; exact p
  | ct v S1 => rw [e] at p; exact p
theorem as1 (h : AS X st g) : ASs X [st] g := pss_one h
def sExpr (f : EF) : SF := fun ρ S => match f ρ S with
  | some (_, S) => .nx ρ S
  | none => .stuck
theorem asx (he : AE X e f) (hs : swapsWith e none pos.line X.env = pure false := by rfl) : AS X (.Expr e pos) (sExpr f) := ps_w (ps_expr he hs) fun D σ H h => by
  obtain ⟨m, ρ, S, R, r, p⟩ := h
  unfold sExpr at p
  split at p
  · next v S1 e1 => exact ⟨m, ρ, S, v, S1, R, r, e1, fun m1 u H1 E1 R1 r1 => p m1 σ H1 E1 R1 (r.kp (E1.kp R))⟩
  · exact p.elim
def sRet (f : EF) : SF := fun ρ S => match f ρ S with
  | some (v, S) => .rt v S
  | none => .stuck
theorem asr (he : AE X e f) : AS X (.Return (some e) pos) (sRet f) := ps_w (ps_ret he) fun D σ H h => by
  obtain ⟨m, ρ, S, R, r, p⟩ := h
  unfold sRet at p
  split at p
  · next v S1 e1 => exact ⟨m, ρ, S, v, S1, R, r, e1, p⟩
  · exact p.elim
def sIf (t : BF) (g1 g2 : SF) : SF := fun ρ S => match t ρ S with
  | some (true, S) => g1 ρ S
  | some (false, S) => g2 ρ S
  | none => .stuck
theorem asi (hc : AT X c tb) (h1 : ASs X sts g1) (h2 : ASs X rest g2) : AS X (.If c sts rest pos) (sIf tb g1 g2) := ps_w (ps_if hc h1 h2) fun D σ H h => by
  obtain ⟨m, ρ, S, R, r, p⟩ := h
  unfold sIf at p
  split at p
  · next S1 e1 => exact ⟨m, ρ, S, true, S1, R, r, e1, fun m1 H1 E1 R1 => ⟨m1, ρ, S1, R1, r.kp (E1.kp R), p.ext E1⟩⟩
  · next S1 e1 => exact ⟨m, ρ, S, false, S1, R, r, e1, fun m1 H1 E1 R1 => ⟨m1, ρ, S1, R1, r.kp (E1.kp R), p.ext E1⟩⟩
  · exact p.elim
inductive Pat where
  | nm (i : Nat)
  | tp (ps : List Pat)
mutual
def Pat.bind : Pat → Val → Rho → Option Rho
  | .nm i, v, ρ => some (ρ.set i (some v))
  | .tp ps, .tup vs, ρ => Pat.binds ps vs ρ
  | .tp _, _, _ => none
def Pat.binds : List Pat → List Val → Rho → Option Rho
  | [], [], ρ => some ρ
  | p :: ps, v :: vs, ρ => (Pat.bind p v ρ).bind fun ρ1 => Pat.binds ps vs ρ1
  | _, _, _ => none
end
mutual
def Pat.slots : Pat → List Nat
  | .nm i => [i]
  | .tp ps => Pat.slotss ps
def Pat.slotss : List Pat → List Nat
  | [] => []
  | p :: ps => Pat.slots p ++ Pat.slotss ps
end
theorem wipe_get (σ : L2.St) : ∀ (vs : List Nat) (j : Nat), (wipe σ vs)[j]? = if j ∈ vs then (σ[j]?).map (fun _ => none) else σ[j]?
  | [], j => by simp [wipe]
  | v :: vs, j => by
    unfold wipe
    by_cases z : v = j
    · subst z
      rw [List.getElem?_set]
      simp only [if_true, wipe_length, List.mem_cons, true_or, if_true]
      by_cases l : v < σ.length
      · simp [l]
      · simp [l, List.getElem?_eq_none (Nat.le_of_not_lt l)]
    · rw [List.getElem?_set_ne z, wipe_get σ vs j]
      simp [List.mem_cons, Ne.symm z]
theorem wipe_set (σ : L2.St) {i : Nat} {vs : List Nat} (x : Option V) (h : i ∈ vs) : wipe (σ.set i x) vs = wipe σ vs := by
  apply List.ext_getElem?
  intro j
  rw [wipe_get, wipe_get]
  by_cases z : i = j
  · subst z
    simp only [h, if_true]
    by_cases l : i < σ.length
    · simp [l]
    · rw [List.getElem?_eq_none (by rw [List.length_set]; omega), List.getElem?_eq_none (by omega)]
  · rw [List.getElem?_set_ne z]
def tG (K : PySem.W.Frag) (p : Pat) : TG := fun u σ H Q => ∃ m S ρ v ρ', Rel K m S H ∧ RhoR K H m ρ σ ∧ VR K H m u v ∧ p.bind v ρ = some ρ' ∧ ∀ σ', RhoR K H m ρ' σ' → (∀ ws, (∀ i ∈ p.slots, i ∈ ws) → wipe σ' ws = wipe σ ws) → Q σ' H
def tGs (K : PySem.W.Frag) (ps : List Pat) : TGs := fun us σ H Q => ∃ m S ρ vs ρ', Rel K m S H ∧ RhoR K H m ρ σ ∧ VRs K H m us vs ∧ Pat.binds ps vs ρ = some ρ' ∧ ∀ σ', RhoR K H m ρ' σ' → (∀ ws, (∀ i ∈ Pat.slotss ps, i ∈ ws) → wipe σ' ws = wipe σ ws) → Q σ' H
theorem pg_w {tg : Expr} {t t' : TG} (h : PG X tg t) (hi : ∀ v σ H Q, t' v σ H Q → t v σ H Q) : PG X tg t' := ⟨fun pins s σ H v u Q I rv hq => h.run pins s σ H v u Q I rv (hi v σ H Q hq)⟩
theorem pgs_w {tgs : List Expr} {t t' : TGs} (h : PGs X tgs t) (hi : ∀ v σ H Q, t' v σ H Q → t v σ H Q) : PGs X tgs t' := ⟨fun pins s σ H v u Q I rv hq => h.run pins s σ H v u Q I rv (hi v σ H Q hq)⟩
theorem agn {i : Nat} {x : Str} (hN : X.N.Nodup) (hi : X.N[i]? = some x) (hx : Loc X.env.scope x) (hf : X.fn x = true ∨ X.env.scope.names.lookup x = some .local := by first | exact .inl rfl | exact .inr rfl | assumption) : PG X (.Name x pos) (tG X.K (.nm i)) := pg_w (pg_name hN hi hx hf) fun u σ H Q h => by
  obtain ⟨m, S, ρ, v, ρ', R, r, rv, e, q⟩ := h
  simp only [Pat.bind] at e
  cases e
  exact q _ (r.set rv i) fun ws hw => wipe_set σ _ (hw i (by simp [Pat.slots]))
theorem agl0 : PGs X [] (tGs X.K []) := pgs_w pgs_nil fun us σ H Q h => by
  obtain ⟨m, S, ρ, vs, ρ', R, r, rv, e, q⟩ := h
  cases vs with
  | nil =>
    cases rv
    simp only [Pat.binds] at e
    cases e
    exact ⟨rfl, q σ r fun _ _ => rfl⟩
  | cons v vs => simp only [Pat.binds] at e; cases e
theorem agl {p : Pat} {ps : List Pat} (h1 : PG X e (tG X.K p)) (h2 : PGs X es (tGs X.K ps))
    (hs : (assignEach (e :: es) X.env).map (·.2) = assign e X.env :: (assignEach es X.env).map (·.2) := by rfl) : PGs X (e :: es) (tGs X.K (p :: ps)) := pgs_w (pgs_cons h1 h2 hs) fun us σ H Q h => by
  obtain ⟨m, S, ρ, vs, ρ', R, r, rv, e, q⟩ := h
  cases vs with
  | nil => simp only [Pat.binds] at e; cases e
  | cons v vs =>
    cases rv with
    | cons rv rvs =>
      simp only [Pat.binds] at e
      obtain ⟨ρ1, e1, e2⟩ := Option.bind_eq_some_iff.mp e
      refine ⟨_, _, rfl, m, S, ρ, v, ρ1, R, r, rv, e1, fun σ1 r1 w1 => ⟨m, S, ρ1, vs, ρ', R, r1, rvs, e2, fun σ2 r2 w2 => q σ2 r2 fun ws hw => ?_⟩⟩
      rw [w2 ws fun i hi => hw i (by simp [Pat.slotss, hi]), w1 ws fun i hi => hw i (by simp [Pat.slotss, hi])]
theorem bindLen : ∀ {ps : List Pat} {vs : List Val} {ρ ρ' : Rho}, Pat.binds ps vs ρ = some ρ' → vs.length = ps.length
  | [], [], _, _, _ => rfl
  | [], _ :: _, _, _, h => by simp only [Pat.binds] at h; cases h
  | _ :: _, [], _, _, h => by simp only [Pat.binds] at h; cases h
  | p :: ps, v :: vs, ρ, ρ', h => by
    simp only [Pat.binds] at h
    obtain ⟨ρ1, e1, e2⟩ := Option.bind_eq_some_iff.mp h
    rw [List.length_cons, List.length_cons, bindLen e2]
theorem agt {ps : List Pat} {k n : Nat} (hc : X.calm = true) (h : PGs X es (tGs X.K ps)) (hn : (assignEach es X.env).length = n := by rfl) (hst : (assignEach es X.env).findIdx? (·.1) = none := by rfl) (hl : ps.length = n := by rfl) : PG X (.Tuple es k pos) (tG X.K (.tp ps)) := pg_w (pg_tup hc h hn hst) fun u σ H Q h => by
  obtain ⟨m, S, ρ, v, ρ', R, r, rv, e, q⟩ := h
  cases v <;> simp only [Pat.bind] at e <;> try cases e
  cases rv with
  | tup ha rs =>
    exact ⟨_, _, rfl, ha.sq, by rw [rs.len, bindLen e, hl], m, S, ρ, _, ρ', R, r, rs, e, fun σ' r' w' => q σ' r' fun ws hw => w' ws fun i hi => hw i (by simpa [Pat.slots] using hi)⟩
def sAsg (p : Pat) (f : EF) : SF := fun ρ S => match f ρ S with
  | some (v, S) => match p.bind v ρ with
    | some ρ => .nx ρ S
    | none => .stuck
  | none => .stuck
theorem sAsg_ok {p : Pat} {D : Ends} {σ : L2.St} {H : Hp} (h : tS K (sAsg p f) D σ H) : tAsg (tF K f) (tG K p) D σ H := by
  obtain ⟨m, ρ, S, R, r, q⟩ := h
  unfold sAsg at q
  split at q
  · next v S1 e1 =>
    split at q
    · next ρ1 e2 =>
      refine ⟨m, ρ, S, v, S1, R, r, e1, fun m1 u H1 E1 R1 r1 => ⟨m1, S1, ρ, v, ρ1, R1, r.kp (E1.kp R), r1, e2, fun σ' r' _ => q m1 σ' H1 E1 R1 r'⟩⟩
    · exact q.elim
  · exact q.elim
theorem asa {p : Pat} {tg : Expr} (he : AE X e f) (hg : PG X tg (tG X.K p)) (hs : swapsWithSole [tg] e pos.line X.env = pure false := by rfl) (hw : swappedStores [tg] e X.env = pure none := by rfl)
    (h1 : (assignEach [tg] X.env).map (·.2) = [assign tg X.env] := by rfl) : AS X (.Assign [tg] e pos) (sAsg p f) := ps_w (ps_asg he hg hs hw h1) fun D σ H h => sAsg_ok h
theorem ass {i : Nat} {x : Str} {pos' : Pos} (hN : X.N.Nodup) (hi : X.N[i]? = some x) (hx : Loc X.env.scope x) (he : AE X e f) (hs : swapsWith e (some (.Name x pos')) pos.line X.env = pure false := by rfl) (hf : X.fn x = true ∨ X.env.scope.names.lookup x = some .local := by first | exact .inl rfl | exact .inr rfl | assumption) :
    AS X (.Assign [.Name x pos'] e pos) (sAsg (.nm i) f) := ps_w (ps_set hN hi hx he hs hf) fun D σ H h => by
  obtain ⟨m, ρ, S, R, r, q⟩ := h
  unfold sAsg at q
  split at q
  · next v S1 e1 =>
    simp only [Pat.bind] at q
    exact ⟨m, ρ, S, v, S1, R, r, e1, fun m1 u H1 E1 R1 r1 => q m1 _ H1 E1 R1 ((r.kp (E1.kp R)).set r1 i)⟩
  · exact q.elim

def sPar (is : List Nat) (ga : AF) : SF := fun ρ S => match ga ρ S with
  | some (vs, S) => match Pat.binds (is.map Pat.nm) vs ρ with
    | some ρ => .nx ρ S
    | none => .stuck
  | none => .stuck

def sSub (g : Val → Val → Val → Sto → Option Sto) (fo fi f : EF) : SF := fun ρ S => match f ρ S with
  | some (v, S) => match fo ρ S with
    | some (o, S) => match fi ρ S with
      | some (i, S) => match g o i v S with
        | some S => .nx ρ S
        | none => .stuck
      | none => .stuck
    | none => .stuck
  | none => .stuck
def SetA (K : PySem.W.Frag) (r : TSet) (g : Val → Val → Val → Sto → Option Sto) : Prop := ∀ m S H o i v S' uo ui u Q, Rel K m S H → VR K H m uo o → VR K H m ui i → VR K H m u v → g o i v S = some S' → (∀ H', Ext m H m H' → Rel K m S' H' → Q H') → r uo ui u H Q
def whR (t : BF) (g : SF) : Nat → SF
  | 0 => fun _ _ => .stuck
  | n + 1 => fun ρ S => match t ρ S with
    | none => .stuck
    | some (false, S) => .nx ρ S
    | some (true, S) => match g ρ S with
      | .nx ρ S => whR t g n ρ S
      | .ct ρ S => whR t g n ρ S
      | .bk ρ S => .nx ρ S
      | .rt v S => .rt v S
      | .stuck => .stuck
open Classical in
noncomputable def sWhile (t : BF) (g : SF) : SF := fun ρ S => if h : ∃ n, whR t g n ρ S ≠ .stuck then whR t g h.choose ρ S else .stuck
theorem whR_succ {t : BF} {g : SF} : ∀ {n : Nat} {ρ : Rho} {S : Sto}, whR t g n ρ S ≠ .stuck → whR t g (n + 1) ρ S = whR t g n ρ S
  | 0, _, _, h => absurd rfl h
  | n + 1, ρ, S, h => by
    unfold whR at h ⊢
    split
    · rfl
    · rfl
    · next S1 e1 =>
      simp only [e1] at h
      split
      · next ρ2 S2 e2 =>
        simp only [e2] at h
        exact whR_succ h
      · next ρ2 S2 e2 =>
        simp only [e2] at h
        exact whR_succ h
      · rfl
      · rfl
      · rfl
theorem whR_add {t : BF} {g : SF} {n : Nat} {ρ : Rho} {S : Sto} (h : whR t g n ρ S ≠ .stuck) : ∀ k, whR t g (n + k) ρ S = whR t g n ρ S
  | 0 => rfl
  | k + 1 => by
    have e := whR_add h k
    rw [← Nat.add_assoc, whR_succ (by rw [e]; exact h), e]
theorem sWhile_eq {t : BF} {g : SF} {n : Nat} {ρ : Rho} {S : Sto} {r : Res} (h : whR t g n ρ S = r) (hr : r ≠ .stuck) : sWhile t g ρ S = r := by
  have ex : ∃ n, whR t g n ρ S ≠ .stuck := ⟨n, by rw [h]; exact hr⟩
  unfold sWhile
  rw [dif_pos ex]
  have h1 := whR_add ex.choose_spec n
  have h2 := whR_add (show whR t g n ρ S ≠ .stuck by rw [h]; exact hr) ex.choose
  rw [← h1, ← h, ← h2, Nat.add_comm]
theorem asw (hp : PassesOwn (model X.prog X.w) X.A X.env X.xe) (hc : AT X c tb) (hb : ASs X sts g) : AS X (.While c sts [] pos) (sWhile tb g) := ps_w (ps_while hp hc hb) fun D σ H h => by
  obtain ⟨m, ρ, S, R, r, q⟩ := h
  unfold sWhile at q
  split at q
  · next hex =>
    generalize hex.choose = n at q
    refine ⟨fun k σ H => ∃ m ρ S, Rel X.K m S H ∧ RhoR X.K H m ρ σ ∧ Post X.K m H D (whR tb g k ρ S), ⟨n, m, ρ, S, R, r, q⟩, ?_⟩
    rintro k σ H ⟨m, ρ, S, R, r, q⟩
    cases k with
    | zero => exact q.elim
    | succ k =>
      unfold whR at q
      split at q
      · exact q.elim
      · next S1 e1 =>
        refine ⟨m, ρ, S, false, S1, R, r, e1, fun m1 H1 E1 R1 => ?_⟩
        exact q m1 σ H1 E1 R1 (r.kp (E1.kp R))
      · next S1 e1 =>
        refine ⟨m, ρ, S, true, S1, R, r, e1, fun m1 H1 E1 R1 => ?_⟩
        refine iteT ?_
        refine ⟨fun σ H => ∃ m ρ S, Rel X.K m S H ∧ RhoR X.K H m ρ σ ∧ Post X.K m H D (whR tb g k ρ S), fun σ' H' h => ⟨k, Nat.lt_succ_self k, h⟩, m1, ρ, S1, R1, r.kp (E1.kp R), ?_⟩
        split at q
        · next ρ2 S2 e2 =>
          rw [e2]
          exact fun m2 σ2 H2 E2 R2 r2 => ⟨m2, ρ2, S2, R2, r2, q.ext (E1.trans E2)⟩
        · next ρ2 S2 e2 =>
          rw [e2]
          exact fun m2 σ2 H2 E2 R2 r2 => ⟨m2, ρ2, S2, R2, r2, q.ext (E1.trans E2)⟩
        · next ρ2 S2 e2 =>
          rw [e2]
          exact fun m2 σ2 H2 E2 R2 r2 => q m2 σ2 H2 (E1.trans E2) R2 r2
        · next v2 S2 e2 =>
          rw [e2]
          exact fun m2 σ2 H2 E2 R2 r2 => q m2 σ2 H2 (E1.trans E2) R2 r2
        · exact q.elim
  · exact q.elim
abbrev IF := Rho → Sto → Option (List Val × (Sto → Prop) × Sto)
structure ItA (K : PySem.W.Frag) (J : It) (m0 : List Addr) (H0 : Hp) (vs : List Val) (ok : Sto → Prop) : Prop where
  step : ∀ (i : Nat) (m : List Addr) (S : Sto) (H : Hp), Ext m0 H0 m H → Rel K m S H → ok S → ∀ v, vs[i]? = some v → J.go i H ∧ ∀ x H', J.yld i H x H' → Rel K m S H' ∧ Ext m H m H' ∧ VR K H' m x v
  stop : ∀ (m : List Addr) (S : Sto) (H : Hp), Ext m0 H0 m H → Rel K m S H → ok S → J.stop vs.length H
def tI (K : PySem.W.Frag) (fi : IF) : TI := fun σ H R => ∃ m ρ S vs ok S', Rel K m S H ∧ RhoR K H m ρ σ ∧ fi ρ S = some (vs, ok, S') ∧ ∀ m' H' J, Ext m H m' H' → Rel K m' S' H' → ItA K J m' H' vs ok → R J H'
abbrev AI (X : Cx) (tg it : Expr) (fi : IF) : Prop := PI X tg it (tI X.K fi)
theorem pi_w {tg it : Expr} {w w' : TI} (h : PI X tg it w) (hi : ∀ σ H R, w' σ H R → w σ H R) : PI X tg it w' := ⟨fun pins s σ H R I hq => h.run pins s σ H R I (hi σ H R hq)⟩
theorem PI.or {tg it : Expr} {w w' : TI} (h : PI X tg it w) (h' : PI X tg it w') : PI X tg it (fun σ H R => w σ H R ∨ w' σ H R) := ⟨fun pins s σ H R I hq => hq.elim (h.run pins s σ H R I) (h'.run pins s σ H R I)⟩
open Classical in
noncomputable def forR (p : Pat) (g : SF) (ok : Sto → Prop) : List Val → SF
  | [] => fun ρ S => if ok S then .nx ρ S else .stuck
  | v :: vs => fun ρ S => if ok S then match p.bind v ρ with
    | none => .stuck
    | some ρ => match g ρ S with
      | .nx ρ S => forR p g ok vs ρ S
      | .ct ρ S => forR p g ok vs ρ S
      | .bk ρ S => .nx ρ S
      | .rt v S => .rt v S
      | .stuck => .stuck
    else .stuck
noncomputable def sFor (p : Pat) (fi : IF) (g : SF) : SF := fun ρ S => match fi ρ S with
  | some (vs, ok, S) => forR p g ok vs ρ S
  | none => .stuck
theorem asf {p : Pat} {tg it : Expr} {fi : IF} (hp : PassesOwn (model X.prog X.w) X.A X.env X.xe) (hc : X.calm = true) (hi : AI X tg it fi) (hg : PG X tg (tG X.K p)) (hb : ASs X sts g)
    (hs : ∀ x, foldedSetIterable it X.env x = pure x := by intro _; rfl) : AS X (.For tg it sts [] pos) (sFor p fi g) := ps_w (ps_for hp hc hi hg hb hs) fun D σ H h => by
  obtain ⟨m, ρ, S, R, r, q⟩ := h
  unfold sFor at q
  split at q
  · next vs ok S1 e1 =>
    refine ⟨m, ρ, S, vs, ok, S1, R, r, e1, fun m0 H0 J E0 R0 it0 => ?_⟩
    refine ⟨fun i k σ H => k + i = vs.length ∧ ∃ m ρ S, Ext m0 H0 m H ∧ Rel X.K m S H ∧ RhoR X.K H m ρ σ ∧ Post X.K m H D (forR p g ok (vs.drop i) ρ S), ⟨vs.length, by omega, m0, ρ, S1, .refl _ _, R0, r.kp (E0.kp R), q.ext E0⟩, ?_⟩
    rintro i k σ H ⟨hk, m, ρ, S, E, R, r, q⟩
    by_cases hlt : i < vs.length
    · rw [List.drop_eq_getElem_cons hlt] at q
      unfold forR at q
      split at q
      · next hok =>
        split at q
        · exact q.elim
        · next ρ1 e2 =>
          obtain ⟨go, yl⟩ := it0.step i m S H E R hok vs[i] (List.getElem?_eq_getElem hlt)
          refine .inr ⟨go, fun σ H => ∃ m ρ S, Ext m0 H0 m H ∧ Rel X.K m S H ∧ RhoR X.K H m ρ σ ∧ Post X.K m H D (forR p g ok (vs.drop (i + 1)) ρ S), fun σ' H' h => ⟨k - 1, by omega, by omega, h⟩, fun x H' hy => ?_⟩
          obtain ⟨R', E', rx⟩ := yl x H' hy
          refine ⟨m, S, ρ, _, ρ1, R', r.kp (E'.kp R), rx, e2, fun σ1 r1 _ => ⟨m, ρ1, S, R', r1, ?_⟩⟩
          have EE := E.trans E'
          split at q
          · next ρ2 S2 e3 =>
            rw [e3]
            exact fun m2 σ2 H2 E2 R2 r2 => ⟨m2, ρ2, S2, EE.trans E2, R2, r2, q.ext (E'.trans E2)⟩
          · next ρ2 S2 e3 =>
            rw [e3]
            exact fun m2 σ2 H2 E2 R2 r2 => ⟨m2, ρ2, S2, EE.trans E2, R2, r2, q.ext (E'.trans E2)⟩
          · next ρ2 S2 e3 =>
            rw [e3]
            exact fun m2 σ2 H2 E2 R2 r2 => q m2 σ2 H2 (E'.trans E2) R2 r2
          · next v2 S2 e3 =>
            rw [e3]
            exact fun m2 σ2 H2 E2 R2 r2 => q m2 σ2 H2 (E'.trans E2) R2 r2
          · exact q.elim
      · exact q.elim
    · have e : i = vs.length := by omega
      subst e
      rw [List.drop_length] at q
      unfold forR at q
      split at q
      · next hok => exact .inl ⟨it0.stop m S H E R hok, q m σ H (.refl _ _) R r⟩
      · exact q.elim
  · exact q.elim
def wipeR (ρ : Rho) : List Nat → Rho
  | [] => ρ
  | v :: vs => (wipeR ρ vs).set v none
theorem RhoR.wipe {H : Hp} {m : List Addr} {ρ : Rho} {σ : L2.St} (r : RhoR K H m ρ σ) : ∀ vs : List Nat, RhoR K H m (wipeR ρ vs) (L2.wipe σ vs)
  | [] => r
  | v :: vs => (r.wipe vs).unset v none
def bYes : BF := fun _ S => some (true, S)
theorem ats0 : PTs X [] (tFb X.K bYes) := ⟨fun pins s σ H Q I h => pts_nil.run pins s σ H Q I (by
  obtain ⟨m, ρ, S, v, S', R, r, e, q⟩ := h
  cases e
  exact q m H (.refl _ _) R)⟩
open Classical in
noncomputable def lcR (p : Pat) (t : BF) (f : EF) (ok : Sto → Prop) (ρ : Rho) : List Val → List Val → Sto → Option (List Val × Sto)
  | [], acc, S => if ok S then some (acc, S) else none
  | v :: vs, acc, S => if ok S then (p.bind v ρ).bind fun ρ1 => (t ρ1 S).bind fun b => if b.1 then (f ρ1 b.2).bind fun y => if acc.length < 1000000 then lcR p t f ok ρ vs (acc ++ [y.1]) y.2 else none else lcR p t f ok ρ vs acc b.2 else none
noncomputable def eLc (p : Pat) (fi : IF) (t : BF) (f : EF) (own : List Nat) : EF := fun ρ S => (fi ρ S).bind fun z => (lcR p t f z.2.1 (wipeR ρ own) z.1 [] z.2.2).bind fun y => some (.ref y.2.length, y.2 ++ [.lst y.1])
theorem eLc_ok {p : Pat} {fi : IF} {t : BF} {own : List Nat} (hp : ∀ i ∈ p.slots, i ∈ own) {σ : L2.St} {H : Hp} {Q : VK} (h : tF K (eLc p fi t f own) σ H Q) : tLc (tI K fi) (tG K p) (tFb K t) (tF K f) own σ H Q := by
  obtain ⟨m, ρ, S, v, S', R, r, e, q⟩ := h
  obtain ⟨⟨vs, ok, S1⟩, e1, e⟩ := Option.bind_eq_some_iff.mp e
  obtain ⟨⟨ys, S2⟩, e2, e⟩ := Option.bind_eq_some_iff.mp e
  cases e
  refine ⟨m, ρ, S, vs, ok, S1, R, r, e1, fun m0 H0 J E0 R0 it0 D hD => ?_⟩
  dsimp only at e2 q
  refine ⟨fun i k H => k + i = vs.length ∧ ∃ m S acc xs, Ext m0 H0 m H ∧ Rel K m S H ∧ D ∉ m ∧ H D = some (.lst xs) ∧ VRs K H m xs acc ∧ lcR p t f ok (wipeR ρ own) (vs.drop i) acc S = some (ys, S2), ?_, ?_⟩
  · obtain ⟨R1, E1⟩ := R0.tmp (o := .lst []) hD
    exact ⟨vs.length, by omega, m0, S1, [], [], E1, R1, R0.noNone hD, upd_same, .nil, e2⟩
  · rintro i k H ⟨hk, m, S, acc, xs, E, R, nD, hDx, rx, el⟩
    by_cases hlt : i < vs.length
    · rw [List.drop_eq_getElem_cons hlt] at el
      unfold lcR at el
      split at el
      · next hok =>
        obtain ⟨ρ1, b1, el⟩ := Option.bind_eq_some_iff.mp el
        obtain ⟨⟨bb, S3⟩, b2, el⟩ := Option.bind_eq_some_iff.mp el
        dsimp only at el
        obtain ⟨go, yl⟩ := it0.step i m S H E R hok vs[i] (List.getElem?_eq_getElem hlt)
        refine .inr ⟨go, fun H => ∃ m S acc xs, Ext m0 H0 m H ∧ Rel K m S H ∧ D ∉ m ∧ H D = some (.lst xs) ∧ VRs K H m xs acc ∧ lcR p t f ok (wipeR ρ own) (vs.drop (i + 1)) acc S = some (ys, S2), fun H' h => ⟨k - 1, by omega, by omega, h⟩, fun x H' hy => ?_⟩
        obtain ⟨R', E', rx'⟩ := yl x H' hy
        have rr : RhoR K H' m (wipeR ρ own) (L2.wipe σ own) := (r.wipe own).kp ((((E0.kp (by assumption)).trans (E.kp R0))).trans (E'.kp R))
        refine ⟨m, S, wipeR ρ own, vs[i], ρ1, R', rr, rx', b1, fun σ1 r1 w1 => ⟨?_, m, ρ1, S, bb, S3, R', r1, b2, fun m3 H3 E3 R3 => ?_⟩⟩
        · have := w1 own hp
          rw [this]
          have idem : ∀ (σ : L2.St) (vs ws : List Nat), (∀ i ∈ vs, i ∈ ws) → L2.wipe (L2.wipe σ vs) ws = L2.wipe σ ws := by
            intro σ vs ws
            induction vs with
            | nil => intro _; rfl
            | cons v vs ih =>
              intro h
              have e : L2.wipe σ (v :: vs) = (L2.wipe σ vs).set v none := rfl
              rw [e, wipe_set _ _ (h v (by simp)), ih fun i hi => h i (by simp [hi])]
          exact idem σ own own fun i hi => hi
        · have nD3 : D ∉ m3 := E3.no (E'.fr D _ hDx nD) nD
          have hD3 : H3 D = some (.lst xs) := E3.fr D _ (E'.fr D _ hDx nD) nD
          have k3 := (E'.kp R).trans (E3.kp R')
          cases bb with
          | true =>
            rw [if_pos rfl] at el
            refine iteT ?_
            obtain ⟨⟨y, S4⟩, b3, el⟩ := Option.bind_eq_some_iff.mp el
            dsimp only at el
            split at el
            · next hlen =>
              refine ⟨m3, ρ1, S3, y, S4, R3, r1.kp (E3.kp R'), b3, fun m4 u H4 E4 R4 r4 => ?_⟩
              have nD4 : D ∉ m4 := E4.no hD3 nD3
              have hD4 : H4 D = some (.lst xs) := E4.fr D _ hD3 nD3
              have rx4 := rx.kp (k3.trans (E4.kp R3))
              refine ⟨xs, hD4, by rw [rx.len]; exact Nat.lt_of_lt_of_le hlen (by decide), ?_⟩
              have kD : Kp m4 H4 m4 (upd H4 D (.lst (xs ++ [u]))) := .at_ fun u' e => by rw [hD4] at e; cases e; exact .inl ⟨_, rfl⟩
              have EE := ((E.trans E').trans E3).trans E4
              refine ⟨m4, S4, acc ++ [y], xs ++ [u], ⟨EE.pre, fun a o h n t => ?_, EE.nw'⟩, R4.off kD (fun a ha => upd_ne fun z => nD4 (z ▸ ha)) (fun P ps h => tbl_at hD4 (fun _ z => by cases z) h), nD4, upd_same, (rx4.kp kD).app (r4.kp kD).one, el⟩
              rw [upd_ne (ne_of_none h hD)]
              exact EE.fr' a o h n t
            · cases el
          | false =>
            rw [if_neg Bool.false_ne_true] at el
            refine iteF ?_
            exact ⟨m3, S3, acc, xs, (E.trans E').trans E3, R3, nD3, hD3, rx.kp k3, el⟩
      · cases el
    · have e : i = vs.length := by omega
      subst e
      rw [List.drop_length] at el
      unfold lcR at el
      split at el
      · next hok =>
        cases el
        refine .inl ⟨it0.stop m _ H E R hok, ?_⟩
        have E1 : Ext m0 H0 (m ++ [D]) H := by
          obtain ⟨r', hr'⟩ := E.pre
          refine ⟨⟨r' ++ [D], by rw [hr', List.append_assoc]⟩, E.fr', fun a o ha n ho => ?_⟩
          rcases List.mem_append.mp ha with z | z
          · exact E.nw' a o z n ho
          · simp only [List.mem_singleton] at z
            rw [z, hD] at ho
            cases ho
        have kk : Kp m H (m ++ [D]) H := .grow [D] (.refl _ _)
        have R1 : Rel K (m ++ [D]) (S2 ++ [.lst ys]) H := by
          refine ⟨by simp [R.len], ?_, fun n o' a h1 h2 => ?_, R.tb⟩
          · rw [List.nodup_append]
            refine ⟨R.nd, by simp, fun a ha b hb z => ?_⟩
            simp only [List.mem_singleton] at hb
            exact nD (hb ▸ z ▸ ha)
          · by_cases hn : n < S2.length
            · rw [List.getElem?_append_left hn] at h1
              rw [List.getElem?_append_left (by rw [R.len]; exact hn)] at h2
              exact (R.ob n o' a h1 h2).kp kk rfl
            · have e : n = S2.length := by
                have := (List.getElem?_eq_some_iff.mp h1).1
                simp only [List.length_append, List.length_singleton] at this
                omega
              subst e
              rw [List.getElem?_concat_length] at h1
              rw [← R.len, List.getElem?_concat_length] at h2
              cases h1
              cases h2
              exact ⟨xs, hDx, rx.kp kk⟩
        refine q (m ++ [D]) (.ref D) H (E0.trans E1) R1 (.ref ?_)
        rw [← R.len, List.getElem?_concat_length]
      · cases el
theorem alc {elt tg it : Expr} {ifs : List Expr} {scope : Scope} {own : List (Str × Nat)} {p : Pat} {fi : IF} {t : BF} (hc : X.calm = true) (hN : X.N.Nodup) (hi : AI X tg it fi) (ok : BlkOk X.N X.env.scope scope own) (hp : ∀ i ∈ p.slots, i ∈ own.map (·.2))
    (hg : ∀ (s : Shared) (H : Hp) (C : Addr) (cl : List (Str × Addr)) (fp : List Addr), PG (X.blk s H scope (compEnvC scope cl C X.env) fp) tg (tG X.K p)) (ht : ∀ (s : Shared) (H : Hp) (C : Addr) (cl : List (Str × Addr)) (fp : List Addr), PTs (X.blk s H scope (compEnvC scope cl C X.env) fp) ifs (tFb X.K t))
    (he : ∀ (s : Shared) (H : Hp) (C : Addr) (cl : List (Str × Addr)) (fp : List Addr), AE (X.blk s H scope (compEnvC scope cl C X.env) fp) elt f) (hs : ∀ x, foldedSetIterable it X.env x = pure x := by intro _; rfl) :
    AE X (.ListComp elt [⟨tg, it, ifs, 0⟩] scope pos) (eLc p fi t f (own.map (·.2))) := pe_w (pe_lc hc hN hi ok hg ht he hs) fun _ _ _ h => eLc_ok hp h
end
def runF (n : Nat) (g : SF) : FA := fun vs S => match g (vs.map some ++ List.replicate (n - vs.length) none) S with
  | .rt v S => some (v, S)
  | .nx _ S => some (.non, S)
  | _ => none
end AL
namespace AL
open PySem PySem.Spec PyProof.Rows L2 G
variable [TT]
theorem rho_start {K : PySem.W.Frag} {H : Hp} {m : List Addr} (N : List Str) {us : List V} {vs : List Val} (r : VRs K H m us vs) : RhoR K H m (vs.map some ++ List.replicate (N.length - vs.length) none) (L2.start N us) := by
  have l := r.len
  refine ⟨by simp [L2.start, l], fun i v h => ?_⟩
  by_cases hi : i < vs.length
  · rw [List.getElem?_append_left (by simpa using hi), List.getElem?_map] at h
    obtain ⟨w, h1, h2⟩ := Option.map_eq_some_iff.mp h
    cases h2
    obtain ⟨u, h3, h4⟩ := r.get h1
    refine ⟨u, ?_, h4⟩
    unfold L2.start
    rw [List.getElem?_append_left (by simpa [l] using hi), List.getElem?_map, h3]
    rfl
  · rw [List.getElem?_append_right (by simpa using Nat.le_of_not_lt hi), List.getElem?_replicate] at h
    split at h <;> cases h

theorem fn_a {P : Program} {w : World} {K : PySem.W.Frag} {mg : Str → Option Value} {base : Heap} {x qual : Str} {st : Stmt} {f : Addr} {fd : FuncData} {N ps : List Str} {k : Nat} {g : SF}
    (F : Fun K x qual st f fd) (S : FnScope N ps (defScope st)) (hb : Binds K fd ps []) (hm : mg x = some (.ref f))
    (body : ∀ (cdv : Value) (A : Around) (outer : List Env) (s : Shared) (H : Hp) (E : XK), A.guards = some [] →
      Room k (A.deeper (envOfC qual (defScope st) s.heap.objs.size f cdv)) → ASs (cxOf CX0 P w K mg base N qual (defScope st) f cdv A outer s H E).nox (defBody st) g) {n : Nat} (hn : N.length = n := by rfl) :
    Def P w K mg base (k + 1) x ps (runF n g) := by
  subst hn
  refine ⟨f, fd, fn_g F S (fun vs H Q E h => h.1) (fun cdv A outer s H us Q E hg hr h => ⟨_, body cdv A outer s H E hg hr, ?_⟩), hb, hm, F.kp⟩
  obtain ⟨hl, m, S0, vs, v, S', R, r, e, q⟩ := h
  refine ⟨m, _, S0, R, rho_start N r, ?_⟩
  unfold runF at e
  split at e
  · next v' S1 e1 =>
    cases e
    rw [e1]
    exact q
  · next v' S1 e1 =>
    cases e
    rw [e1]
    exact fun m' σ' H' E' R' r' => q m' .non H' E' R' .non
  · cases e
section
variable {X : Cx} {K : PySem.W.Frag}
def gI (g : Int → Int → Val) : Val → Val → Sto → Option (Val × Sto) := fun x y S => match x, y with
  | .int a, .int b => some (g a b, S)
  | _, _ => none
theorem oI {gv : Int → Int → V} {g : Int → Int → Val} (h : ∀ H m a b, VR K H m (gv a b) (g a b)) : OpA K (rI0 gv) (gI g) := by
  intro m S H x y v S' u w Q R ru rw_ e q
  cases x <;> cases y <;> simp only [gI] at e <;> try cases e
  cases ru
  cases rw_
  exact ⟨_, _, rfl, rfl, q m _ H (.refl _ _) R (h H m _ _)⟩
open Classical in
noncomputable def gIc (C : Int → Int → Prop) (g : Int → Int → Val) : Val → Val → Sto → Option (Val × Sto) := fun x y S => match x, y with
  | .int a, .int b => if C a b then some (g a b, S) else none
  | _, _ => none
theorem oIc {C : Int → Int → Prop} {gv : Int → Int → V} {g : Int → Int → Val} (h : ∀ H m a b, VR K H m (gv a b) (g a b)) : OpA K (rI C gv) (gIc C g) := by
  intro m S H x y v S' u w Q R ru rw_ e q
  cases x <;> cases y <;> simp only [gIc] at e <;> try cases e
  cases ru
  cases rw_
  split at e
  · next hc =>
    cases e
    exact ⟨_, _, rfl, rfl, hc, q m _ H (.refl _ _) R (h H m _ _)⟩
  · cases e
abbrev gSub := gI fun a b => .int (a - b)
noncomputable abbrev gMul := gIc CMulW fun a b => .int (a * b)
noncomputable abbrev gDiv := gIc CDivW fun a b => .int (a / b)
noncomputable abbrev gMod := gIc (fun _ b => b ≠ 0) fun a b => .int (a.fmod b)
noncomputable abbrev gPow := gIc CPow fun a b => .int (a ^ b.toNat)
abbrev gLt := gI fun a b => .bl (decide (a < b))
abbrev gLe := gI fun a b => .bl (decide (a ≤ b))
abbrev gGt := gI fun a b => .bl (decide (b < a))
abbrev gGe := gI fun a b => .bl (decide (b ≤ a))
theorem oSub : OpA K (rI0 fun i j => .int (i - j)) gSub := oI fun _ _ _ _ => .int _
theorem oMul : OpA K (rI CMulW fun i j => .int (i * j)) gMul := oIc fun _ _ _ _ => .int _
theorem oDiv : OpA K (rI CDivW fun i j => .int (i / j)) gDiv := oIc fun _ _ _ _ => .int _
theorem oMod : OpA K (rI (fun _ j => j ≠ 0) fun i j => .int (i.fmod j)) gMod := oIc fun _ _ _ _ => .int _
theorem oPow : OpA K (rI CPow fun i j => .int (i ^ j.toNat)) gPow := oIc fun _ _ _ _ => .int _
theorem oLt : OpA K (rI0 fun i j => .bl (decide (i < j))) gLt := oI fun _ _ _ _ => .bl _
theorem oLe : OpA K (rI0 fun i j => .bl (decide (i ≤ j))) gLe := oI fun _ _ _ _ => .bl _
theorem oGt : OpA K (rI0 fun i j => .bl (decide (j < i))) gGt := oI fun _ _ _ _ => .bl _
theorem oGe : OpA K (rI0 fun i j => .bl (decide (j ≤ i))) gGe := oI fun _ _ _ _ => .bl _
def gNeg : Val → Sto → Option (Val × Sto) := fun x S => match x with
  | .int a => some (.int (-a), S)
  | _ => none
theorem oNeg : UnA K (rU fun i => .int (-i)) gNeg := by
  intro m S H x v S' u Q R ru e q
  cases x <;> simp only [gNeg] at e <;> try cases e
  cases ru
  exact ⟨_, rfl, q m _ H (.refl _ _) R (.int _)⟩
def gAdd : Val → Val → Sto → Option (Val × Sto) := fun x y S => match x, y with
  | .int a, .int b => some (.int (a + b), S)
  | .str a, .str b => if a.length + b.length ≤ sizeLine then some (.str (a ++ b), S) else none
  | .tup (a :: as), .tup b => if as.length + 1 + b.length ≤ sizeLine then some (.tup (a :: as ++ b), S) else none
  | .ref i, .ref j => match S[i]?, S[j]? with
    | some (.lst a), some (.lst b) => if a.length + b.length ≤ sizeLine then some (.ref S.length, S ++ [.lst (a ++ b)]) else none
    | _, _ => none
  | _, _ => none
def rAddA (K : PySem.W.Frag) : R2 := fun x y H Q => (rI0 (fun i j => .int (i + j))) x y H Q ∨ ((∃ i j, x = .str i ∧ y = .str j ∧ i.length + j.length ≤ sizeLine ∧ Q (.str (i ++ j)) H) ∨ (rCatT K x y H Q ∨ rCat x y H Q))
theorem op_addA : OpR X (binaryOp .Add) (rAddA X.K) := op_add.or (op_add_str.or (op_catT.or op_cat))
theorem oAdd : OpA K (rAddA K) gAdd := by
  intro m S H x y v S' u w Q R ru rw_ e q
  unfold gAdd at e
  split at e
  · cases e
    cases ru
    cases rw_
    exact .inl ⟨_, _, rfl, rfl, q m _ H (.refl _ _) R (.int _)⟩
  · split at e
    · next h =>
      cases e
      cases ru
      cases rw_
      exact .inr (.inl ⟨_, _, rfl, rfl, h, q m _ H (.refl _ _) R (.str _)⟩)
    · cases e
  · next a as b =>
    split at e
    · next h =>
      cases e
      cases ru with
      | tup ha ra =>
        rename_i ad xs
        cases rw_ with
        | tup hb rb =>
          rename_i bd ys
          have l1 := ra.len
          have l2 := rb.len
          rw [List.length_cons] at l1
          refine .inr (.inr (.inl ⟨ad, bd, xs, ys, rfl, rfl, ha.sq, hb.sq, ?_, by omega, fun z => ?_, fun z p hp => ?_⟩))
          · intro z
            rw [z] at l1
            simp at l1
          · subst z
            have : b = [] := by
              cases b with
              | nil => rfl
              | cons _ _ => simp at l2
            subst this
            rw [List.append_nil] at q
            exact q m _ H (.refl _ _) R (.tup ha ra)
          · obtain ⟨R2, E2⟩ := R.tmp (o := .tup (xs ++ ys)) hp
            exact q m _ _ E2 R2 (.tup (.inl upd_same) ((ra.app rb).kp (E2.kp R)))
    · cases e
  · next i j =>
    split at e
    · next a b ea eb =>
      split at e
      · next h =>
        cases e
        cases ru with
        | ref ha =>
          cases rw_ with
          | ref hb =>
            obtain ⟨xs, hx, rx⟩ := R.ob _ _ _ ea ha
            obtain ⟨ys, hy, ry⟩ := R.ob _ _ _ eb hb
            refine .inr (.inr (.inr ⟨_, _, xs, ys, rfl, rfl, hx, hy, by rw [rx.len, ry.len]; exact h, fun p hp => ?_⟩))
            have k1 : Kp m H (m ++ [p]) (upd H p (.lst (xs ++ ys))) := .grow [p] (.new hp)
            obtain ⟨R2, E2⟩ := R.alloc (o := .lst (xs ++ ys)) (b := .lst (a ++ b)) hp ⟨_, upd_same, (rx.app ry).kp k1⟩
            refine q _ _ _ E2 R2 (.ref ?_)
            rw [← R.len, List.getElem?_concat_length]
      · cases e
    · cases e
  · cases e
theorem newList {m : List Addr} {S : Sto} {H : Hp} {xs : List V} {vs : List Val} (R : Rel K m S H) (r : VRs K H m xs vs) {Q : VK} (q : ∀ m' z H', Ext m H m' H' → Rel K m' (S ++ [.lst vs]) H' → VR K H' m' z (.ref S.length) → Q z H') : ∀ p, H p = none → Q (.ref p) (upd H p (.lst xs)) := fun p hp => by
  have k1 : Kp m H (m ++ [p]) (upd H p (.lst xs)) := .grow [p] (.new hp)
  obtain ⟨R2, E2⟩ := R.alloc (o := .lst xs) (b := .lst vs) hp ⟨_, upd_same, r.kp k1⟩
  refine q _ _ _ E2 R2 (.ref ?_)
  rw [← R.len, List.getElem?_concat_length]
theorem newTup {m : List Addr} {S : Sto} {H : Hp} {xs : List V} {vs : List Val} (R : Rel K m S H) (r : VRs K H m xs vs) {Q : VK} (q : ∀ m' z H', Ext m H m' H' → Rel K m' S H' → VR K H' m' z (.tup vs) → Q z H') : ∀ p, H p = none → Q (.ref p) (upd H p (.tup xs)) := fun p hp => by
  obtain ⟨R2, E2⟩ := R.tmp (o := .tup xs) hp
  exact q m _ _ E2 R2 (.tup (.inl upd_same) (r.kp (E2.kp R)))
theorem VRs.atI {H : Hp} {m : List Addr} {us : List V} {vs : List Val} (r : VRs K H m us vs) {i : Int} {v : Val} (h : L2.atI vs i = some v) : ∃ u, L2.atI us i = some u ∧ VR K H m u v := by
  unfold L2.atI at h ⊢
  rw [r.len]
  cases e : ixN vs.length i with
  | none => rw [e] at h; cases h
  | some j =>
    rw [e] at h
    exact r.get h
def gIx : Val → Val → Sto → Option (Val × Sto) := fun x y S => match x, y with
  | .tup vs, .int i => (atI vs i).map fun v => (v, S)
  | .ref n, .int i => match S[n]? with
    | some (.lst vs) => (atI vs i).map fun v => (v, S)
    | _ => none
  | .str z, .int i => if z.length ≤ sizeLine then (atI z.cps.toList i).map fun c => (.str ⟨#[c]⟩, S) else none
  | _, _ => none
theorem oIx : OpA K (rIx K) gIx := by
  intro m S H x y v S' u w Q R ru rw_ e q
  unfold gIx at e
  split at e
  · obtain ⟨v', e1, e2⟩ := Option.map_eq_some_iff.mp e
    cases e2
    cases rw_
    cases ru with
    | tup ha ra =>
      obtain ⟨z, h1, h2⟩ := ra.atI e1
      exact .inr (.inl ⟨_, _, _, z, rfl, rfl, ha.sq, h1, q m z H (.refl _ _) R h2⟩)
  · split at e
    · next vs en =>
      obtain ⟨v', e1, e2⟩ := Option.map_eq_some_iff.mp e
      cases e2
      cases rw_
      cases ru with
      | ref ha =>
        obtain ⟨xs, hx, rx⟩ := R.ob _ _ _ en ha
        obtain ⟨z, h1, h2⟩ := rx.atI e1
        exact .inl ⟨_, _, _, z, rfl, rfl, SqL.of hx, h1, q m z H (.refl _ _) R h2⟩
    · cases e
  · split at e
    · next hl =>
      obtain ⟨v', e1, e2⟩ := Option.map_eq_some_iff.mp e
      cases e2
      cases rw_
      cases ru
      exact .inr (.inr ⟨_, _, _, rfl, rfl, hl, e1, q m _ H (.refl _ _) R (.str _)⟩)
    · cases e
  · cases e
def cutL {α : Type} (xs : List α) (lo hi : Option Int) : List α := (xs.drop (HT.sIx xs.length 0 lo)).take (HT.sIx xs.length xs.length hi - HT.sIx xs.length 0 lo)
theorem VRs.cut {H : Hp} {m : List Addr} {us : List V} {vs : List Val} (r : VRs K H m us vs) (lo hi : Option Int) : VRs K H m (cutV us lo hi) (cutL vs lo hi) := by
  unfold cutV cutL
  rw [r.len]
  exact (r.drop _).take _
open Classical in
noncomputable def gSl : Val → Option Int → Option Int → Sto → Option (Val × Sto) := fun x lo hi S => match x with
  | .tup vs => if ¬ (HT.sIx vs.length 0 lo = 0 ∧ HT.sIx vs.length vs.length hi = vs.length) then some (.tup (cutL vs lo hi), S) else none
  | .ref n => match S[n]? with
    | some (.lst vs) => some (.ref S.length, S ++ [.lst (cutL vs lo hi)])
    | _ => none
  | .scr ns => some (.ref S.length, S ++ [.lst (cutL (ns.map Val.int) lo hi)])
  | _ => none
theorem vrs_ints {H : Hp} {m : List Addr} : ∀ ns : List Int, VRs K H m (ns.map V.int) (ns.map Val.int)
  | [] => .nil
  | n :: ns => .cons (.int n) (vrs_ints ns)
theorem vrs_strs {H : Hp} {m : List Addr} : ∀ ns : List Str, VRs K H m (ns.map V.str) (ns.map Val.str)
  | [] => .nil
  | n :: ns => .cons (.str n) (vrs_strs ns)
def rSlA (K : PySem.W.Frag) : V → Option Int → Option Int → Hp → VK → Prop := fun x lo hi H Q => rSlT K x lo hi H Q ∨ rSlL K x lo hi H Q
theorem sl_A : SlR X (rSlA X.K) := sl_tup.or sl_list
theorem oSl : SlA K (rSlA K) gSl := by
  intro m S H x lo hi v S' u Q R ru e q
  unfold gSl at e
  split at e
  · split at e
    · next hn =>
      cases e
      cases ru with
      | tup ha ra =>
        refine .inl ⟨_, _, rfl, ha.sq, by rw [ra.len]; exact hn, newTup R (ra.cut lo hi) q⟩
    · cases e
  · split at e
    · next vs en =>
      cases e
      cases ru with
      | ref ha =>
        obtain ⟨xs, hx, rx⟩ := R.ob _ _ _ en ha
        exact .inr ⟨_, _, rfl, SqL.of hx, newList R (rx.cut lo hi) q⟩
    · cases e
  · cases e
    cases ru with
    | scr ha => exact .inr ⟨_, _, rfl, ha.sq, newList R ((vrs_ints _).cut lo hi) q⟩
  · cases e
def gLen : List Val → Sto → Option (Val × Sto) := fun xs S => match xs with
  | [.tup vs] => some (.int vs.length, S)
  | [.ref n] => match S[n]? with
    | some (.lst vs) => some (.int vs.length, S)
    | some (.dic kvs) => some (.int kvs.length, S)
    | _ => none
  | [.str z] => if z.length ≤ sizeLine then some (.int z.length, S) else none
  | _ => none
def rLenA (K : PySem.W.Frag) : List V → Hp → VK → Prop := fun xs H Q => (∃ p ys, xs = [.ref p] ∧ (SqL K H p ys ∨ SqT K H p ys) ∧ Q (.int ys.length) H) ∨ ((∃ z, xs = [.str z] ∧ z.length ≤ sizeLine ∧ Q (.int z.length) H) ∨ (∃ d kvs, xs = [.ref d] ∧ H d = some (.dK kvs) ∧ Q (.int (kvs.length : Nat)) H))
theorem VRs.one_of {H : Hp} {m : List Addr} {us : List V} {v : Val} (r : VRs K H m us [v]) : ∃ u, us = [u] ∧ VR K H m u v := by
  cases r with
  | cons a b =>
    cases b
    exact ⟨_, rfl, a⟩
theorem cLen : CaA K (rLenA K) gLen := by
  intro m S H xs v S' us Q R ru e q
  unfold gLen at e
  split at e
  · cases e
    obtain ⟨u, rfl, r1⟩ := ru.one_of
    cases r1 with
    | tup ha ra => exact .inl ⟨_, _, rfl, .inr ha.sq, by rw [ra.len]; exact q m _ H (.refl _ _) R (.int _)⟩
  · split at e
    · next vs en =>
      cases e
      obtain ⟨u, rfl, r1⟩ := ru.one_of
      cases r1 with
      | ref ha =>
        obtain ⟨xs, hx, rx⟩ := R.ob _ _ _ en ha
        exact .inl ⟨_, _, rfl, .inl (SqL.of hx), by rw [rx.len]; exact q m _ H (.refl _ _) R (.int _)⟩
    · next kvs en =>
      cases e
      obtain ⟨u, rfl, r1⟩ := ru.one_of
      cases r1 with
      | ref ha =>
        obtain ⟨xs, hx, he, rx⟩ := R.ob _ _ _ en ha
        have l : xs.length = kvs.length := by simpa using congrArg List.length he
        exact .inr (.inr ⟨_, _, rfl, hx, by rw [l]; exact q m _ H (.refl _ _) R (.int _)⟩)
    · cases e
  · split at e
    · next hl =>
      cases e
      obtain ⟨u, rfl, r1⟩ := ru.one_of
      cases r1
      exact .inr (.inl ⟨_, rfl, hl, q m _ H (.refl _ _) R (.int _)⟩)
    · cases e
  · cases e
theorem call_lenA : CallR X (.builtin "len") (rLenA X.K) := CallR.or call_len_seq (CallR.or call_len_str call_lenD)
def gAbs : List Val → Sto → Option (Val × Sto) := fun xs S => match xs with
  | [.int i] => some (.int (if i < 0 then -i else i), S)
  | _ => none
theorem cAbs : CaA K (fun xs H Q => ∃ i, xs = [.int i] ∧ Q (.int (if i < 0 then -i else i)) H) gAbs := by
  intro m S H xs v S' us Q R ru e q
  unfold gAbs at e
  split at e
  · cases e
    obtain ⟨u, rfl, r1⟩ := ru.one_of
    cases r1
    exact ⟨_, rfl, q m _ H (.refl _ _) R (.int _)⟩
  · cases e
def gTuple : List Val → Sto → Option (Val × Sto) := fun xs S => match xs with
  | [.tup vs] => some (.tup vs, S)
  | [.ref n] => match S[n]? with
    | some (.lst vs) => some (.tup vs, S)
    | _ => none
  | _ => none
theorem cTuple : CaA K (fun xs H Q => ∃ p ys, xs = [.ref p] ∧ ((SqL K H p ys ∧ ∀ l, H l = none → Q (.ref l) (upd H l (.tup ys))) ∨ (SqT K H p ys ∧ Q (.ref p) H))) gTuple := by
  intro m S H xs v S' us Q R ru e q
  unfold gTuple at e
  split at e
  · cases e
    obtain ⟨u, rfl, r1⟩ := ru.one_of
    cases r1 with
    | tup ha ra => exact ⟨_, _, rfl, .inr ⟨ha.sq, q m _ H (.refl _ _) R (.tup ha ra)⟩⟩
  · split at e
    · next vs en =>
      cases e
      obtain ⟨u, rfl, r1⟩ := ru.one_of
      cases r1 with
      | ref ha =>
        obtain ⟨xs, hx, rx⟩ := R.ob _ _ _ en ha
        exact ⟨_, _, rfl, .inl ⟨SqL.of hx, newTup R rx q⟩⟩
    · cases e
  · cases e
def gList : List Val → Sto → Option (Val × Sto) := fun xs S => match xs with
  | [.tup vs] => some (.ref S.length, S ++ [.lst vs])
  | [.ref n] => match S[n]? with
    | some (.lst vs) => some (.ref S.length, S ++ [.lst vs])
    | _ => none
  | _ => none
theorem cList : CaA K (fun xs H Q => ∃ p ys, xs = [.ref p] ∧ (SqL K H p ys ∨ SqT K H p ys) ∧ ∀ l, H l = none → Q (.ref l) (upd H l (.lst ys))) gList := by
  intro m S H xs v S' us Q R ru e q
  unfold gList at e
  split at e
  · cases e
    obtain ⟨u, rfl, r1⟩ := ru.one_of
    cases r1 with
    | tup ha ra => exact ⟨_, _, rfl, .inr ha.sq, newList R ra q⟩
  · split at e
    · next vs en =>
      cases e
      obtain ⟨u, rfl, r1⟩ := ru.one_of
      cases r1 with
      | ref ha =>
        obtain ⟨xs, hx, rx⟩ := R.ob _ _ _ en ha
        exact ⟨_, _, rfl, .inl (SqL.of hx), newList R rx q⟩
    · cases e
  · cases e
def isL : Val → Sto → Bool := fun v S => match v with
  | .ref n => match S[n]? with
    | some (.lst _) => true
    | _ => false
  | _ => false
theorem tyL : TyA K "list" isL := by
  intro m S H u v R r h
  unfold isL at h
  split at h
  · split at h
    · next n _ vs en =>
      cases r with
      | ref ha =>
        obtain ⟨xs, hx, rx⟩ := R.ob _ _ _ en ha
        exact .inl ⟨rfl, xs, SqL.of hx⟩
    · cases h
  · cases h
def gApp : Val → List Val → Sto → Option (Val × Sto) := fun x xs S => match x, xs with
  | .ref n, [v] => match S[n]? with
    | some (.lst vs) => if vs.length < sizeLine then some (.non, S.set n (.lst (vs ++ [v]))) else none
    | _ => none
  | _, _ => none
theorem mApp : MtA K rAppend gApp := by
  intro m S H x xs v S' u us Q R ru rus e q
  unfold gApp at e
  split at e
  · split at e
    · next n v0 _ vs en =>
      split at e
      · next hl =>
        cases e
        cases ru with
        | ref ha =>
          obtain ⟨y, rfl, r1⟩ := rus.one_of
          obtain ⟨xs, hx, rx⟩ := R.ob _ _ _ en ha
          refine ⟨_, xs, y, rfl, rfl, hx, by rw [rx.len]; exact hl, ?_⟩
          have hm := List.mem_of_getElem? ha
          have k : Kp m H m (upd H _ (.lst (xs ++ [y]))) := R.kput hm
          obtain ⟨R2, E2⟩ := R.put (o := .lst (xs ++ [y])) (b := .lst (vs ++ [v0])) ha ⟨_, upd_same, (rx.kp k).app (r1.kp k).one⟩
          exact q m _ _ E2 R2 .non
      · cases e
    · cases e
  · cases e
def gPop : Val → List Val → Sto → Option (Val × Sto) := fun x xs S => match x, xs with
  | .ref n, [.int i] => match S[n]? with
    | some (.lst vs) => if -(2 ^ 63) ≤ i ∧ i < 2 ^ 63 then match seqIndex? i vs.length with
      | some k => match vs[k]? with
        | some y => some (y, S.set n (.lst (vs.eraseIdx k)))
        | none => none
      | none => none
      else none
    | _ => none
  | _, _ => none
theorem VRs.erase {H : Hp} {m : List Addr} : ∀ {us : List V} {vs : List Val} (n : Nat), VRs K H m us vs → VRs K H m (us.eraseIdx n) (vs.eraseIdx n)
  | _, _, _, .nil => .nil
  | _, _, 0, .cons a q => q
  | _, _, n + 1, .cons a q => .cons a (q.erase n)
theorem mPop : MtA K rPopAt gPop := by
  intro m S H x xs v S' u us Q R ru rus e q
  unfold gPop at e
  split at e
  · split at e
    · next n i _ vs en =>
      split at e
      · next hb =>
        split at e
        · next k ek =>
          split at e
          · next y ey =>
            cases e
            cases ru with
            | ref ha =>
              obtain ⟨z, rfl, r1⟩ := rus.one_of
              cases r1
              obtain ⟨xs, hx, rx⟩ := R.ob _ _ _ en ha
              obtain ⟨w, hw, rw_⟩ := rx.get ey
              refine ⟨_, xs, i, k, w, rfl, rfl, hx, hb.1, hb.2, by rw [rx.len]; exact ek, hw, ?_⟩
              have hm := List.mem_of_getElem? ha
              have kk : Kp m H m (upd H _ (.lst (xs.eraseIdx k))) := R.kput hm
              obtain ⟨R2, E2⟩ := R.put (o := .lst (xs.eraseIdx k)) (b := .lst (vs.eraseIdx k)) ha ⟨_, upd_same, (rx.kp kk).erase k⟩
              exact q m _ _ E2 R2 (rw_.kp kk)
          · cases e
        · cases e
      · cases e
    · cases e
  · cases e
def gSet : Val → Val → Val → Sto → Option Sto := fun o i v S => match o, i with
  | .ref n, .int k => match S[n]? with
    | some (.lst vs) => match ixN vs.length k with
      | some j => some (S.set n (.lst (vs.set j v)))
      | none => none
    | _ => none
  | _, _ => none
theorem stL : SetA K rSetL gSet := by
  intro m S H o i v S' uo ui u Q R ro ri rv e q
  unfold gSet at e
  split at e
  · split at e
    · next n k _ vs en =>
      split at e
      · next j ej =>
        cases e
        cases ri
        cases ro with
        | ref ha =>
          obtain ⟨xs, hx, rx⟩ := R.ob _ _ _ en ha
          have hm := List.mem_of_getElem? ha
          have kk : Kp m H m (upd H _ (.lst (xs.set j u))) := R.kput hm
          obtain ⟨R2, E2⟩ := R.put (o := .lst (xs.set j u)) (b := .lst (vs.set j v)) ha ⟨_, upd_same, (rx.kp kk).set (rv.kp kk) j⟩
          exact ⟨_, xs, k, j, rfl, rfl, hx, by rw [rx.len]; exact ej, q _ E2 R2⟩
      · cases e
    · cases e
  · cases e
def isNon : Val → Bool
  | .non => true
  | _ => false
def gIs : Val → Val → Sto → Option (Val × Sto) := fun x y S => match y with
  | .non => some (.bl (isNon x), S)
  | _ => none
def gIsN : Val → Val → Sto → Option (Val × Sto) := fun x y S => match y with
  | .non => some (.bl (!isNon x), S)
  | _ => none
theorem VR.isNon {H : Hp} {m : List Addr} {u : V} {v : Val} (r : VR K H m u v) : decide (u = .non) = AL.isNon v := by
  cases r <;> rfl
theorem oIs : OpA K (fun x y H Q => y = .non ∧ Q (.bl (decide (x = .non))) H) gIs := by
  intro m S H x y v S' u w Q R ru rw_ e q
  cases y <;> simp only [gIs] at e <;> try cases e
  cases rw_
  exact ⟨rfl, by rw [ru.isNon]; exact q m _ H (.refl _ _) R (.bl _)⟩
end
end AL
namespace Th
open PySem PySem.Spec PyProof.Rows L2 G
def But (f : Addr) (H H' : Hp) : Prop := ∀ b o, b ≠ f → H b = some o → H' b = some o
theorem But.trans {f : Addr} {H H' H2 : Hp} (a : But f H H') (b : But f H' H2) : But f H H2 := fun x o n e => b x o n (a x o n e)
theorem But.of {f : Addr} {H H' : Hp} (a : Same H H') : But f H H' := fun x o _ e => a x o e
mutual
inductive Tr (f : Addr) (H : Hp) : V → PyData → Prop
  | non : Tr f H .non .none
  | bl (b : Bool) : Tr f H (.bl b) (.bool b)
  | int (i : Int) : Tr f H (.int i) (.int i)
  | str (x : Str) : Tr f H (.str x) (.str x)
  | lst {a : Addr} {xs : List V} {ds : List PyData} : a ≠ f → H a = some (.lst xs) → TrAll f H xs ds → Tr f H (.ref a) (.list ds)
  | tup {a : Addr} {xs : List V} {ds : List PyData} : a ≠ f → H a = some (.tup xs) → TrAll f H xs ds → Tr f H (.ref a) (.tuple ds)
inductive TrAll (f : Addr) (H : Hp) : List V → List PyData → Prop
  | nil : TrAll f H [] []
  | cons {v : V} {vs : List V} {d : PyData} {ds : List PyData} : Tr f H v d → TrAll f H vs ds → TrAll f H (v :: vs) (d :: ds)
end
section
variable {f : Addr} {H H' : Hp}
mutual
theorem Tr.keep (k : But f H H') : ∀ (d : PyData) (v : V), Tr f H v d → Tr f H' v d
  | .none, _, h => by cases h; exact .non
  | .bool b, _, h => by cases h; exact .bl _
  | .int i, _, h => by cases h; exact .int _
  | .str x, _, h => by cases h; exact .str _
  | .list ds, _, h => by
    cases h with
    | lst n e r => exact .lst n (k _ _ n e) (TrAll.keep k ds _ r)
  | .tuple ds, _, h => by
    cases h with
    | tup n e r => exact .tup n (k _ _ n e) (TrAll.keep k ds _ r)
  | .dict _, _, h => by cases h
theorem TrAll.keep (k : But f H H') : ∀ (ds : List PyData) (vs : List V), TrAll f H vs ds → TrAll f H' vs ds
  | [], _, h => by cases h; exact .nil
  | d :: ds, _, h => by
    cases h with
    | cons a r => exact .cons (Tr.keep k d _ a) (TrAll.keep k ds _ r)
end
theorem Tr.k {v : V} {d : PyData} (h : Tr f H v d) (k : But f H H') : Tr f H' v d := Tr.keep k d v h
theorem TrAll.k {vs : List V} {ds : List PyData} (h : TrAll f H vs ds) (k : But f H H') : TrAll f H' vs ds := TrAll.keep k ds vs h
mutual
theorem Tr.dpA (K : PySem.W.Frag) : ∀ (d : PyData) (v : V), Tr f H v d → Dp K H v d
  | .none, _, h => by cases h; exact .non
  | .bool b, _, h => by cases h; exact .bl _
  | .int i, _, h => by cases h; exact .int _
  | .str x, _, h => by cases h; exact .str _
  | .list ds, _, h => by
    cases h with
    | lst n e r => exact .lst (SqL.of e) (TrAll.dpA K ds _ r)
  | .tuple ds, _, h => by
    cases h with
    | tup n e r => exact .tup (SqT.of e) (TrAll.dpA K ds _ r)
  | .dict _, _, h => by cases h
theorem TrAll.dpA (K : PySem.W.Frag) : ∀ (ds : List PyData) (vs : List V), TrAll f H vs ds → DpAll K H vs ds
  | [], _, h => by cases h; exact .nil
  | d :: ds, _, h => by
    cases h with
    | cons a r => exact .cons (Tr.dpA K d _ a) (TrAll.dpA K ds _ r)
end
theorem Tr.dp {K : PySem.W.Frag} {v : V} {d : PyData} (h : Tr f H v d) : Dp K H v d := Tr.dpA K d v h
theorem TrAll.dp {K : PySem.W.Frag} {vs : List V} {ds : List PyData} (h : TrAll f H vs ds) : DpAll K H vs ds := TrAll.dpA K ds vs h
theorem TrAll.len : ∀ {vs : List V} {ds : List PyData}, TrAll f H vs ds → vs.length = ds.length
  | _, _, .nil => rfl
  | _, _, .cons _ r => by rw [List.length_cons, List.length_cons, r.len]
theorem TrAll.app : ∀ {vs us : List V} {ds es : List PyData}, TrAll f H vs ds → TrAll f H us es → TrAll f H (vs ++ us) (ds ++ es)
  | _, _, _, _, .nil, r => r
  | _, _, _, _, .cons a q, r => .cons a (q.app r)
theorem TrAll.take : ∀ {vs : List V} {ds : List PyData} (n : Nat), TrAll f H vs ds → TrAll f H (vs.take n) (ds.take n)
  | _, _, 0, _ => .nil
  | _, _, _ + 1, .nil => .nil
  | _, _, n + 1, .cons a r => .cons a (TrAll.take n r)
theorem TrAll.set : ∀ {vs : List V} {ds : List PyData} {v : V} {d : PyData} (n : Nat), TrAll f H vs ds → Tr f H v d → TrAll f H (vs.set n v) (ds.set n d)
  | _, _, _, _, _, .nil, _ => .nil
  | _, _, _, _, 0, .cons _ r, h => .cons h r
  | _, _, _, _, n + 1, .cons a r, h => .cons a (TrAll.set n r h)
theorem Tr.one {v : V} {d : PyData} (h : Tr f H v d) : TrAll f H [v] [d] := .cons h .nil

def ty : PyData → String
  | .none => "NoneType"
  | .bool _ => "bool"
  | .int _ => "int"
  | .str _ => "str"
  | .list _ => "list"
  | .tuple _ => "tuple"
  | .dict _ => "dict"
end
mutual
def okD : PyData → Bool
  | .none => true
  | .bool _ => true
  | .int i => decide (i.natAbs < 2 ^ 900)
  | .str x => PyData.strOk x
  | .list xs => okAll xs
  | .tuple xs => okAll xs
  | .dict _ => false
def okAll : List PyData → Bool
  | [] => true
  | x :: xs => okD x && okAll xs
end
theorem okAll_iff : ∀ {ds : List PyData}, okAll ds = true ↔ ∀ d ∈ ds, okD d = true
  | [] => by simp [okAll]
  | d :: ds => by
    rw [show okAll (d :: ds) = (okD d && okAll ds) from rfl, Bool.and_eq_true, okAll_iff, List.forall_mem_cons]
mutual
theorem ok_show : ∀ d : PyData, okD d = true → d.showable = true ∧ d.hasDict = false ∧ d.canLay0 = true ∧ d.leavesShort 320 = true
  | .none, _ => ⟨rfl, rfl, rfl, rfl⟩
  | .bool _, _ => ⟨rfl, rfl, rfl, rfl⟩
  | .int i, h => by
    have h : i.natAbs < 2 ^ 900 := of_decide_eq_true h
    have l : i.natAbs.log2 < 900 := PySem.Flt.log2_lt_of (by decide) h
    refine ⟨decide_eq_true (by omega), rfl, rfl, ?_⟩
    have t := int_text_length_le10 (a := i) (k := 300) (by decide) (Nat.lt_trans h (by decide))
    show decide ((PyData.shown (.int i)).length ≤ 320) = true
    have e : (PyData.shown (.int i)).length = (toString i).length := by
      show (Str.ofString (toString i)).length = _
      exact PySem.ofString_length _
    rw [e]
    exact decide_eq_true (by omega)
  | .str x, h => by
    refine ⟨rfl, rfl, h, ?_⟩
    show (x.cps.toList.all fun c => decide (c < 16 ^ 8)) = true
    have h2 : x.cps.all (· < 0x110000) = true := h
    rw [List.all_eq_true]
    intro c hc
    have h3 := (Array.all_eq_true_iff_forall_mem.mp h2) c (by simpa using hc)
    have h4 : c < 0x110000 := of_decide_eq_true h3
    exact decide_eq_true (by omega)
  | .list xs, h => ok_showAll xs h
  | .tuple xs, h => ok_showAll xs h
  | .dict _, h => by cases (h : false = true)
theorem ok_showAll : ∀ ds : List PyData, okAll ds = true → PyData.showableAll ds = true ∧ PyData.hasDictAll ds = false ∧ PyData.canLayAll0 ds = true ∧ PyData.leavesShortAll 320 ds = true
  | [], _ => ⟨rfl, rfl, rfl, rfl⟩
  | d :: ds, h => by
    have h : (okD d && okAll ds) = true := h
    rw [Bool.and_eq_true] at h
    obtain ⟨a1, a2, a3, a4⟩ := ok_show d h.1
    obtain ⟨b1, b2, b3, b4⟩ := ok_showAll ds h.2
    refine ⟨?_, ?_, ?_, ?_⟩
    · show (PyData.showable d && PyData.showableAll ds) = true
      rw [a1, b1]; rfl
    · show (PyData.hasDict d || PyData.hasDictAll ds) = false
      rw [a2, b2]; rfl
    · show (PyData.canLay0 d && PyData.canLayAll0 ds) = true
      rw [a3, b3]; rfl
    · show (PyData.leavesShort 320 d && PyData.leavesShortAll 320 ds) = true
      rw [a4, b4]; rfl
end

structure Fine (w n : Nat) (d : PyData) : Prop where
  ok : okD d = true
  wt : d.weight ≤ w
  dp : d.depth ≤ n
theorem Fine.mono {w n w' n' : Nat} {d : PyData} (h : Fine w n d) (h1 : w ≤ w') (h2 : n ≤ n') : Fine w' n' d := ⟨h.ok, Nat.le_trans h.wt h1, Nat.le_trans h.dp h2⟩
theorem Fine.shown {w n : Nat} {d : PyData} (h : Fine w n d) (hw : w ≤ 40000) : d.shown.length ≤ sizeLine := by
  have z := PyData.shown_le 320 (by decide) d (ok_show d h.ok).2.2.2
  have e : sizeLine = 16777216 := rfl
  have := h.wt
  omega
def is_str : PyData → Bool := fun d => match d with | .str _ => true | _ => false
end Th
namespace ZT
open PySem PySem.Spec PyProof.Rows L2
abbrev J1 (h : Heap) (t : Addr) : Heap := h.push { cls := .type "tuple_iterator", data := .fields #[.ref t, .int 0 0] }
abbrev J2 (h : Heap) (t l : Addr) : Heap := (J1 h t).push { cls := .type "list_iterator", data := .fields #[.ref l, .int 0 0] }
abbrev J3 (h : Heap) (t l : Addr) : Heap := (J2 h t l).push { cls := .type "tuple", data := .seq #[.ref h.objs.size, .ref (J1 h t).objs.size] }
abbrev J4 (h : Heap) (t l : Addr) : Heap := (J3 h t l).push { cls := .type "tuple", data := .seq #[.none, .none] }
abbrev J5 (h : Heap) (t l : Addr) : Heap := (J4 h t l).push { cls := .type "zip", data := .fields #[.none, .bool false, .bool false, .ref (J2 h t l).objs.size, .ref (J3 h t l).objs.size] }
theorem new_zipTL (t l : Addr) (xs ys : Array Value) :
    Meets (Builtin.«zip.__new__» ⟨[.type "zip", .ref t, .ref l], []⟩) (fun _ R s => s.heap.IsTuple t xs ∧ s.heap.IsList l ys ∧
      R (.ok (.ret (.ref (J4 s.heap t l).objs.size))) { s with heap := J5 s.heap t l }) :=
  .of_wp fun prog w A R s h => by
    obtain ⟨hp, g, d, tk, os⟩ := s
    obtain ⟨h1, h2, h⟩ := h
    have hsub := sub_zip
    have a1 : Heap.IsTuple (Shared.heap ⟨hp, g, d, tk, os⟩) t xs := h1
    have a2 : Heap.IsList (Shared.heap ⟨J1 hp t, g, d, tk, os⟩) l ys := Heap.IsList.push h2 _
    wp_walk using wpAny_pyIter_tuple a1, wpAny_pyIter_list a2
    exact ⟨_, rfl, h⟩
section
variable {prog : Program} {w : World} {A : Around} {E : Value → Shared → Prop} {s : Shared}
theorem call_zipTL {t l : Addr} {xs ys : Array Value} {Q : Value → Shared → Prop} (h1 : s.heap.IsTuple t xs) (h2 : s.heap.IsList l ys)
    (h : ∀ h', IsZip h' (s.heap.objs.size + 4) (s.heap.objs.size + 2) (s.heap.objs.size + 3) .none → IsTupOf2 h' (s.heap.objs.size + 2) (.ref s.heap.objs.size) (.ref (s.heap.objs.size + 1)) →
      IsTupOf2 h' (s.heap.objs.size + 3) .none .none → h'.IsTupleIter s.heap.objs.size t 0 → h'.IsListIter (s.heap.objs.size + 1) l 0 →
      (∀ c o, s.heap.get? c = some o → h'.get? c = some o) → Q (.ref (s.heap.objs.size + 4)) { s with heap := h' }) :
    wpAny (model prog w) A (call (.type "zip") [.ref t, .ref l]) Q E s := by
  refine callType_new F.called_zip (by decide) (F.typeCall_zip_2 _ _) (F.newCall_zip_2 _ _) (fun obj => F.args_object_init_3 obj _ _) F.entry_zip_new (new_zipTL t l xs ys) ⟨h1, h2, ?_⟩
  have z1 : (J1 s.heap t).objs.size = s.heap.objs.size + 1 := Heap.size_push ..
  have z2 : (J2 s.heap t l).objs.size = s.heap.objs.size + 2 := by rw [Heap.size_push, z1]
  have z3 : (J3 s.heap t l).objs.size = s.heap.objs.size + 3 := by rw [Heap.size_push, z2]
  have z4 : (J4 s.heap t l).objs.size = s.heap.objs.size + 4 := by rw [Heap.size_push, z3]
  have up : ∀ {k : Heap} {c : Addr} {o p : Obj}, k.get? c = some o → (k.push p).get? c = some o := fun e => Heap.get?_push_of_some _ e
  have g5 : (J5 s.heap t l).get? (J4 s.heap t l).objs.size = some _ := Heap.get?_push_size _ rfl
  have g4 : (J5 s.heap t l).get? (J3 s.heap t l).objs.size = some _ := up (Heap.get?_push_size _ rfl)
  have g3 : (J5 s.heap t l).get? (J2 s.heap t l).objs.size = some _ := up (up (Heap.get?_push_size _ rfl))
  have g2 : (J5 s.heap t l).get? (J1 s.heap t).objs.size = some _ := up (up (up (Heap.get?_push_size _ rfl)))
  have g1 : (J5 s.heap t l).get? s.heap.objs.size = some _ := up (up (up (up (Heap.get?_push_size _ rfl))))
  show _ ∧ _
  rw [z2, z3, z4] at g5
  rw [z1, z2] at g3
  rw [z3] at g4
  rw [z1] at g2
  rw [z4]
  exact ⟨⟨_, g5, rfl⟩, h _ g5 g3 g4 ⟨_, g1, rfl, rfl⟩ ⟨_, g2, rfl, rfl⟩ fun c o x => up (up (up (up (up x))))⟩
end

def ItzTL (K : PySem.W.Frag) (a b : Addr) : It where
  go := fun i H => ∃ (xs ys : List V) (x y : V), SqT K H a xs ∧ SqL K H b ys ∧ xs[i]? = some x ∧ ys[i]? = some y
  yld := fun i H v H' => ∃ T x y, v = .ref T ∧ H T = none ∧ H' = upd H T (.tup [x, y]) ∧ (∀ xs, SqT K H a xs → xs[i]? = some x) ∧ ∀ ys, SqL K H b ys → ys[i]? = some y
  stop := fun i H => ∃ xs ys : List V, SqT K H a xs ∧ SqL K H b ys ∧ xs.length = i ∧ ys.length = i
structure Ap (z TI TO i1 i2 a b : Addr) : Prop where
  sep : ZipSep2 z TI TO i1 i2 [i1, a] [i2, b]
  a1 : a ≠ i1
  b2 : b ≠ i2
theorem turn_zipTL {P : Program} {w : World} {K : PySem.W.Frag} {elts : List Expr} {kk : Nat} {tpos : Pos} {a b z TI TO i1 i2 : Addr} (D : Ap z TI TO i1 i2 a b) :
    Turn P w K (.Tuple elts kk tpos) (ItzTL K a b) [z, TI, TO, i1, i2] z (fun i h => IsZip h z TI TO .none ∧ IsTupOf2 h TI (.ref i1) (.ref i2) ∧ (∃ x y, IsTupOf2 h TO x y) ∧ h.IsTupleIter i1 a i ∧ h.IsListIter i2 b i) where
  mem := by simp
  obj := by
    rintro i h ⟨hz, hTI, ⟨x, y, hTO⟩, ⟨o1, e1, _, d1⟩, ⟨o2, e2, _, d2⟩⟩ c hc
    simp only [List.mem_cons, List.not_mem_nil, or_false] at hc
    rcases hc with rfl | rfl | rfl | rfl | rfl
    · exact ⟨_, hz, fun v q => nomatch q⟩
    · exact ⟨_, hTI, fun v q => nomatch q⟩
    · exact ⟨_, hTO, fun v q => nomatch q⟩
    · exact ⟨o1, e1, fun v q => by rw [d1] at q; cases q⟩
    · exact ⟨o2, e2, fun v q => by rw [d2] at q; cases q⟩
  keep := by
    rintro i h h' ⟨hz, hTI, ⟨x, y, hTO⟩, h1, h2⟩ k
    exact ⟨k z (by simp) _ hz, k TI (by simp) _ hTI, ⟨x, y, k TO (by simp) _ hTO⟩, h1.at fun o q => k i1 (by simp) o q, h2.at fun o q => k i2 (by simp) o q⟩
  item := by
    intro X hP hw hK hc i pins s σ H E I hf st hg
    subst hP hw hK
    obtain ⟨hz, hTI, ⟨x0, y0, hTO⟩, h1, h2⟩ := st
    obtain ⟨xs, ys, x, y, hqx, hqy, hx, hy⟩ := hg
    obtain ⟨its, rv, p, _⟩ := I.tuple hqx
    obtain ⟨its2, rv2, p2, _⟩ := I.list hqy
    obtain ⟨u, hu, ru⟩ := rv.get hx
    obtain ⟨u2, hu2, ru2⟩ := rv2.get hy
    have lz : z < s.heap.objs.size := Heap.lt_size hz
    have n1 : i < its.toArray.size := by simpa using (List.getElem?_eq_some_iff.mp hu).1
    have n2 : i < its2.toArray.size := by simpa using (List.getElem?_eq_some_iff.mp hu2).1
    refine wpAny_pyNext_zipD2_item D.sep (Draws.tuple (A := X.A.in1) (I.ok.hd hc) i1 a D.a1 its.toArray) (Draws.list (A := X.A.in1) (I.ok.hd hc) i2 b D.b2 its2.toArray) hz hTI hTO ⟨h1, p⟩ ⟨h2, p2.isList⟩ n1 n2 fun v1 v2 h' tk q1 q2 z' TO' s1 s2 hT hsz hk => ?_
    have e1 : v1 = u := by
      have a1 : its.toArray[i]? = some v1 := q1
      have a2 : its.toArray[i]? = some u := by simpa using hu
      rw [a2] at a1
      exact (Option.some.inj a1).symm
    have e2 : v2 = u2 := by
      have a1 : its2.toArray[i]? = some v2 := q2
      have a2 : its2.toArray[i]? = some u2 := by simpa using hu2
      rw [a2] at a1
      exact (Option.some.inj a1).symm
    subst e1 e2
    refine ⟨_, rfl, wpAny_letOwnedTupleGo_zip (s := { s with heap := h', toks := tk }) z' fun h'' z'' sb => ?_⟩
    have nw : h''.get? s.heap.objs.size = some { cls := .type "tuple", data := .seq #[v1, v2] } := (sb.2 _ (Nat.ne_of_gt lz)).trans hT
    have I1 : Inv X pins σ (upd H s.heap.objs.size (.tup [x, y])) { s with heap := h'', toks := tk } := by
      refine I.turnedNew (t' := tk) (ch := [z, TI, TO, i1, i2]) (fun c o hb q => ?_) hf (Nat.le_refl _) ⟨by show 2 ≤ sizeLine; decide, [v1, v2], .cons ru (.cons ru2 .nil), ⟨_, nw, rfl, _, rfl⟩⟩
      have c1 : c ≠ z := fun z => hb (by simp [z])
      have c2 : c ≠ TO := fun z => hb (by simp [z])
      have c3 : c ≠ i1 := fun z => hb (by simp [z])
      have c4 : c ≠ i2 := fun z => hb (by simp [z])
      exact (sb.2 c c1).trans (hk c o c1 c2 c3 c4 q)
    refine ⟨.ref s.heap.objs.size, _, I1, rfl, ⟨_, x, y, rfl, I.hok.fresh (Nat.le_refl _), rfl, fun l hl => by rw [I.tuple_inj hl hqx]; exact hx, fun l hl => by rw [I.list_inj hl hqy]; exact hy⟩, ⟨z'', ?_, ⟨v1, v2, ?_⟩, ?_, ?_⟩, fun c hcm => ?_⟩
    · exact (sb.2 _ D.sep.TIz).trans (hk _ _ D.sep.TIz D.sep.TITO D.sep.TIi1 D.sep.TIi2 hTI)
    · exact (sb.2 _ D.sep.TOz).trans TO'
    · exact s1.1.at fun o q => (sb.2 _ D.sep.zi1.symm).trans q
    · exact s2.1.at fun o q => (sb.2 _ D.sep.zi2.symm).trans q
    · have lc : c < s.heap.objs.size := by
        simp only [List.mem_cons, List.not_mem_nil, or_false] at hcm
        rcases hcm with rfl | rfl | rfl | rfl | rfl
        · exact lz
        · exact Heap.lt_size hTI
        · exact Heap.lt_size hTO
        · obtain ⟨_, e1, _⟩ := h1
          exact Heap.lt_size e1
        · obtain ⟨_, e2, _⟩ := h2
          exact Heap.lt_size e2
      rw [upd_ne (Nat.ne_of_lt lc)]
      exact (hf c hcm).1
  done := by
    intro X hP hw hK hc i pins s σ H E I hf st hg
    subst hP hw hK
    obtain ⟨hz, hTI, ⟨x0, y0, hTO⟩, h1, h2⟩ := st
    obtain ⟨xs, ys, hqx, hqy, l1, l2⟩ := hg
    obtain ⟨its, rv, p, _⟩ := I.tuple hqx
    obtain ⟨its2, rv2, p2, _⟩ := I.list hqy
    have n1 : i = its.toArray.size := by rw [← l1, rv.length]; simp
    have n2 : i = its2.toArray.size := by rw [← l2, rv2.length]; simp
    refine wpAny_pyNext_zipD2_end D.sep (Draws.tuple (A := X.A.in1) (I.ok.hd hc) i1 a D.a1 its.toArray) (Draws.list (A := X.A.in1) (I.ok.hd hc) i2 b D.b2 its2.toArray) hz hTI hTO ⟨h1, p⟩ ⟨h2, p2.isList⟩ (Nat.le_of_eq n1) (Nat.le_of_eq n2) (.inl n1) fun h' tk hk => ⟨rfl, ?_⟩
    refine I.turnedL (t' := tk) (ch := [z, TI, TO, i1, i2]) (fun c o hb q => ?_) hf
    exact hk c o (fun q' => hb (by simp [q'])) (fun q' => hb (by simp [q'])) (fun q' => hb (by simp [q'])) (fun q' => hb (by simp [q'])) q
  self := fun A i s Q E st h => wpAny_pyIter_zip st.1 h
theorem notin {x a b : Addr} (h1 : x ≠ a) (h2 : x ≠ b) : x ∉ [a, b] := fun z => by
  simp only [List.mem_cons, List.not_mem_nil, or_false] at z
  exact z.elim h1 h2
def iZipTL (K : PySem.W.Frag) (ta : TA) : TI := fun σ H R => ta σ H fun vs H1 => ∃ a b xs ys, vs = [.ref a, .ref b] ∧ SqT K H1 a xs ∧ SqL K H1 b ys ∧ R (ItzTL K a b) H1
theorem pi_zipTL {X : Cx} {e e2 : Expr} {ta : TA} {p pos tpos : Pos} {elts : List Expr} {kk : Nat} (hg : Gl X "zip") (hm : X.mg "zip" = none) (ha : PA X [e, e2] ta)
    (hs : starEach [e, e2] X.env = (false, eval e X.env) :: starEach [e2] X.env := by rfl) (hpl : (backTo pos (starEach [e2] X.env)).any (·.1) = false := by rfl) :
    PI X (.Tuple elts kk tpos) (.Call (.Name "zip" p) [e, e2] [] pos) (iZipTL X.K ta) := by
  constructor
  intro pins s σ H R I h
  refine Call_ (ld_blt I hg hm PyProof.Rows.boot_zip (PyProof.Rows.callWith_type1 (thn (ha.run pos pins s σ H _ I h) ?_) hs hpl))
  rintro us s1 ⟨vs, H1, I1, r1, a, b, xs, ys, rfl, hqx, hqy, q⟩
  obtain ⟨u, v, rfl, ru, rv'⟩ := vals2 r1
  cases ru
  cases rv'
  obtain ⟨its, rv, p1, _⟩ := I1.tuple hqx
  obtain ⟨its2, rv2, p2, _⟩ := I1.list hqy
  have la : a < s1.heap.objs.size := by
    obtain ⟨o, ho, _⟩ := p1
    exact Heap.lt_size ho
  have lb : b < s1.heap.objs.size := by
    obtain ⟨o, n, ho, _⟩ := p2
    exact Heap.lt_size ho
  generalize hN : s1.heap.objs.size = N at la lb
  refine call_zipTL p1 p2.isList fun h' hz hTI hTO h1 h2 hk => wpAny_pyIter_zip hz ?_
  rw [hN] at hz hTI hTO h1 h2 ⊢
  have D : Ap (N + 4) (N + 2) (N + 3) N (N + 1) a b := by
    have big : ∀ {c : Addr} (k : Nat), c < N → N + k ≠ c := fun k h => Nat.ne_of_gt (Nat.lt_of_lt_of_le h (Nat.le_add_right _ _))
    have dif : ∀ {k m : Nat}, k ≠ m → N + k ≠ N + m := fun h z => h (Nat.add_left_cancel z)
    have dif0 : ∀ {k : Nat}, 0 < k → N + k ≠ N := fun h => Nat.ne_of_gt (Nat.lt_add_of_pos_right h)
    exact ⟨⟨dif (by decide), dif (by decide), dif (by decide), dif0 (by decide), by simp, notin (dif0 (by decide)) (big 4 la), notin (dif0 (by decide)) (big 3 la), dif (by decide), by simp, notin (dif (by decide)) (big 4 lb), notin (dif (by decide)) (big 3 lb),
      notin (dif0 (by decide)).symm (big 0 lb), notin (dif0 (by decide)) (big 1 la)⟩, Nat.ne_of_lt la, Nat.ne_of_lt (Nat.lt_succ_of_lt lb)⟩
  refine ⟨N + 4, [N + 4, N + 2, N + 3, N, N + 1], _, _, H1, rfl, I1.kept (t' := s1.toks) hk, turn_zipTL D, ⟨hz, hTI, ⟨_, _, hTO⟩, h1, h2⟩, fun c hc => ?_, q⟩
  have le : s1.heap.objs.size ≤ c := by
    rw [hN]
    simp only [List.mem_cons, List.not_mem_nil, or_false] at hc
    rcases hc with rfl | rfl | rfl | rfl | rfl
    · exact Nat.le_add_right _ _
    · exact Nat.le_add_right _ _
    · exact Nat.le_add_right _ _
    · exact Nat.le_refl _
    · exact Nat.le_add_right _ _
  exact I1.fpOk le (I1.hok.fresh le)
end ZT
namespace AL
open PySem PySem.Spec PyProof.Rows L2 G Th
variable [TT]
def mapO {α β : Type} (f : α → Option β) : List α → Option (List β)
  | [] => some []
  | a :: as => (f a).bind fun b => (mapO f as).bind fun bs => some (b :: bs)
def toD (S : Sto) : Nat → Val → Option PyData
  | 0, _ => none
  | n + 1, v => match v with
    | .non => some .none
    | .bl b => some (.bool b)
    | .int i => some (.int i)
    | .str x => some (.str x)
    | .tup vs => (mapO (toD S n) vs).map .tuple
    | .ref k => match S[k]? with
      | some (.lst vs) => (mapO (toD S n) vs).map .list
      | _ => none
    | .scr _ => none
    | .lam _ _ _ _ _ => none
    | .exc _ _ _ _ => none
    | .ptu _ => none
section
variable {X : Cx} {K : PySem.W.Frag}
theorem toD_dp {m : List Addr} {S : Sto} {H : Hp} (R : Rel K m S H) : ∀ (n : Nat) (v : Val) (u : V) (d : PyData), VR K H m u v → toD S n v = some d → Dp K H u d
  | 0, _, _, _, _, h => by cases h
  | n + 1, v, u, d, r, h => by
    have go : ∀ (vs : List Val) (us : List V) (ds : List PyData), VRs K H m us vs → mapO (toD S n) vs = some ds → DpAll K H us ds := by
      intro vs
      induction vs with
      | nil =>
        intro us ds r h
        cases r
        cases h
        exact .nil
      | cons v vs ih =>
        intro us ds r h
        cases r with
        | cons a b =>
          obtain ⟨d1, h1, h⟩ := Option.bind_eq_some_iff.mp h
          obtain ⟨ds1, h2, h⟩ := Option.bind_eq_some_iff.mp h
          cases h
          exact .cons (toD_dp R n v _ d1 a h1) (ih _ _ b h2)
    unfold toD at h
    split at h
    · cases h; cases r; exact .non
    · cases h; cases r; exact .bl _
    · cases h; cases r; exact .int _
    · cases h; cases r; exact .str _
    · obtain ⟨ds, h1, h2⟩ := Option.map_eq_some_iff.mp h
      cases h2
      cases r with
      | tup ha ra => exact .tup ha.sq (go _ _ _ ra h1)
    · split at h
      · next k _ vs en =>
        obtain ⟨ds, h1, h2⟩ := Option.map_eq_some_iff.mp h
        cases h2
        cases r with
        | ref ha =>
          obtain ⟨xs, hx, rx⟩ := R.ob _ _ _ en ha
          exact .lst (SqL.of hx) (go _ _ _ rx h1)
      · cases h
    · cases h
    · cases h
    · cases h
    · cases h
open Classical in
noncomputable def gRepr : List Val → Sto → Option (Val × Sto) := fun xs S => match xs with
  | [v] => match toD S 40 v with
    | some d => if okD d = true ∧ d.weight ≤ 40000 ∧ d.depth ≤ 40 then some (.str d.shown, S) else none
    | none => none
  | _ => none
def rReprA (K : PySem.W.Frag) : List V → Hp → VK → Prop := fun xs H Q => ∃ (v : V) (d : PyData) (w n : Nat), xs = [v] ∧ Dp K H v d ∧ Fine w n d ∧ w ≤ 40000 ∧ n ≤ 40 ∧ Q (.str d.shown) H
theorem call_reprA (hg : X.A.guards = some []) (hu : X.A.units + 64 < cLine) : CallR X (.builtin "repr") (rReprA X.K) := by
  intro pins s σ H xs us Q I r h
  obtain ⟨v, d, w, n, rfl, hT, hF, hw, hn, q⟩ := h
  obtain ⟨u, rfl, ru⟩ := r.one
  obtain ⟨o1, o2, o3, o4⟩ := ok_show d hF.ok
  have sz := hF.shown hw
  obtain ⟨as, rd⟩ := Dp.reads I d _ _ hT ru
  have e1 : ∀ a, u = .ref a → wpAny (model X.prog X.w) X.A (call (.builtin "repr") [u]) (EP X pins σ Q) X.xe s := by
    rintro a rfl
    refine repr_of_reads' rd o1 (fun z => ?_) hg (by have := hF.dp; omega) (fun b o e => e) (fun h' t tk hk => ?_) sz
    · rw [o2] at z
      cases z
    · exact ⟨.str d.shown, H, I.kept hk, ⟨t, rfl⟩, q⟩
  cases hT with
  | non => cases ru; exact PySem.P.repr_of_none ⟨.str _, H, I.tok _, ⟨_, rfl⟩, q⟩
  | bl b => cases ru; exact PySem.P.repr_of_bool ⟨.str _, H, I.tok _, ⟨_, rfl⟩, q⟩
  | int i =>
    obtain ⟨t, rfl⟩ := ru
    exact PySem.P.repr_of_int (of_decide_eq_true o1) ⟨.str _, H, I.tok _, ⟨_, rfl⟩, q⟩
  | str x =>
    obtain ⟨t, rfl⟩ := ru
    exact PySem.P.repr_of_str ⟨.str _, H, I.tok _, ⟨_, rfl⟩, q⟩ sz
  | lst _ _ => cases ru; exact e1 _ rfl
  | tup _ _ => cases ru; exact e1 _ rfl
theorem cRepr : CaA K (rReprA K) gRepr := by
  intro m S H xs v S' us Q R ru e q
  unfold gRepr at e
  split at e
  · split at e
    · next v0 d ed =>
      split at e
      · next hok =>
        cases e
        obtain ⟨u, rfl, r1⟩ := ru.one_of
        exact ⟨u, d, d.weight, d.depth, rfl, toD_dp R 40 _ u d r1 ed, ⟨hok.1, Nat.le_refl _, Nat.le_refl _⟩, hok.2.1, hok.2.2, q m _ H (.refl _ _) R (.str _)⟩
      · cases e
    · cases e
  · cases e
def eqS : Val → Val → Option Bool
  | .int a, .int b => some (decide (a = b))
  | .str a, .str b => some (decide (a = b))
  | .bl a, .bl b => some (decide (a = b))
  | .non, .non => some true
  | .non, .int _ => some false
  | .int _, .non => some false
  | .non, .str _ => some false
  | .str _, .non => some false
  | .non, .bl _ => some false
  | .bl _, .non => some false
  | .int _, .str _ => some false
  | .str _, .int _ => some false
  | .str _, .bl _ => some false
  | .bl _, .str _ => some false
  | _, _ => none
def eqA (S : Sto) (x y : Val) : Option Bool := match eqS x y with
  | some b => some b
  | none => match toD S 40 x, toD S 40 y with
    | some d, some e => if SeqAt.shaped d = true ∧ SeqAt.shaped e = true then some (PyData.eqv d e) else none
    | _, _ => none
def gEq : Val → Val → Sto → Option (Val × Sto) := fun x y S => (eqA S x y).map fun b => (.bl b, S)
def gNe : Val → Val → Sto → Option (Val × Sto) := fun x y S => (eqA S x y).map fun b => (.bl (!b), S)
theorem eqS_ok {H : Hp} {m : List Addr} {x y : Val} {u w : V} {b : Bool} (ru : VR K H m u x) (rw_ : VR K H m w y) (h : eqS x y = some b) : scal u w = true ∧ decide (u = w) = b := by
  unfold eqS at h
  split at h <;> first | cases h | skip
  all_goals first
    | (cases ru; cases rw_; refine ⟨rfl, ?_⟩; simp)
    | skip
def rEqA (K : PySem.W.Frag) : R2 := fun x y H Q => rEq x y H Q ∨ rEqD K x y H Q
def rNeA (K : PySem.W.Frag) : R2 := fun x y H Q => rNe x y H Q ∨ rNeD K x y H Q
theorem op_eqA (hu : X.A.units + 64 < cLine) : OpR X (compareOp .Eq) (rEqA X.K) := op_eq.or (op_eqD hu)
theorem op_neA (hu : X.A.units + 64 < cLine) : OpR X (compareOp .NotEq) (rNeA X.K) := op_ne.or (op_neD hu)
theorem oEq : OpA K (rEqA K) gEq := by
  intro m S H x y v S' u w Q R ru rw_ e q
  obtain ⟨b, e1, e2⟩ := Option.map_eq_some_iff.mp e
  cases e2
  unfold eqA at e1
  split at e1
  · next b' es =>
    cases e1
    obtain ⟨h1, h2⟩ := eqS_ok ru rw_ es
    exact .inl ⟨h1, by rw [h2]; exact q m _ H (.refl _ _) R (.bl _)⟩
  · split at e1
    · next d1 d2 g1 g2 =>
      split at e1
      · next hs =>
        cases e1
        exact .inr ⟨d1, d2, toD_dp R 40 _ _ _ ru g1, toD_dp R 40 _ _ _ rw_ g2, hs.1, hs.2, q m _ H (.refl _ _) R (.bl _)⟩
      · cases e1
    · cases e1
theorem oNe : OpA K (rNeA K) gNe := by
  intro m S H x y v S' u w Q R ru rw_ e q
  obtain ⟨b, e1, e2⟩ := Option.map_eq_some_iff.mp e
  cases e2
  unfold eqA at e1
  split at e1
  · next b' es =>
    cases e1
    obtain ⟨h1, h2⟩ := eqS_ok ru rw_ es
    exact .inl ⟨h1, by rw [h2]; exact q m _ H (.refl _ _) R (.bl _)⟩
  · split at e1
    · next d1 d2 g1 g2 =>
      split at e1
      · next hs =>
        cases e1
        exact .inr ⟨d1, d2, toD_dp R 40 _ _ _ ru g1, toD_dp R 40 _ _ _ rw_ g2, hs.1, hs.2, q m _ H (.refl _ _) R (.bl _)⟩
      · cases e1
    · cases e1
def iSeq (f : EF) : IF := fun ρ S => (f ρ S).bind fun p => match p.1 with
  | .tup vs => some (vs, fun _ => True, p.2)
  | .ref n => match p.2[n]? with
    | some (.lst vs) => some (vs, fun S => S[n]? = some (.lst vs), p.2)
    | _ => none
  | _ => none
theorem it_tup {a : Addr} {m0 : List Addr} {H0 : Hp} {xs : List V} {vs : List Val} {S0 : Sto} (R0 : Rel K m0 S0 H0) (ha : TupAt K H0 a xs) (r : VRs K H0 m0 xs vs) : ItA K (Itt K a) m0 H0 vs (fun _ => True) := by
  refine ⟨fun i m S H E R _ v hv => ?_, fun m S H E R _ => ?_⟩
  · have k := E.kp R0
    obtain ⟨u, hu, ru⟩ := (r.kp k).get hv
    refine ⟨⟨xs, u, (ha.kp k).sq, hu⟩, fun x H' hy => ?_⟩
    obtain ⟨rfl, hx⟩ := hy
    have e := hx xs (ha.kp k).sq
    rw [hu] at e
    cases e
    exact ⟨R, .refl _ _, ru⟩
  · exact ⟨xs, (ha.kp (E.kp R0)).sq, by rw [r.len]; exact Nat.le_refl _⟩
theorem it_lst {n : Nat} {a : Addr} {m0 : List Addr} {H0 : Hp} {vs : List Val} (hn : m0[n]? = some a) : ItA K (Itl K a) m0 H0 vs (fun S => S[n]? = some (.lst vs)) := by
  have get : ∀ {m : List Addr} {S : Sto} {H : Hp}, Ext m0 H0 m H → Rel K m S H → S[n]? = some (.lst vs) → ∃ xs, H a = some (.lst xs) ∧ VRs K H m xs vs := fun {m S H} E R h => by
    have hm : m[n]? = some a := by
      obtain ⟨r, rfl⟩ := E.pre
      rw [List.getElem?_append_left (List.getElem?_eq_some_iff.mp hn).1]
      exact hn
    exact R.ob _ _ _ h hm
  refine ⟨fun i m S H E R ok v hv => ?_, fun m S H E R ok => ?_⟩
  · obtain ⟨xs, hx, rx⟩ := get E R ok
    obtain ⟨u, hu, ru⟩ := rx.get hv
    refine ⟨⟨xs, u, SqL.of hx, hu⟩, fun x H' hy => ?_⟩
    obtain ⟨rfl, hq⟩ := hy
    have e := hq xs (SqL.of hx)
    rw [hu] at e
    cases e
    exact ⟨R, .refl _ _, ru⟩
  · obtain ⟨xs, hx, rx⟩ := get E R ok
    exact ⟨xs, SqL.of hx, by rw [rx.len]; exact Nat.le_refl _⟩
theorem ais {tg e : Expr} {f : EF} (he : AE X e f) : AI X tg e (iSeq f) := pi_w (PI.or (pi_tup he) (pi_list he)) fun σ H W h => by
  obtain ⟨m, ρ, S, vs, ok, S', R, r, e, q⟩ := h
  obtain ⟨⟨x, S1⟩, e1, e⟩ := Option.bind_eq_some_iff.mp e
  dsimp only at e
  split at e
  · cases e
    refine .inl ⟨m, ρ, S, _, _, R, r, e1, fun m1 u H1 E1 R1 r1 => ?_⟩
    cases r1 with
    | tup ha ra => exact ⟨_, rfl, ⟨_, ha.sq⟩, q m1 H1 _ E1 R1 (it_tup R1 ha ra)⟩
  · split at e
    · next n _ vs' en =>
      cases e
      refine .inr ⟨m, ρ, S, _, _, R, r, e1, fun m1 u H1 E1 R1 r1 => ?_⟩
      cases r1 with
      | ref ha =>
        obtain ⟨xs, hx, rx⟩ := R1.ob _ _ _ en ha
        exact ⟨_, rfl, ⟨_, SqL.of hx⟩, q m1 H1 _ E1 R1 (it_lst ha)⟩
    · cases e
  · cases e

def rangeV (lo : Int) (n : Nat) : List Val := (List.range n).map fun (k : Nat) => .int (lo + (k : Int))
def iRg1 (ga : AF) : IF := fun ρ S => (ga ρ S).bind fun p => match p.1 with
  | [.int j] => if -(2 ^ 62) ≤ j ∧ j < 2 ^ 62 then some (rangeV 0 j.toNat, fun _ => True, p.2) else none
  | _ => none
def iRg2 (ga : AF) : IF := fun ρ S => (ga ρ S).bind fun p => match p.1 with
  | [.int i, .int j] => if -(2 ^ 62) ≤ i ∧ i < 2 ^ 62 ∧ -(2 ^ 62) ≤ j ∧ j < 2 ^ 62 then some (rangeV i (j - i).toNat, fun _ => True, p.2) else none
  | _ => none
theorem it_rg {lo : Int} {n : Nat} {m0 : List Addr} {H0 : Hp} : ItA K (Itr lo n) m0 H0 (rangeV lo n) (fun _ => True) := by
  refine ⟨fun i m S H E R _ v hv => ?_, fun m S H E R _ => ?_⟩
  · unfold rangeV at hv
    rw [List.getElem?_map] at hv
    obtain ⟨k, hk, rfl⟩ := Option.map_eq_some_iff.mp hv
    obtain ⟨l, rfl⟩ := List.getElem?_eq_some_iff.mp hk
    rw [List.length_range] at l
    refine ⟨l, fun x H' hy => ?_⟩
    obtain ⟨rfl, rfl⟩ := hy
    rw [List.getElem_range]
    exact ⟨R, .refl _ _, .int _⟩
  · show n ≤ (rangeV lo n).length
    simp [rangeV]
theorem air1 {tg a : Expr} {ga : AF} {p pos : Pos} (hg : Gl X "range") (hm : X.mg "range" = none) (ha : AA X [a] ga) (hs : starEach [a] X.env = [(false, eval a X.env)] := by rfl) : AI X tg (.Call (.Name "range" p) [a] [] pos) (iRg1 ga) := pi_w (pi_range1 hg hm ha hs) fun σ H W h => by
  obtain ⟨m, ρ, S, vs, ok, S', R, r, e, q⟩ := h
  obtain ⟨⟨x, S1⟩, e1, e⟩ := Option.bind_eq_some_iff.mp e
  dsimp only at e
  split at e
  · split at e
    · next hb =>
      cases e
      refine ⟨m, ρ, S, _, _, R, r, e1, fun m1 us H1 E1 R1 r1 => ?_⟩
      obtain ⟨u, rfl, r2⟩ := r1.one_of
      cases r2
      exact ⟨_, rfl, hb.1, hb.2, q m1 H1 _ E1 R1 it_rg⟩
    · cases e
  · cases e
theorem air2 {tg a b : Expr} {ga : AF} {p pos : Pos} (hg : Gl X "range") (hm : X.mg "range" = none) (ha : AA X [a, b] ga) (hs : starEach [a, b] X.env = [(false, eval a X.env), (false, eval b X.env)] := by rfl) (hs2 : starEach [b] X.env = [(false, eval b X.env)] := by rfl) : AI X tg (.Call (.Name "range" p) [a, b] [] pos) (iRg2 ga) := pi_w (pi_range2 hg hm ha hs hs2) fun σ H W h => by
  obtain ⟨m, ρ, S, vs, ok, S', R, r, e, q⟩ := h
  obtain ⟨⟨x, S1⟩, e1, e⟩ := Option.bind_eq_some_iff.mp e
  dsimp only at e
  split at e
  · split at e
    · next hb =>
      cases e
      refine ⟨m, ρ, S, _, _, R, r, e1, fun m1 us H1 E1 R1 r1 => ?_⟩
      match us, r1 with
      | [_, _], .cons (.int i) (.cons (.int j) .nil) => exact ⟨_, _, rfl, hb, q m1 H1 _ E1 R1 it_rg⟩
    · cases e
  · cases e

def enumV (vs : List Val) : List Val := vs.zipIdx.map fun p => .tup [.int (p.2 : Nat), p.1]
def iEn (ga : AF) : IF := fun ρ S => (ga ρ S).bind fun p => match p.1 with
  | [.tup vs] => some (enumV vs, fun _ => True, p.2)
  | [.ref n] => match p.2[n]? with
    | some (.lst vs) => some (enumV vs, fun S => S[n]? = some (.lst vs), p.2)
    | _ => none
  | _ => none
theorem yl_new {m : List Addr} {S : Sto} {H : Hp} (R : Rel K m S H) {T : Addr} {xs : List V} {vs : List Val} (h : H T = none) (r : VRs K H m xs vs) : Rel K m S (upd H T (.tup xs)) ∧ Ext m H m (upd H T (.tup xs)) ∧ VR K (upd H T (.tup xs)) m (.ref T) (.tup vs) := by
  obtain ⟨R2, E2⟩ := R.tmp (o := .tup xs) h
  exact ⟨R2, E2, .tup (.inl upd_same) (r.kp (E2.kp R))⟩

def zipV (vs ws : List Val) : List Val := (vs.zip ws).map fun p => .tup [p.1, p.2]
theorem zipV_get {vs ws : List Val} {i : Nat} {v : Val} (h : (zipV vs ws)[i]? = some v) : ∃ x y, vs[i]? = some x ∧ ws[i]? = some y ∧ v = .tup [x, y] := by
  unfold zipV at h
  rw [List.getElem?_map] at h
  obtain ⟨p, hp, rfl⟩ := Option.map_eq_some_iff.mp h
  obtain ⟨h1, h2⟩ := List.getElem?_zip_eq_some.mp hp
  exact ⟨_, _, h1, h2, rfl⟩
def iZp (ga : AF) : IF := fun ρ S => (ga ρ S).bind fun p => match p.1 with
  | [.tup vs, .tup ws] => some (zipV vs ws, fun _ => True, p.2)
  | [.tup vs, .ref n] => match p.2[n]? with
    | some (.lst ws) => if vs.length = ws.length then some (zipV vs ws, fun S => S[n]? = some (.lst ws), p.2) else none
    | _ => none
  | [.ref k, .ref n] => match p.2[k]?, p.2[n]? with
    | some (.lst vs), some (.lst ws) => some (zipV vs ws, fun S => S[k]? = some (.lst vs) ∧ S[n]? = some (.lst ws), p.2)
    | _, _ => none
  | _ => none
theorem lst_get {m1 m : List Addr} {S : Sto} {H H1 : Hp} {n : Nat} {ad : Addr} {vs0 : List Val} (ha : m1[n]? = some ad) (E : Ext m1 H1 m H) (R : Rel K m S H) (h : S[n]? = some (.lst vs0)) : ∃ xs, H ad = some (.lst xs) ∧ VRs K H m xs vs0 := by
  have hm : m[n]? = some ad := by
    obtain ⟨r, rfl⟩ := E.pre
    rw [List.getElem?_append_left (List.getElem?_eq_some_iff.mp ha).1]
    exact ha
  exact R.ob _ _ _ h hm
theorem aiz {e e2 : Expr} {ga : AF} {p pos tpos : Pos} {elts : List Expr} {kk : Nat} (hg : Gl X "zip") (hm : X.mg "zip" = none) (ha : AA X [e, e2] ga)
    (hs : starEach [e, e2] X.env = (false, eval e X.env) :: starEach [e2] X.env := by rfl) (hpl : (backTo pos (starEach [e2] X.env)).any (·.1) = false := by rfl) :
    AI X (.Tuple elts kk tpos) (.Call (.Name "zip" p) [e, e2] [] pos) (iZp ga) := pi_w (PI.or (RZ.pi_zipA hg hm ha hs hpl) (ZT.pi_zipTL hg hm ha hs hpl)) fun σ H W h => by
  obtain ⟨m, ρ, S, vs, ok, S', R, r, e, q⟩ := h
  obtain ⟨⟨x, S1⟩, e1, e⟩ := Option.bind_eq_some_iff.mp e
  dsimp only at e
  split at e
  · next vs0 ws0 =>
    cases e
    refine .inl ⟨m, ρ, S, _, _, R, r, e1, fun m1 us H1 E1 R1 r1 => ?_⟩
    match us, r1 with
    | [.ref a, .ref b], .cons (.tup (xs := xs) ha ra) (.cons (.tup (xs := ys) hb rb) .nil) =>
      refine ⟨a, b, xs, ys, rfl, .inr ⟨ha.sq, hb.sq, q m1 H1 _ E1 R1 ⟨fun i m S H E R _ v hv => ?_, fun m S H E R _ => ?_⟩⟩⟩
      · obtain ⟨x, y, hx, hy, rfl⟩ := zipV_get hv
        have k := E.kp R1
        obtain ⟨u, hu, ru⟩ := (ra.kp k).get hx
        obtain ⟨u2, hu2, ru2⟩ := (rb.kp k).get hy
        refine ⟨⟨xs, ys, u, u2, (ha.kp k).sq, (hb.kp k).sq, hu, hu2⟩, fun x H' hyl => ?_⟩
        obtain ⟨T, z, z2, rfl, hT, rfl, hz, hz2⟩ := hyl
        have e := hz xs (ha.kp k).sq
        rw [hu] at e
        cases e
        have e := hz2 ys (hb.kp k).sq
        rw [hu2] at e
        cases e
        exact yl_new R hT (.cons ru (.cons ru2 .nil))
      · refine ⟨xs, ys, (ha.kp (E.kp R1)).sq, (hb.kp (E.kp R1)).sq, ?_⟩
        simp only [zipV, List.length_map, List.length_zip, ra.len, rb.len]
        omega
  · split at e
    · next vs0 n _ ws0 en =>
      split at e
      · next hl =>
        cases e
        refine .inr ⟨m, ρ, S, _, _, R, r, e1, fun m1 us H1 E1 R1 r1 => ?_⟩
        match us, r1 with
        | [.ref a, .ref b], .cons (.tup (xs := xs) ha ra) (.cons (.ref hb) .nil) =>
          obtain ⟨ys, hy0, ry0⟩ := lst_get hb (.refl _ _) R1 en
          refine ⟨a, b, xs, ys, rfl, ha.sq, SqL.of hy0, q m1 H1 _ E1 R1 ⟨fun i m S H E R ok v hv => ?_, fun m S H E R ok => ?_⟩⟩
          · obtain ⟨x, y, hx, hy, rfl⟩ := zipV_get hv
            have k := E.kp R1
            obtain ⟨ys, hys, rys⟩ := lst_get hb E R ok
            obtain ⟨u, hu, ru⟩ := (ra.kp k).get hx
            obtain ⟨u2, hu2, ru2⟩ := rys.get hy
            refine ⟨⟨xs, ys, u, u2, (ha.kp k).sq, SqL.of hys, hu, hu2⟩, fun x H' hyl => ?_⟩
            obtain ⟨T, z, z2, rfl, hT, rfl, hz, hz2⟩ := hyl
            have e := hz xs (ha.kp k).sq
            rw [hu] at e
            cases e
            have e := hz2 ys (SqL.of hys)
            rw [hu2] at e
            cases e
            exact yl_new R hT (.cons ru (.cons ru2 .nil))
          · obtain ⟨ys, hys, rys⟩ := lst_get hb E R ok
            refine ⟨xs, ys, (ha.kp (E.kp R1)).sq, SqL.of hys, ?_, ?_⟩ <;> simp only [zipV, List.length_map, List.length_zip, ra.len, rys.len] <;> omega
      · cases e
    · cases e
  · split at e
    · next k0 n0 _ _ vs0 ws0 ek en =>
      cases e
      refine .inl ⟨m, ρ, S, _, _, R, r, e1, fun m1 us H1 E1 R1 r1 => ?_⟩
      match us, r1 with
      | [.ref a, .ref b], .cons (.ref ha) (.cons (.ref hb) .nil) =>
        obtain ⟨xs, hx0, rx0⟩ := lst_get ha (.refl _ _) R1 ek
        obtain ⟨ys, hy0, ry0⟩ := lst_get hb (.refl _ _) R1 en
        refine ⟨a, b, xs, ys, rfl, .inl ⟨SqL.of hx0, SqL.of hy0, q m1 H1 _ E1 R1 ⟨fun i m S H E R ok v hv => ?_, fun m S H E R ok => ?_⟩⟩⟩
        · obtain ⟨x, y, hx, hy, rfl⟩ := zipV_get hv
          obtain ⟨xs, hxs, rxs⟩ := lst_get ha E R ok.1
          obtain ⟨ys, hys, rys⟩ := lst_get hb E R ok.2
          obtain ⟨u, hu, ru⟩ := rxs.get hx
          obtain ⟨u2, hu2, ru2⟩ := rys.get hy
          refine ⟨⟨xs, ys, u, u2, SqL.of hxs, SqL.of hys, hu, hu2⟩, fun x H' hyl => ?_⟩
          obtain ⟨T, z, z2, rfl, hT, rfl, hz, hz2⟩ := hyl
          have e := hz xs (SqL.of hxs)
          rw [hu] at e
          cases e
          have e := hz2 ys (SqL.of hys)
          rw [hu2] at e
          cases e
          exact yl_new R hT (.cons ru (.cons ru2 .nil))
        · obtain ⟨xs, hxs, rxs⟩ := lst_get ha E R ok.1
          obtain ⟨ys, hys, rys⟩ := lst_get hb E R ok.2
          refine ⟨xs, ys, SqL.of hxs, SqL.of hys, ?_⟩
          simp only [zipV, List.length_map, List.length_zip, rxs.len, rys.len]
          omega
    · cases e
  · cases e
end
end AL
namespace AL
open PySem PySem.Spec PyProof.Rows L2 G Th
variable [TT]
def keyOf : Val → Option Key
  | .int i => some (.inl i)
  | .str x => some (.inr x)
  | _ => none
def valA (kvs : List (Key × Val)) (k : Key) : Option Val := (kvs.find? fun kv => decide (kv.1 = k)).map (·.2)
def putA (kvs : List (Key × Val)) (k : Key) (v : Val) : List (Key × Val) := if (kvs.any fun kv => decide (kv.1 = k)) = true then kvs.map (fun kv => if kv.1 = k then (kv.1, v) else kv) else kvs ++ [(k, v)]
section
variable {X : Cx} {K : PySem.W.Frag} {e a b o i : Expr} {pos : Pos} {fa fb fo fi f : EF}
theorem pe_or2 {t t' : TE} (h : PE X e t) (h' : PE X e t') : PE X e (fun σ H Q => t σ H Q ∨ t' σ H Q) := ⟨fun pins s σ H Q I hq => hq.elim (h.run pins s σ H Q I) (h'.run pins s σ H Q I)⟩
theorem pt_or2 {t t' : L2.TT} (h : PT X e t) (h' : PT X e t') : PT X e (fun σ H Q => t σ H Q ∨ t' σ H Q) := ⟨fun pins s σ H Q I hq => hq.elim (h.run pins s σ H Q I) (h'.run pins s σ H Q I)⟩
theorem ps_or2 {st : Stmt} {t t' : TS} (h : PS X st t) (h' : PS X st t') : PS X st (fun D σ H => t D σ H ∨ t' D σ H) := ⟨fun pins s σ H D I hq => hq.elim (h.run pins s σ H D I) (h'.run pins s σ H D I)⟩
theorem VR.key {H : Hp} {m : List Addr} {u : V} {v : Val} {k : Key} (r : VR K H m u v) (h : AL.keyOf v = some k) : u = kV k := by
  cases r <;> cases h <;> rfl

def KR (K : PySem.W.Frag) (H : Hp) (m : List Addr) (xs : List (Key × V)) (kvs : List (Key × Val)) : Prop := xs.map (·.1) = kvs.map (·.1) ∧ VRs K H m (xs.map (·.2)) (kvs.map (·.2))
theorem KR.nil {H : Hp} {m : List Addr} : KR K H m [] [] := ⟨rfl, .nil⟩
theorem KR.cons {H : Hp} {m : List Addr} {x : Key × V} {y : Key × Val} {xs : List (Key × V)} {kvs : List (Key × Val)} (h1 : x.1 = y.1) (h2 : VR K H m x.2 y.2) (r : KR K H m xs kvs) : KR K H m (x :: xs) (y :: kvs) := ⟨by simp [h1, r.1], .cons h2 r.2⟩
theorem KR.uncons {H : Hp} {m : List Addr} {y : Key × Val} {xs : List (Key × V)} {kvs : List (Key × Val)} (r : KR K H m xs (y :: kvs)) : ∃ x xs', xs = x :: xs' ∧ x.1 = y.1 ∧ VR K H m x.2 y.2 ∧ KR K H m xs' kvs := by
  obtain ⟨h1, h2⟩ := r
  cases xs with
  | nil => simp at h1
  | cons x xs =>
    simp only [List.map_cons, List.cons.injEq] at h1
    cases h2 with
    | cons a b => exact ⟨x, xs, rfl, h1.1, a, h1.2, b⟩
theorem KR.nil_of {H : Hp} {m : List Addr} {xs : List (Key × V)} (r : KR K H m xs []) : xs = [] := by
  have := r.1
  simpa using this
theorem KR.len {H : Hp} {m : List Addr} {xs : List (Key × V)} {kvs : List (Key × Val)} (r : KR K H m xs kvs) : xs.length = kvs.length := by simpa using congrArg List.length r.1
theorem KR.any {H : Hp} {m : List Addr} {xs : List (Key × V)} {kvs : List (Key × Val)} (r : KR K H m xs kvs) (k : Key) : (xs.any fun kv => decide (kv.1 = k)) = (kvs.any fun kv => decide (kv.1 = k)) := by
  induction kvs generalizing xs with
  | nil => rw [r.nil_of]; rfl
  | cons y kvs ih =>
    obtain ⟨x, xs', rfl, e, _, r'⟩ := r.uncons
    rw [List.any_cons, List.any_cons, ih r', e]
theorem KR.val {H : Hp} {m : List Addr} {xs : List (Key × V)} {kvs : List (Key × Val)} (r : KR K H m xs kvs) (k : Key) : (valV xs k = none ∧ valA kvs k = none) ∨ ∃ u v, valV xs k = some u ∧ valA kvs k = some v ∧ VR K H m u v := by
  induction kvs generalizing xs with
  | nil => rw [r.nil_of]; exact .inl ⟨rfl, rfl⟩
  | cons y kvs ih =>
    obtain ⟨x, xs', rfl, e, rv, r'⟩ := r.uncons
    by_cases h : y.1 = k
    · refine .inr ⟨x.2, y.2, ?_, ?_, rv⟩
      · simp [valV, List.find?_cons, e, h]
      · simp [valA, List.find?_cons, h]
    · have := ih r'
      simp only [valV, valA, List.find?_cons, e, h, decide_false] at this ⊢
      exact this
theorem KR.put {H : Hp} {m : List Addr} {xs : List (Key × V)} {kvs : List (Key × Val)} (r : KR K H m xs kvs) (k : Key) {u : V} {v : Val} (rv : VR K H m u v) : KR K H m (putK xs k u) (putA kvs k v) := by
  unfold putK putA
  rw [r.any k]
  split
  · rename_i hany
    clear hany
    induction kvs generalizing xs with
    | nil => rw [r.nil_of]; exact .nil
    | cons y kvs ih =>
      obtain ⟨x, xs', rfl, e, rv', r'⟩ := r.uncons
      rw [List.map_cons, List.map_cons]
      refine .cons ?_ ?_ (ih r')
      · rw [e]
        split <;> simp [e]
      · rw [e]
        split
        · exact rv
        · exact rv'
  · refine ⟨by simp [r.1], ?_⟩
    simp only [List.map_append, List.map_cons, List.map_nil]
    exact r.2.app rv.one
theorem KR.kp {H H' : Hp} {m m' : List Addr} {xs : List (Key × V)} {kvs : List (Key × Val)} (r : KR K H m xs kvs) (k : Kp m H m' H') : KR K H' m' xs kvs := ⟨r.1, r.2.kp k⟩
def gIxA : Val → Val → Sto → Option (Val × Sto) := fun x y S => match x with
  | .ref n => match S[n]? with
    | some (.dic kvs) => match AL.keyOf y with
      | some k => (valA kvs k).map fun v => (v, S)
      | none => none
    | _ => gIx x y S
  | _ => gIx x y S
theorem aixA (hu : X.A.units + 1 < cLine) (ha : AE X a fa) (hb : AE X b fb) (hs : PlainIx b) (hn : NoSl b) : AE X (.Subscript a b pos) (eB gIxA fa fb) := by
  refine pe_w (pe_or2 (pe_ix ix_seq ha hb hs) (pe_dget hu ha hb hn)) fun σ H Q h => ?_
  obtain ⟨m, ρ, S, v, S', R, r, e, q⟩ := h
  obtain ⟨⟨x, S1⟩, e1, e⟩ := Option.bind_eq_some_iff.mp e
  obtain ⟨⟨y, S2⟩, e2, e⟩ := Option.bind_eq_some_iff.mp e
  dsimp only at e e2
  have plain : gIx x y S2 = some (v, S') → tOp (rIx X.K) (tF X.K fa) (tF X.K fb) σ H Q := fun e => eB_ok oIx ⟨m, ρ, S, v, S', R, r, by simp only [eB, e1, e2, Option.bind_some, e], q⟩
  cases x with
  | ref n =>
    simp only [gIxA] at e
    split at e
    · next kvs en =>
      split at e
      · next k ek =>
        obtain ⟨v', ev, e3⟩ := Option.map_eq_some_iff.mp e
        cases e3
        refine .inr ⟨m, ρ, S, .ref n, S1, R, r, e1, fun m1 u H1 E1 R1 r1 => ⟨m1, ρ, S1, y, _, R1, r.kp (E1.kp R), e2, fun m2 w H2 E2 R2 r2 => ?_⟩⟩
        cases r1.kp (E2.kp R1) with
        | ref hm =>
          obtain ⟨xs, hx, hk⟩ := R2.ob _ _ _ en hm
          rcases KR.val hk k with ⟨_, z⟩ | ⟨u', v2, h1, h2, h3⟩
          · rw [ev] at z; cases z
          · rw [ev] at h2
            cases h2
            refine ⟨_, u', rfl, ?_, q m2 u' H2 (E1.trans E2) R2 h3⟩
            rw [r2.key ek, ← h1]
            exact DGet.k hx
      · cases e
    · exact .inl (plain e)
  | _ => exact .inl (plain e)

def eDic : EF := fun _ S => some (.ref S.length, S ++ [.dic []])

def gSetA : Val → Val → Val → Sto → Option Sto := fun o i v S => match o with
  | .ref n => match S[n]? with
    | some (.dic kvs) => match AL.keyOf i with
      | some k => if kvs.length < sizeLine then some (S.set n (.dic (putA kvs k v))) else none
      | none => none
    | _ => gSet o i v S
  | _ => none
theorem asuA {p2 : Pos} (hu : X.A.units + 1 < cLine) (he : AE X e f) (ho : AE X o fo) (hi : AE X i fi)
    (ha : ∀ v, assign (.Subscript o i pos) X.env v = (do
      let ov ← holding [v] (eval o X.env)
      let iv ← holding [v, ov] (eval i X.env)
      standAt pos
      holding [v, ov, iv] (setItem ov iv v)
      release [v, ov, iv] []) := by intro _; rfl)
    (hsw : swapsWithSole [.Subscript o i pos] e p2.line X.env = pure false := by rfl) (hw : swappedStores [.Subscript o i pos] e X.env = pure none := by rfl)
    (h1 : (assignEach [.Subscript o i pos] X.env).map (·.2) = [assign (.Subscript o i pos) X.env] := by rfl) (hs : swapsWith e (some (.Subscript o i pos)) p2.line X.env = pure false := by rfl) : AS X (.Assign [.Subscript o i pos] e p2) (sSub gSetA fo fi f) := by
  refine ps_w (ps_or2 (ps_asg he (pg_sub ho hi set_list ha) hsw hw h1) (ps_dput hu ho hi he hs)) fun D σ H h => ?_
  obtain ⟨m, ρ, S, R, r, q⟩ := h
  unfold sSub at q
  split at q
  · next v S1 e1 =>
    split at q
    · next ov S2 e2 =>
      split at q
      · next iv S3 e3 =>
        split at q
        · next S4 e4 =>
          unfold gSetA at e4
          split at e4
          · next n =>
            split at e4
            · next kvs en =>
              split at e4
              · next k ek =>
                split at e4
                · next hl =>
                  cases e4
                  refine .inr ⟨m, ρ, S, v, S1, R, r, e1, fun m1 u H1 E1 R1 r1 => ⟨m1, ρ, S1, _, S2, R1, r.kp (E1.kp R), e2, fun m2 uo H2 E2 R2 r2 => ⟨m2, ρ, S2, iv, S3, R2, r.kp ((E1.trans E2).kp R), e3, fun m3 ui H3 E3 R3 r3 => ?_⟩⟩⟩
                  have rv := r1.kp ((E2.trans E3).kp R1)
                  cases r2.kp (E3.kp R2) with
                  | ref hm =>
                    rename_i ad
                    obtain ⟨xs, hx, hk⟩ := R3.ob _ _ _ en hm
                    have hk : KR X.K H3 m3 xs kvs := hk
                    have hmm := List.mem_of_getElem? hm
                    have kk : Kp m3 H3 m3 (upd H3 ad (.dK (putK xs k u))) := R3.kput hmm
                    obtain ⟨R4, E4⟩ := R3.put (o := .dK (putK xs k u)) (b := .dic (putA kvs k v)) hm ⟨_, upd_same, (hk.put k rv).kp kk⟩
                    refine ⟨_, _, rfl, ?_, q m3 σ _ (((E1.trans E2).trans E3).trans E4) R4 (r.kp ((((E1.trans E2).trans E3).trans E4).kp R))⟩
                    rw [r3.key ek]
                    exact DPut.k hx (by rw [hk.len]; exact hl)
                · cases e4
              · cases e4
            · refine .inl ⟨m, ρ, S, v, S1, R, r, e1, fun m1 u H1 E1 R1 r1 => ⟨m1, ρ, S1, _, S2, R1, r.kp (E1.kp R), e2, fun m2 uo H2 E2 R2 r2 => ⟨m2, ρ, S2, iv, S3, R2, r.kp ((E1.trans E2).kp R), e3, fun m3 ui H3 E3 R3 r3 => ?_⟩⟩⟩
              refine stL m3 S3 H3 _ iv v S4 uo ui u _ R3 (r2.kp (E3.kp R2)) r3 (r1.kp ((E2.trans E3).kp R1)) e4 fun H4 E4 R4 => ?_
              exact q m3 σ H4 (((E1.trans E2).trans E3).trans E4) R4 (r.kp ((((E1.trans E2).trans E3).trans E4).kp R))
          · cases e4
        · exact q.elim
      · exact q.elim
    · exact q.elim
  · exact q.elim

def eGet1 (fo fi : EF) : EF := fun ρ S => (fo ρ S).bind fun p => match p.1 with
  | .ref n => match p.2[n]? with
    | some (.dic _) => (fi ρ p.2).bind fun q => match q.2[n]?, AL.keyOf q.1 with
      | some (.dic kvs), some k => some ((valA kvs k).getD .non, q.2)
      | _, _ => none
    | _ => none
  | _ => none
def eGet2 (fo fi fx : EF) : EF := fun ρ S => (fo ρ S).bind fun p => match p.1 with
  | .ref n => match p.2[n]? with
    | some (.dic _) => (fi ρ p.2).bind fun q => (fx ρ q.2).bind fun z => match z.2[n]?, AL.keyOf q.1 with
      | some (.dic kvs), some k => some ((valA kvs k).getD z.1, z.2)
      | _, _ => none
    | _ => none
  | _ => none
def flatA : Val → Bool
  | .non => true
  | .bl _ => true
  | .int _ => true
  | .str _ => true
  | _ => false
def eqF : Val → Val → Bool
  | .non, .non => true
  | .bl a, .bl b => a == b
  | .bl a, .int b => (if a then 1 else 0) == b
  | .int a, .bl b => a == (if b then 1 else 0)
  | .int a, .int b => a == b
  | .str a, .str b => a == b
  | _, _ => false
def inA (x : Val) (vs : List Val) : Bool := vs.any fun y => eqF y x
theorem VR.flat {H : Hp} {m : List Addr} {u : V} {v : Val} (r : VR K H m u v) (h : flatA v = true) : flatV u = true := by
  cases r <;> first | rfl | cases h
theorem VR.eqF {H : Hp} {m : List Addr} {u w : V} {v x : Val} (r : VR K H m u v) (r2 : VR K H m w x) (h : flatA v = true) (h2 : flatA x = true) : eqV u w = AL.eqF v x := by
  cases r <;> cases r2 <;> first | rfl | cases h | cases h2
theorem VRs.flat {H : Hp} {m : List Addr} : ∀ {us : List V} {vs : List Val}, VRs K H m us vs → vs.all flatA = true → us.all flatV = true
  | _, _, .nil, _ => rfl
  | _, _, .cons a r, h => by
    rw [List.all_cons, Bool.and_eq_true] at h
    rw [List.all_cons, a.flat h.1, r.flat h.2]
    rfl
theorem VRs.inA {H : Hp} {m : List Addr} {u : V} {x : Val} (ru : VR K H m u x) (hx : flatA x = true) : ∀ {us : List V} {vs : List Val}, VRs K H m us vs → vs.all flatA = true → inV u us = AL.inA x vs
  | _, _, .nil, _ => rfl
  | _, _, .cons a r, h => by
    rw [List.all_cons, Bool.and_eq_true] at h
    have := VRs.inA ru hx r h.2
    unfold inV AL.inA at this ⊢
    rw [List.any_cons, List.any_cons, this, a.eqF ru h.1 hx]
def gInS (neg : Bool) : Val → Val → Sto → Option (Val × Sto) := fun x y S => match y with
  | .tup vs => if flatA x && vs.all flatA then some (.bl (if neg then !inA x vs else inA x vs), S) else none
  | .ref n => match S[n]? with
    | some (.lst vs) => if flatA x && vs.all flatA then some (.bl (if neg then !inA x vs else inA x vs), S) else none
    | _ => none
  | _ => none
theorem oInS {neg : Bool} : OpA K (rIn K neg) (gInS neg) := by
  intro m S H x y v S' u w Q R ru rw_ e q
  unfold gInS at e
  split at e
  · next vs =>
    split at e
    · next h =>
      rw [Bool.and_eq_true] at h
      cases e
      cases rw_ with
      | tup ha ra =>
        refine ⟨_, _, rfl, .inr ha.sq, ru.flat h.1, ra.flat h.2, ?_⟩
        rw [VRs.inA ru h.1 ra h.2]
        exact q m _ H (.refl _ _) R (.bl _)
    · cases e
  · split at e
    · next n _ vs en =>
      split at e
      · next h =>
        rw [Bool.and_eq_true] at h
        cases e
        cases rw_ with
        | ref hm =>
          obtain ⟨xs, hx, rx⟩ := R.ob _ _ _ en hm
          refine ⟨_, _, rfl, .inl (SqL.of hx), ru.flat h.1, rx.flat h.2, ?_⟩
          rw [VRs.inA ru h.1 rx h.2]
          exact q m _ H (.refl _ _) R (.bl _)
      · cases e
    · cases e
  · cases e
def gIn (neg : Bool) : Val → Val → Sto → Option (Val × Sto) := fun x y S => match y with
  | .ref n => match S[n]? with
    | some (.dic kvs) => match AL.keyOf x with
      | some k => some (.bl (if neg then !(valA kvs k).isSome else (valA kvs k).isSome), S)
      | none => none
    | _ => gInS neg x y S
  | _ => gInS neg x y S
theorem gIn_ok {neg : Bool} {σ : L2.St} {H : Hp} {Q : VK} (h : tF K (eB (gIn neg) fa fb) σ H Q) :
    tOp (rIn K neg) (tF K fa) (tF K fb) σ H Q ∨ (tF K fa σ H fun y H1 => tF K fb σ H1 fun x H2 => ∃ a o, x = .ref a ∧ DGet H2 a y o ∧ Q (.bl (if neg then !o.isSome else o.isSome)) H2) := by
  obtain ⟨m, ρ, S, v, S', R, r, e, q⟩ := h
  obtain ⟨⟨x, S1⟩, e1, e⟩ := Option.bind_eq_some_iff.mp e
  obtain ⟨⟨y, S2⟩, e2, e⟩ := Option.bind_eq_some_iff.mp e
  dsimp only at e e2
  have plain : gInS neg x y S2 = some (v, S') → tOp (rIn K neg) (tF K fa) (tF K fb) σ H Q := fun e => eB_ok oInS ⟨m, ρ, S, v, S', R, r, by simp only [eB, e1, e2, Option.bind_some, e], q⟩
  unfold gIn at e
  split at e
  · next n =>
    split at e
    · next kvs en =>
      split at e
      · next k ek =>
        cases e
        refine .inr ⟨m, ρ, S, x, S1, R, r, e1, fun m1 u H1 E1 R1 r1 => ⟨m1, ρ, S1, _, _, R1, r.kp (E1.kp R), e2, fun m2 w H2 E2 R2 r2 => ?_⟩⟩
        cases r2 with
        | ref hm =>
          obtain ⟨xs, hx, hk⟩ := R2.ob _ _ _ en hm
          refine ⟨_, valV xs k, rfl, by rw [(r1.kp (E2.kp R1)).key ek]; exact DGet.k hx, ?_⟩
          have eq : (valV xs k).isSome = (valA kvs k).isSome := by
            rcases KR.val hk k with ⟨z1, z2⟩ | ⟨u', v2, h1, h2, h3⟩
            · rw [z1, z2]; rfl
            · rw [h1, h2]; rfl
          rw [eq]
          exact q m2 _ H2 (E1.trans E2) R2 (.bl _)
      · cases e
    · exact .inl (plain e)
  · exact .inl (plain e)
theorem ain (hu : X.A.units + 1 < cLine) (ha : AE X a fa) (hb : AE X b fb) (hm : behindInMarks .In b = false := by rfl) : AE X (.Compare a [.In] [b] pos) (eB (gIn false) fa fb) :=
  pe_w (pe_or2 (pe_cmpR op_in_seq ha hb hm) (pe_cmp (pc_din hu ha hb) hm)) fun σ H Q h => gIn_ok h
theorem atnin (hu : X.A.units + 1 < cLine) (ha : AE X a fa) (hb : AE X b fb) (hm : behindInMarks .NotIn b = false := by rfl) : AT X (.Compare a [.NotIn] [b] pos) (eT (eB (gIn true) fa fb)) :=
  pt_w (pt_or2 (pt_cmpR op_notIn_seq ha hb hm) (pt_cmp (pc_dnotin hu ha hb) hm)) fun σ H Q h => gIn_ok (eT_ok h)
def strsOf : List Val → Option (List Str)
  | [] => some []
  | .str x :: r => (strsOf r).map (x :: ·)
  | _ => none
theorem strs_eq : ∀ {vs : List Val} {ss : List Str}, strsOf vs = some ss → vs = ss.map Val.str
  | [], ss, h => by cases h; rfl
  | .str x :: r, ss, h => by
    obtain ⟨t, h1, h2⟩ := Option.map_eq_some_iff.mp h
    cases h2
    rw [strs_eq h1]
    rfl
  | .non :: r, _, h => by cases h
  | .bl _ :: r, _, h => by cases h
  | .int _ :: r, _, h => by cases h
  | .tup _ :: r, _, h => by cases h
  | .ref _ :: r, _, h => by cases h
  | .scr _ :: r, _, h => by cases h
  | .lam _ _ _ _ _ :: r, _, h => by cases h
  | .exc _ _ _ _ :: r, _, h => by cases h
  | .ptu _ :: r, _, h => by cases h
theorem vrs_strs_inv {H : Hp} {m : List Addr} : ∀ {ss : List Str} {us : List V}, VRs K H m us (ss.map Val.str) → us = ss.map V.str
  | [], _, h => by cases h; rfl
  | s :: ss, _, h => by
    cases h with
    | cons a r =>
      cases a
      rw [vrs_strs_inv r]
      rfl
def leS (a b : Str) : Bool := !ltCps b.cps.toList a.cps.toList
def sortS (l : List Str) : List Str := l.mergeSort leS
theorem ltCps_iff : ∀ (a b : List Nat), ltCps a b = true ↔ a < b := by
  intro a b
  rw [PyProof.Rows.ltCps_eq, decide_eq_true_iff]
theorem leS_iff {a b : Str} : leS a b = true ↔ ¬ b.cps.toList < a.cps.toList := by
  unfold leS
  rw [Bool.not_eq_true', ← Bool.not_eq_true, ltCps_iff]
theorem leS_trans (a b c : Str) (h1 : leS a b = true) (h2 : leS b c = true) : leS a c = true := by
  rw [leS_iff] at *
  rw [List.not_lt] at *
  exact List.le_trans h1 h2
theorem leS_total (a b : Str) : (leS a b || leS b a) = true := by
  rw [Bool.or_eq_true, leS_iff, leS_iff, List.not_lt, List.not_lt]
  exact List.le_total _ _
theorem leS_anti {a b : Str} (h1 : leS a b = true) (h2 : leS b a = true) : a = b := by
  rw [leS_iff, List.not_lt] at *
  have := List.le_antisymm h1 h2
  cases a
  cases b
  simp only [Str.mk.injEq]
  simpa using this
theorem rising_pw : ∀ (p : Str) (l : List Str), risingS p l = true → (p :: l).Pairwise (fun a b => leS a b = true)
  | p, [], _ => by simp
  | p, x :: r, h => by
    have h : (!ltCps x.cps.toList p.cps.toList && risingS x r) = true := h
    rw [Bool.and_eq_true] at h
    have ih := rising_pw x r h.2
    rw [List.pairwise_cons]
    refine ⟨fun b hb => ?_, ih⟩
    rcases List.mem_cons.mp hb with rfl | hb
    · exact h.1
    · exact leS_trans p x b h.1 ((List.pairwise_cons.mp ih).1 b hb)
theorem sortS_uniq {xs ys : List Str} (hp : ys.Perm xs) (hs : sortedS ys = true) : ys = sortS xs := by
  have p1 : ys.Pairwise (fun a b => leS a b = true) := by
    cases ys with
    | nil => exact .nil
    | cons y ys => exact rising_pw y ys hs
  have p2 : (sortS xs).Pairwise (fun a b => leS a b = true) := List.pairwise_mergeSort leS_trans leS_total xs
  exact List.Perm.eq_of_pairwise (fun a b _ _ h1 h2 => leS_anti h1 h2) p1 p2 (hp.trans (List.mergeSort_perm xs leS).symm)
theorem asp3 {i j l : Nat} {st : Stmt} {ga : AF} (hst : PS X st (tPar3 i j l (tFa X.K ga))) : AS X st (sPar [i, j, l] ga) := ps_w hst fun D σ H h => by
  obtain ⟨m, ρ, S, R, r, q⟩ := h
  unfold sPar at q
  split at q
  · next vs S1 e1 =>
    split at q
    · next ρ1 e2 =>
      refine ⟨m, ρ, S, vs, S1, R, r, e1, fun m1 us H1 E1 R1 r1 => ?_⟩
      match vs, e2, r1 with
      | [v, w, z], e2, .cons rv (.cons rw_ (.cons rz .nil)) =>
        simp only [List.map_cons, List.map_nil, Pat.binds, Pat.bind, Option.bind_some] at e2
        cases e2
        exact ⟨_, _, _, rfl, q m1 _ H1 E1 R1 ((((r.kp (E1.kp R)).set rv i).set rw_ j).set rz l)⟩
      | [], e2, _ => simp [Pat.binds] at e2
      | [_], e2, _ => simp [Pat.binds, Pat.bind] at e2
      | [_, _], e2, _ => simp [Pat.binds, Pat.bind] at e2
      | _ :: _ :: _ :: _ :: _, e2, _ => simp [Pat.binds, Pat.bind] at e2
    · exact q.elim
  · exact q.elim
theorem asp2' {i j : Nat} {st : Stmt} {ga : AF} (hst : PS X st (tPar i j (tFa X.K ga))) : AS X st (sPar [i, j] ga) := ps_w hst fun D σ H h => by
  obtain ⟨m, ρ, S, R, r, q⟩ := h
  unfold sPar at q
  split at q
  · next vs S1 e1 =>
    split at q
    · next ρ1 e2 =>
      refine ⟨m, ρ, S, vs, S1, R, r, e1, fun m1 us H1 E1 R1 r1 => ?_⟩
      match vs, e2, r1 with
      | [v, w], e2, .cons rv (.cons rw_ .nil) =>
        simp only [List.map_cons, List.map_nil, Pat.binds, Pat.bind, Option.bind_some] at e2
        cases e2
        exact ⟨_, _, rfl, q m1 _ H1 E1 R1 (((r.kp (E1.kp R)).set rv i).set rw_ j)⟩
      | [], e2, _ => simp [Pat.binds] at e2
      | [_], e2, _ => simp [Pat.binds, Pat.bind] at e2
      | _ :: _ :: _ :: _, e2, _ => simp [Pat.binds, Pat.bind] at e2
    · exact q.elim
  · exact q.elim
end
end AL
namespace AL
open PySem PySem.Spec PyProof.Rows L2 G Th
variable [TT]
theorem fn_aG {P : Program} {w : World} {K : PySem.W.Frag} {mg : Str → Option Value} {base : Heap} {x qual : Str} {st : Stmt} {f : Addr} {fd : FuncData} {N ps : List Str} {k : Nat} {g : SF}
    (F : Fun K x qual st f fd) (S : FnScope N ps (defScope st))
    (body : ∀ (cdv : Value) (A : Around) (outer : List Env) (s : Shared) (H : Hp) (E : XK), A.guards = some [] →
      Room k (A.deeper (envOfC qual (defScope st) s.heap.objs.size f cdv)) → ASs (cxOf CX0 P w K mg base N qual (defScope st) f cdv A outer s H E).nox (defBody st) g) {n q : Nat} (hn : N.length = n := by rfl) (hq : ps.length = q := by rfl) :
    FnG P w K mg base (k + 1) f fd ps (spA K q (runF n g)) := by
  subst hn hq
  refine fn_g F S (fun vs H Q E h => h.1) (fun cdv A outer s H us Q E hg hr h => ⟨_, body cdv A outer s H E hg hr, ?_⟩)
  obtain ⟨hl, m, S0, vs, v, S', R, r, e, q⟩ := h
  refine ⟨m, _, S0, R, rho_start N r, ?_⟩
  unfold runF at e
  split at e
  · next v' S1 e1 =>
    cases e
    rw [e1]
    exact q
  · next v' S1 e1 =>
    cases e
    rw [e1]
    exact fun m' σ' H' E' R' r' => q m' .non H' E' R' .non
  · cases e
theorem sqF_of {K : PySem.W.Frag} {H : Hp} {a : Addr} {ns : List Int} (hO : Only H) (h : SqL K H a (ns.map V.int)) : SqF K H a ns := by
  rcases h with (h | ⟨o, h⟩) | h
  · rcases hO a with z | ⟨ob, xs, z⟩ <;> (rw [h] at z; cases z)
  · exact .inl ⟨o, h⟩
  · exact .inr h
theorem rel_nil {K : PySem.W.Frag} {H : Hp} (hT : LamT.Tabs TT.T H) : Rel K [] [] H := ⟨rfl, .nil, fun n o a h => by simp at h, hT⟩
theorem hsp_t {K : PySem.W.Frag} {F : FA} (hF : ∀ ns : List Int, ns.length ≤ 63 → ∃ S', F [.scr ns] [] = some (.bl true, S')) {H : Hp} {a : Addr} {ns : List Int} {E : XK} (hl : ns.length ≤ 63) (hT : LamT.Tabs TT.T H) (hS : SqF K H a ns) : spA K 1 F [.ref a] H (fun v _ => v = .bl true) E := by
  obtain ⟨S', e⟩ := hF ns hl
  refine ⟨rfl, [], [], [.scr ns], .bl true, S', rel_nil hT, .cons (.scr hS) .nil, e, fun m' z H' _ _ r => ?_⟩
  cases r
  rfl
omit [TT] in
theorem hsp_a {K : PySem.W.Frag} {F : FA} (hF : ∀ ns : List Int, ns.length ≤ 63 → ∃ S', F [.scr ns] [] = some (.bl true, S')) {H : Hp} {a : Addr} {ns : List Int} {E : XK} (hl : ns.length ≤ 63) (hO : Only H) (hS : SqL K H a (ns.map V.int)) : @spA noTT K 1 F [.ref a] H (fun v _ => v = .bl true) E :=
  @hsp_t noTT K F hF H a ns E hl (fun p hp => by cases hp) (sqF_of hO hS)
end AL
namespace AL
open PySem PySem.Spec PyProof.Rows L2 G Th
variable [TT]

def Kx (x : Nat) (S S' : Sto) : Prop := ∀ (k : Nat) (o : Ob), k ≠ x → S[k]? = some o → S'[k]? = some o
def Kn (S S' : Sto) : Prop := ∀ (k : Nat) (o : Ob), S[k]? = some o → S'[k]? = some o
theorem Kn.refl (S : Sto) : Kn S S := fun _ _ h => h
theorem Kn.trans {S S1 S2 : Sto} (a : Kn S S1) (b : Kn S1 S2) : Kn S S2 := fun k o h => b k o (a k o h)
theorem Kn.app (S T : Sto) : Kn S (S ++ T) := fun k o h => by
  rw [List.getElem?_append_left (List.getElem?_eq_some_iff.mp h).1]
  exact h
theorem Kn.kx {S S' : Sto} (a : Kn S S') (x : Nat) : Kx x S S' := fun k o _ h => a k o h
theorem Kx.trans {x : Nat} {S S1 S2 : Sto} (a : Kx x S S1) (b : Kx x S1 S2) : Kx x S S2 := fun k o n h => b k o n (a k o n h)
theorem Kx.refl (x : Nat) (S : Sto) : Kx x S S := fun _ _ _ h => h
theorem Kx.put {x : Nat} {S : Sto} {o : Ob} : Kx x S (S.set x o) := fun k o' n h => by
  rw [List.getElem?_set_ne (Ne.symm n)]
  exact h
theorem Kn.len {S S' : Sto} (a : Kn S S') : S.length ≤ S'.length := by
  by_cases h : S.length = 0
  · omega
  · have l : S.length - 1 < S.length := by omega
    have := a (S.length - 1) _ (List.getElem?_eq_getElem l)
    have := (List.getElem?_eq_some_iff.mp this).1
    omega
theorem Kx.len {x : Nat} {S S' : Sto} (a : Kx x S S') (h : x + 1 < S.length) : S.length ≤ S'.length := by
  have l : S.length - 1 < S.length := by omega
  have := a (S.length - 1) _ (by omega) (List.getElem?_eq_getElem l)
  have := (List.getElem?_eq_some_iff.mp this).1
  omega

theorem lcR_pure {p : Pat} {t : BF} {f : EF} {ok : Sto → Prop} {ρ : Rho} {S : Sto} (hok : ok S) (b : Val → Bool) (g : Val → Val) : ∀ (vs acc : List Val), acc.length + vs.length < 1000000 →
    (∀ v ∈ vs, ∃ ρ1, p.bind v ρ = some ρ1 ∧ t ρ1 S = some (b v, S) ∧ (b v = true → f ρ1 S = some (g v, S))) → lcR p t f ok ρ vs acc S = some (acc ++ (vs.filter b).map g, S)
  | [], acc, _, _ => by
    unfold lcR
    rw [if_pos hok]
    simp
  | v :: vs, acc, hl, h => by
    obtain ⟨ρ1, h1, h2, h3⟩ := h v (by simp)
    unfold lcR
    rw [if_pos hok, h1, Option.bind_some, h2, Option.bind_some]
    simp only [List.length_cons] at hl
    cases hb : b v with
    | true =>
      rw [h3 hb]
      simp only [if_true, Option.bind_some, show acc.length < 1000000 by omega, if_true]
      rw [lcR_pure hok b g vs (acc ++ [g v]) (by simp; omega) fun w hw => h w (by simp [hw])]
      simp [List.filter_cons, hb]
    | false =>
      simp only [Bool.false_eq_true, if_false]
      rw [lcR_pure hok b g vs acc (by omega) fun w hw => h w (by simp [hw])]
      simp [List.filter_cons, hb]
theorem forR_nil {p : Pat} {g : SF} {ok : Sto → Prop} {ρ : Rho} {S : Sto} (h : ok S) : forR p g ok [] ρ S = .nx ρ S := by
  unfold forR
  rw [if_pos h]
theorem forR_cons {p : Pat} {g : SF} {ok : Sto → Prop} {v : Val} {vs : List Val} {ρ ρ1 : Rho} {S : Sto} (h : ok S) (hb : p.bind v ρ = some ρ1) : forR p g ok (v :: vs) ρ S = (match g ρ1 S with
      | .nx ρ S => forR p g ok vs ρ S
      | .ct ρ S => forR p g ok vs ρ S
      | .bk ρ S => .nx ρ S
      | .rt v S => .rt v S
      | .stuck => .stuck) := by
  rw [forR]
  dsimp only
  rw [if_pos h, hb]
  all_goals rfl

theorem forR_inv {p : Pat} {g : SF} {ok : Sto → Prop} (I : Nat → Rho → Sto → Prop) (vs : List Val) (hok : ∀ i ρ S, I i ρ S → ok S)
    (step : ∀ i v ρ S, vs[i]? = some v → I i ρ S → ∃ ρ1 ρ2 S2, p.bind v ρ = some ρ1 ∧ g ρ1 S = .nx ρ2 S2 ∧ I (i + 1) ρ2 S2) :
    ∀ (k : Nat) (ρ : Rho) (S : Sto), k ≤ vs.length → I k ρ S → ∃ ρ' S', forR p g ok (vs.drop k) ρ S = .nx ρ' S' ∧ I vs.length ρ' S' := by
  intro k
  induction hn : vs.length - k generalizing k with
  | zero =>
    intro ρ S hk h
    have e : k = vs.length := by omega
    subst e
    rw [List.drop_length]
    exact ⟨ρ, S, forR_nil (hok _ _ _ h), h⟩
  | succ n ih =>
    intro ρ S hk h
    have l : k < vs.length := by omega
    rw [List.drop_eq_getElem_cons l]
    obtain ⟨ρ1, ρ2, S2, h1, h2, h3⟩ := step k vs[k] ρ S (List.getElem?_eq_getElem l) h
    rw [forR_cons (hok _ _ _ h) h1, h2]
    exact ih (k + 1) (by omega) ρ2 S2 (by omega) h3
theorem lcR_inv {p : Pat} {t : BF} {f : EF} {ok : Sto → Prop} {ρ : Rho} (I : Nat → List Val → Sto → Prop) (vs : List Val) (hl : vs.length < 900000) (hok : ∀ i a S, I i a S → ok S) (hlen : ∀ i a S, I i a S → a.length ≤ i)
    (step : ∀ i v a S, vs[i]? = some v → I i a S → ∃ ρ1, p.bind v ρ = some ρ1 ∧ ((∃ S1 y S2, t ρ1 S = some (true, S1) ∧ f ρ1 S1 = some (y, S2) ∧ I (i + 1) (a ++ [y]) S2) ∨ (∃ S1, t ρ1 S = some (false, S1) ∧ I (i + 1) a S1))) :
    ∀ (k : Nat) (a : List Val) (S : Sto), k ≤ vs.length → I k a S → ∃ a' S', lcR p t f ok ρ (vs.drop k) a S = some (a', S') ∧ I vs.length a' S' := by
  intro k
  induction hn : vs.length - k generalizing k with
  | zero =>
    intro a S hk h
    have e : k = vs.length := by omega
    subst e
    rw [List.drop_length]
    refine ⟨a, S, ?_, h⟩
    unfold lcR
    rw [if_pos (hok _ _ _ h)]
  | succ n ih =>
    intro a S hk h
    have l : k < vs.length := by omega
    rw [List.drop_eq_getElem_cons l]
    obtain ⟨ρ1, h1, h2⟩ := step k vs[k] a S (List.getElem?_eq_getElem l) h
    have la := hlen _ _ _ h
    rcases h2 with ⟨S1, y, S2, h2, h3, h4⟩ | ⟨S1, h2, h4⟩
    · obtain ⟨a', S', e, h5⟩ := ih (k + 1) (by omega) (a ++ [y]) S2 (by omega) h4
      refine ⟨a', S', ?_, h5⟩
      unfold lcR
      rw [if_pos (hok _ _ _ h), h1, Option.bind_some, h2, Option.bind_some]
      simp only [if_true, h3, Option.bind_some, show a.length < 1000000 by omega, if_true]
      exact e
    · obtain ⟨a', S', e, h5⟩ := ih (k + 1) (by omega) a S1 (by omega) h4
      refine ⟨a', S', ?_, h5⟩
      unfold lcR
      rw [if_pos (hok _ _ _ h), h1, Option.bind_some, h2, Option.bind_some]
      simp only [Bool.false_eq_true, if_false]
      exact e
theorem lcR_run {p : Pat} {t : BF} {f : EF} {ok : Sto → Prop} {ρ : Rho} {S : Sto} (I : Nat → List Val → Sto → Prop) {vs : List Val} (hl : vs.length < 900000) (hok : ∀ i a S, I i a S → ok S) (hlen : ∀ i a S, I i a S → a.length ≤ i) (h0 : I 0 [] S)
    (step : ∀ i v a S, vs[i]? = some v → I i a S → ∃ ρ1, p.bind v ρ = some ρ1 ∧ ((∃ S1 y S2, t ρ1 S = some (true, S1) ∧ f ρ1 S1 = some (y, S2) ∧ I (i + 1) (a ++ [y]) S2) ∨ (∃ S1, t ρ1 S = some (false, S1) ∧ I (i + 1) a S1))) :
    ∃ a' S', lcR p t f ok ρ vs [] S = some (a', S') ∧ I vs.length a' S' := by
  have := lcR_inv I vs hl hok hlen step 0 [] S (Nat.zero_le _) h0
  rwa [List.drop_zero] at this
theorem rangeV_get {lo : Int} {n i : Nat} {v : Val} (h : (rangeV lo n)[i]? = some v) : v = .int (lo + i) ∧ i < n := by
  unfold rangeV at h
  rw [List.getElem?_map] at h
  obtain ⟨k, hk, rfl⟩ := Option.map_eq_some_iff.mp h
  obtain ⟨l, rfl⟩ := List.getElem?_eq_some_iff.mp hk
  rw [List.length_range] at l
  exact ⟨by rw [List.getElem_range], l⟩
theorem rangeV_len (lo : Int) (n : Nat) : (rangeV lo n).length = n := by simp [rangeV]
end AL
namespace K37
open PySem PySem.Spec PyProof.Rows L2 G Th AL
noncomputable def common_divisor_B : SF := (sSeq (sWhile (eT (eB gNe (eV 1) (eC (.int 0)))) (sPar [0, 1] (aCons (eV 1) (aCons (eB gMod (eV 0) (eV 1)) aNil))))
    (sRet (eCall gAbs (aCons (eV 0) aNil))))
noncomputable def common_divisor_ : FA := runF 2 common_divisor_B
noncomputable def is_below_B : SF := (sRet (eB gLt (eB gMul (eB gIxA (eV 0) (eC (.int 0))) (eB gIxA (eV 1) (eC (.int 1)))) (eB gMul (eB gIxA (eV 1) (eC (.int 0))) (eB gIxA (eV 0) (eC (.int 1))))))
noncomputable def is_below_ : FA := runF 2 is_below_B
end K37
namespace AL
open PySem PySem.Spec PyProof.Rows L2 G Th
variable [TT]

def CV (K : PySem.W.Frag) (u : Value) (v : Val) : Prop := ∃ uv : V, RelV uv u ∧ ∀ (H : Hp) (m : List Addr), VR K H m uv v
def CVs (K : PySem.W.Frag) (us : List Value) (vs : List Val) : Prop := ∃ uvs : List V, Vals uvs us ∧ ∀ (H : Hp) (m : List Addr), VRs K H m uvs vs
section
variable {K : PySem.W.Frag}
theorem cv_int {i : Int} {t : Nat} : CV K (.int i t) (.int i) := ⟨.int i, ⟨t, rfl⟩, fun _ _ => .int i⟩
theorem cv_str {x : Str} {t : Nat} : CV K (.str x t) (.str x) := ⟨.str x, ⟨t, rfl⟩, fun _ _ => .str x⟩
theorem cvs_nil : CVs K [] [] := ⟨[], .nil, fun _ _ => .nil⟩
theorem cvs_cons {u : Value} {us : List Value} {v : Val} {vs : List Val} (h : CV K u v) (r : CVs K us vs) : CVs K (u :: us) (v :: vs) := by
  obtain ⟨uv, h1, h2⟩ := h
  obtain ⟨uvs, r1, r2⟩ := r
  exact ⟨uv :: uvs, .cons h1 r1, fun H m => .cons (h2 H m) (r2 H m)⟩
theorem cv_tup {a : Addr} {o : Obj} {its : Array Value} {n : Nat} {vs : List Val} (l : K.lookup a = some o) (hc : o.cls = .type "tuple") (hd : o.data = .seq its n) (hs : its.size ≤ sizeLine) (r : CVs K its.toList vs) : CV K (.ref a) (.tup vs) := by
  obtain ⟨uvs, r1, r2⟩ := r
  exact ⟨.ref a, rfl, fun H m => .tup (.inr (.inl ⟨o, its, n, l, hc, hd, hs, r1⟩)) (r2 H m)⟩
end

def Cst (K : PySem.W.Frag) (mg : Str → Option Value) (x : Str) (v : Val) : Prop := ∃ u : Value, mg x = some u ∧ CV K u v
section
variable {X : Cx} {e : Expr} {es : List Expr} {kws : List Keyword} {pos p : Pos} {f : EF} {ga gk : AF} {nm : Option Str} {kpos : Pos} {st : Stmt}
theorem aglb {x : Str} {v : Val} (c : Cst X.K X.mg x v) (hg : Gl X x) (hd : (x == ("__debug__" : Str)) = false := by decide) : AE X (.Name x pos) (eC v) := by
  obtain ⟨u, h1, uv, h2, h3⟩ := c
  exact ac (pe_glob hg h1 h2 hd) h3

theorem pk_w {t t' : TA} (h : PK X kws t) (hi : ∀ σ H Q, t' σ H Q → t σ H Q) : PK X kws t' := ⟨fun p pins s σ H Q I hq => h.run p pins s σ H Q I (hi σ H Q hq)⟩
theorem akn : PK X [] (tFa X.K aNil) := by
  refine pk_w pk_nil fun σ H Q h => ?_
  obtain ⟨m, ρ, S, v, S', R, r, e, q⟩ := h
  cases e
  exact q m [] H (.refl _ _) R .nil

theorem run_gN {k n : Nat} {f : Addr} {fd : FuncData} {ps ks : List Str} {sp : Sp} {E : XK} {g : List Value → List Value → List Value} {gV : List V → List V → List V} {pins : List (Addr × Obj)} {σ : L2.St} {H : Hp} {s : Shared} {Q : VK} {us ws : List Value} {vs zs : List V}
    (F : FnG X.prog X.w X.K X.mg X.base k f fd ps sp) (hg : X.A.guards = some []) (hr : Room k X.A) (hb : KBn X.K fd ps n ks g gV)
    (I : Inv X pins σ H s) (r : Vals vs us) (rz : Vals zs ws) (l1 : vs.length = n) (l2 : zs.length = ks.length) (h : sp (gV vs zs) H Q E) : wpAny (model X.prog X.w) X.A (call (.ref f) us (ks.zip ws)) (EP X pins σ Q) X.xe s := by
  have r2 := hb.rel r rz
  refine wpAny_call (codeAny_mono (F.run X.A X.stack s H ⟨us, ks.zip ws⟩ (g us ws) (gV vs zs) Q E hg hr I.env0 (hb.to s us ws I.kIn (r.length.symm.trans l1) (rz.length.symm.trans l2)) r2 h) ?_)
  intro res s' c
  match res, c with
  | .error _, c => exact False.elim c
  | .ok (.ret _), c => exact I.after c
  | .ok .next, c => exact False.elim c
  | .ok .brk, c => exact False.elim c
  | .ok .cont, c => exact False.elim c
end

structure DefK (P : Program) (w : World) (K : PySem.W.Frag) (mg : Str → Option Value) (base : Heap) (k : Nat) (x : Str) (n : Nat) (ks : List Str) (gA : List Val → List Val → List Val) (F : FA) : Prop where
  ex : ∃ (f : Addr) (fd : FuncData) (ps : List Str) (g : List Value → List Value → List Value) (gV : List V → List V → List V), FnG P w K mg base k f fd ps (spA K ps.length F) ∧ KBn K fd ps n ks g gV ∧ mg x = some (.ref f) ∧ PySem.W.keepIn K (.ref f) = true ∧
    ∀ (H : Hp) (m : List Addr) (vs zs : List V) (as bs : List Val), VRs K H m vs as → VRs K H m zs bs → as.length = n → bs.length = ks.length → VRs K H m (gV vs zs) (gA as bs) ∧ (gA as bs).length = ps.length
def eDefK (F : FA) (n m : Nat) (gA : List Val → List Val → List Val) (ga gk : AF) : EF := fun ρ S => (ga ρ S).bind fun p => (gk ρ p.2).bind fun q => if p.1.length = n ∧ q.1.length = m then F (gA p.1 q.1) q.2 else none
end AL
namespace AL
open PySem PySem.Spec PyProof.Rows L2 G Th
variable [TT]
def tyN : Val → Sto → Option String := fun v S => match v with
  | .non => some "NoneType"
  | .bl _ => some "bool"
  | .int _ => some "int"
  | .str _ => some "str"
  | .tup _ => some "tuple"
  | .scr _ => some "list"
  | .ref n => match S[n]? with
    | some (.lst _) => some "list"
    | some (.dic _) => some "dict"
    | _ => none
  | .lam _ _ _ _ _ => none
  | .exc _ _ _ _ => none
  | .ptu _ => none
def gIsi (T : String) : Val → Sto → Option (Val × Sto) := fun v S => (tyN v S).bind fun a => (L2.kitB a T).map fun b => (.bl b, S)
theorem kit_int_int : L2.kitB "int" "int" = some true := by decide +kernel
theorem kit_bool_int : L2.kitB "bool" "int" = some true := by decide +kernel
theorem kit_str_int : L2.kitB "str" "int" = some false := by decide +kernel
theorem kit_tuple_int : L2.kitB "tuple" "int" = some false := by decide +kernel
theorem kit_list_int : L2.kitB "list" "int" = some false := by decide +kernel
theorem kit_NoneType_int : L2.kitB "NoneType" "int" = some false := by decide +kernel
theorem kit_int_bool : L2.kitB "int" "bool" = some false := by decide +kernel
theorem kit_bool_bool : L2.kitB "bool" "bool" = some true := by decide +kernel
theorem kit_int_str : L2.kitB "int" "str" = some false := by decide +kernel
theorem kit_bool_str : L2.kitB "bool" "str" = some false := by decide +kernel
theorem kit_str_str : L2.kitB "str" "str" = some true := by decide +kernel
theorem kit_tuple_str : L2.kitB "tuple" "str" = some false := by decide +kernel
theorem kit_list_str : L2.kitB "list" "str" = some false := by decide +kernel
theorem kit_NoneType_str : L2.kitB "NoneType" "str" = some false := by decide +kernel
theorem kit_int_tuple : L2.kitB "int" "tuple" = some false := by decide +kernel
theorem kit_bool_tuple : L2.kitB "bool" "tuple" = some false := by decide +kernel
theorem kit_str_tuple : L2.kitB "str" "tuple" = some false := by decide +kernel
theorem kit_tuple_tuple : L2.kitB "tuple" "tuple" = some true := by decide +kernel
theorem kit_list_tuple : L2.kitB "list" "tuple" = some false := by decide +kernel
theorem kit_NoneType_tuple : L2.kitB "NoneType" "tuple" = some false := by decide +kernel
section
variable {X : Cx} {e : Expr} {f : EF} {p p2 pos : Pos} {K : PySem.W.Frag}
theorem tyN_ok {m : List Addr} {S : Sto} {H : Hp} {u : V} {v : Val} {a : String} (R : Rel K m S H) (r : VR K H m u v) (h : tyN v S = some a) : TyX K H u (.type a) := by
  cases v with
  | non => cases h; cases r; exact .base .non
  | bl b => cases h; cases r; exact .base (.bl _)
  | int b => cases h; cases r; exact .base (.int _)
  | str b => cases h; cases r; exact .base (.str _)
  | tup vs =>
    cases h
    cases r with
    | tup ha ra =>
      rcases ha with ha | ⟨o, its, n, hl, hc, _⟩ | ⟨o, ha⟩
      · exact .base (.tup ha)
      · exact .kTuple hl hc
      · exact .fTuple ha
  | scr ns =>
    cases h
    cases r with
    | scr hs =>
      rcases hs with ⟨o, hs⟩ | ⟨o, its, n, hl, hc, _⟩
      · exact .base (.frz hs)
      · exact .kList hl hc
  | ref n =>
    cases r with
    | ref ha =>
      simp only [tyN] at h
      split at h
      · next vs en =>
        cases h
        obtain ⟨xs, hx, _⟩ := R.ob _ _ _ en ha
        exact .base (.lst hx)
      · next kvs en =>
        cases h
        obtain ⟨xs, hx, _⟩ := R.ob _ _ _ en ha
        exact .base (.dK hx)
      · cases h
  | lam _ _ _ _ _ => cases h
  | exc _ _ _ _ => cases h
  | ptu _ => cases h
theorem aisi {T : String} {x : Str} (hg : Gl X "isinstance") (hm : X.mg "isinstance" = none) (hgT : Gl X x) (hmT : X.mg x = none) (hv : bootBuiltins x = some (.type T)) (he : AE X e f) (hn : x ≠ "__name__" := by decide) (hd : (x == ("__debug__" : Str)) = false := by decide)
    (hs : starEach [e, .Name x p2] X.env = (false, eval e X.env) :: starEach [.Name x p2] X.env := by rfl) (hpl : (backTo pos (starEach [.Name x p2] X.env)).any (·.1) = false := by rfl) : AE X (.Call (.Name "isinstance" p) [e, .Name x p2] [] pos) (eU (gIsi T) f) := by
  refine pe_w (pe_callB call_isi hg hm (by decide +kernel) (pa_cons he (pa_cons (pe_bltn (v := .ty T) hgT hmT hv rfl hn hd) pa_nil) hs) (by decide) (by decide) hs hpl) fun σ H Q h => ?_
  obtain ⟨m, ρ, S, v, S', R, r, e, q⟩ := h
  obtain ⟨⟨x1, S1⟩, e1, e⟩ := Option.bind_eq_some_iff.mp e
  unfold gIsi at e
  obtain ⟨a, ea, e⟩ := Option.bind_eq_some_iff.mp e
  obtain ⟨b, eb, e⟩ := Option.map_eq_some_iff.mp e
  cases e
  refine ⟨m, ρ, S, x1, S1, R, r, e1, fun m1 u H1 E1 R1 r1 => ?_⟩
  exact ⟨u, .ty T, .type a, .type T, b, rfl, .ty T, tyN_ok R1 r1 ea, kit_ty eb, q m1 _ H1 E1 R1 (.bl b)⟩

def blsOf : List Val → Option (List Bool)
  | [] => some []
  | .bl b :: vs => (blsOf vs).map fun bs => b :: bs
  | _ :: _ => none
theorem bls_eq : ∀ {vs : List Val} {bs : List Bool}, blsOf vs = some bs → vs = bs.map Val.bl
  | [], bs, h => by cases h; rfl
  | .bl b :: vs, bs, h => by
    simp only [blsOf] at h
    obtain ⟨cs, h1, rfl⟩ := Option.map_eq_some_iff.mp h
    rw [bls_eq h1]
    rfl
  | .non :: _, _, h => by cases h
  | .int _ :: _, _, h => by cases h
  | .str _ :: _, _, h => by cases h
  | .tup _ :: _, _, h => by cases h
  | .ref _ :: _, _, h => by cases h
  | .scr _ :: _, _, h => by cases h
  | .lam _ _ _ _ _ :: _, _, h => by cases h
  | .exc _ _ _ _ :: _, _, h => by cases h
  | .ptu _ :: _, _, h => by cases h
theorem bls_map (bs : List Bool) : blsOf (bs.map Val.bl) = some bs := by
  induction bs with
  | nil => rfl
  | cons b bs ih => simp only [List.map_cons, blsOf, ih, Option.map_some]
theorem vrs_bls {H : Hp} {m : List Addr} : ∀ {bs : List Bool} {us : List V}, VRs K H m us (bs.map Val.bl) → us = bs.map V.bl
  | [], us, h => by cases h; rfl
  | b :: bs, us, h => by
    cases h with
    | cons a r =>
      cases a
      rw [vrs_bls r]
      rfl
def gAll : List Val → Sto → Option (Val × Sto) := fun xs S => match xs with
  | [.ref n] => match S[n]? with
    | some (.lst vs) => (blsOf vs).map fun bs => (.bl (bs.all id), S)
    | _ => none
  | _ => none
theorem cAll : CaA K (rAll K) gAll := by
  intro m S H xs v S' us Q R r e q
  unfold gAll at e
  split at e
  · next n =>
    split at e
    · next vs en =>
      obtain ⟨bs, hb, e⟩ := Option.map_eq_some_iff.mp e
      cases e
      obtain ⟨u, rfl, ru⟩ := r.one_of
      cases ru with
      | ref ha =>
        obtain ⟨ys, hy, ry⟩ := R.ob _ _ _ en ha
        rw [bls_eq hb] at ry
        have := vrs_bls ry
        subst this
        exact ⟨_, bs, rfl, SqL.of hy, q m _ H (.refl _ _) R (.bl _)⟩
    · cases e
  · cases e

def gInt : List Val → Sto → Option (Val × Sto) := fun xs S => match xs with
  | [.int i] => some (.int i, S)
  | [.bl b] => some (.int (if b then 1 else 0), S)
  | _ => none
theorem cInt : CaA K (fun xs H Q => (∃ i, xs = [.int i] ∧ Q (.int i) H) ∨ ∃ k, xs = [.bl k] ∧ Q (.int (if k then 1 else 0)) H) gInt := by
  intro m S H xs v S' us Q R r e q
  unfold gInt at e
  split at e
  · cases e
    obtain ⟨u, rfl, ru⟩ := r.one_of
    cases ru
    exact .inl ⟨_, rfl, q m _ H (.refl _ _) R (.int _)⟩
  · cases e
    obtain ⟨u, rfl, ru⟩ := r.one_of
    cases ru
    exact .inr ⟨_, rfl, q m _ H (.refl _ _) R (.int _)⟩
  · cases e

theorem VRs.rev {H : Hp} {m : List Addr} : ∀ {us : List V} {vs : List Val}, VRs K H m us vs → VRs K H m us.reverse vs.reverse
  | _, _, .nil => .nil
  | _, _, .cons a r => by
    rw [List.reverse_cons, List.reverse_cons]
    exact (VRs.rev r).app a.one

def gIsT : Val → Val → Sto → Option (Val × Sto) := fun x y S => match x, y with
  | .bl a, .bl b => some (.bl (decide (a = b)), S)
  | _, _ => none
def gIsNT : Val → Val → Sto → Option (Val × Sto) := fun x y S => match x, y with
  | .bl a, .bl b => some (.bl (!decide (a = b)), S)
  | _, _ => none
end
end AL
namespace K08
open PySem PySem.Spec PyProof.Rows L2 G Th AL
open K37
noncomputable def feedL_B : SF := (sRet (eLst (aCons (eSl gSl (eV 0) oN (oS (eC (.int 63)))) (aCons (eC (.int 0)) (aCons (eC (.int 0)) (aCons (eC (.int 0)) aNil))))))
noncomputable def feedL_ : FA := runF 1 feedL_B
noncomputable def drawL_B : SF := (sSeq (sSub gSetA (eV 0) (eC (.int 3)) (eB gAdd (eB gIxA (eV 0) (eC (.int 3))) (eC (.int 1))))
    (sSeq (sIf (eT (eB gGt (eB gIxA (eV 0) (eC (.int 2))) (eC (.int 0)))) (sSeq (sAsg (.nm 4) (eB gMod (eB gIxA (eV 0) (eC (.int 2))) (eV 1)))
    (sSeq (sSub gSetA (eV 0) (eC (.int 2)) (eB gDiv (eB gIxA (eV 0) (eC (.int 2))) (eV 1)))
    (sRet (eV 4)))) sNil)
    (sSeq (sAsg (.nm 2) (eC (.int 5)))
    (sSeq (sIf (eT (eB gNe (eB gIxA (eV 0) (eC (.int 0))) (eLst aNil))) (sAsg (.nm 2) (eB gIxA (eB gIxA (eV 0) (eC (.int 0))) (eB gMod (eB gIxA (eV 0) (eC (.int 1))) (eCall gLen (aCons (eB gIxA (eV 0) (eC (.int 0))) aNil))))) sNil)
    (sSeq (sSub gSetA (eV 0) (eC (.int 1)) (eB gAdd (eB gIxA (eV 0) (eC (.int 1))) (eC (.int 1))))
    (sSeq (sIf (bAnd (eT (eB gGe (eV 2) (eB gPow (eC (.int 10)) (eC (.int 18))))) (eT (eB gLe (eB gIxA (eV 0) (eC (.int 1))) (eCall gLen (aCons (eB gIxA (eV 0) (eC (.int 0))) aNil))))) (sSeq (sSub gSetA (eV 0) (eC (.int 2)) (eB gDiv (eV 2) (eV 1)))
    (sRet (eB gMod (eV 2) (eV 1)))) sNil)
    (sSeq (sAsg (.nm 3) (eB gMod (eB gPow (eB gAdd (eB gAdd (eB gMod (eV 2) (eC (.int 2147483629))) (eB gMul (eC (.int 7919)) (eB gIxA (eV 0) (eC (.int 3))))) (eC (.int 1))) (eC (.int 5))) (eC (.int 2147483647))))
    (sRet (eB gMod (eB gDiv (eB gMod (eB gPow (eB gAdd (eV 3) (eB gMul (eC (.int 104729)) (eB gIxA (eV 0) (eC (.int 3))))) (eC (.int 5))) (eC (.int 2147483587))) (eC (.int 64))) (eV 1))))))))))
noncomputable def drawL_ : FA := runF 5 drawL_B
noncomputable def divisorL_B : SF := (sSeq (sWhile (eT (eB gGt (eV 1) (eC (.int 0)))) (sPar [0, 1] (aCons (eV 1) (aCons (eB gMod (eV 0) (eV 1)) aNil))))
    (sRet (eV 0)))
noncomputable def divisorL_ : FA := runF 2 divisorL_B
noncomputable def madeL_B : SF := (sSeq (sAsg (.nm 2) (eDef divisorL_ 2 (aCons (eCall gAbs (aCons (eV 0) aNil)) (aCons (eV 1) aNil))))
    (sRet (eTup (aCons (eB gDiv (eV 0) (eV 2)) (aCons (eB gDiv (eV 1) (eV 2)) aNil)))))
noncomputable def madeL_ : FA := runF 3 madeL_B
noncomputable def fieldL_B : SF := (sSeq (sAsg (.nm 1) (eLst (aCons (eC (.str "a")) (aCons (eC (.str "ab")) (aCons (eC (.str "b")) (aCons (eC (.str "h")) (aCons (eC (.str "hh")) (aCons (eC (.str "x")) (aCons (eC (.str "zz")) (aCons (eC (.str "zzzzzzzz")) aNil))))))))))
    (sSeq (sPar [6, 7, 8] (aCons (eB gIxA (eLst (aCons (eC (.int 3)) (aCons (eC (.int 2)) (aCons (eC (.int 1)) (aCons (eC (.int 4)) (aCons (eC (.int 6)) (aCons (eC (.int 5)) aNil))))))) (eDef drawL_ 2 (aCons (eV 0) (aCons (eC (.int 6)) aNil)))) (aCons (eLst aNil) (aCons (eLst aNil) aNil))))
    (sSeq (sAsg (.nm 2) (eLst (aCons (eTup (aCons (eTup (aCons (eC (.int 1)) (aCons (eC (.int 1)) aNil))) (aCons (eTup (aCons (eC (.int 1)) (aCons (eC (.int 1)) aNil))) aNil))) (aCons (eTup (aCons (eTup (aCons (eC (.int 1)) (aCons (eC (.int 2)) aNil))) (aCons (eTup (aCons (eC (.int 2)) (aCons (eC (.int 1)) aNil))) aNil))) (aCons (eTup (aCons (eTup (aCons (eC (.int 3)) (aCons (eC (.int 4)) aNil))) (aCons (eTup (aCons (eC (.int 5)) (aCons (eC (.int 4)) aNil))) aNil))) (aCons (eTup (aCons (eTup (aCons (eC (.int 1)) (aCons (eC (.int 1)) aNil))) (aCons (eTup (aCons (eC (.int 3)) (aCons (eC (.int 2)) aNil))) aNil))) (aCons (eTup (aCons (eTup (aCons (eC (.int 1)) (aCons (eC (.int 2)) aNil))) (aCons (eTup (aCons (eC (.int 1)) (aCons (eC (.int 1)) aNil))) aNil))) aNil)))))))
    (sSeq (sWhile (eT (eB gGt (eCall gLen (aCons (eV 1) aNil)) (eV 6))) (sExpr (eMt isL gPop (eV 1) (aCons (eDef drawL_ 2 (aCons (eV 0) (aCons (eCall gLen (aCons (eV 1) aNil)) aNil))) aNil))))
    (sSeq (sAsg (.nm 3) (eB gIxA (eV 1) (eDef drawL_ 2 (aCons (eV 0) (aCons (eV 6) aNil)))))
    (sSeq (sFor (.nm 4) (iSeq (eV 1)) (sExpr (eMt isL gApp (eV 7) (aCons (eB gAdd (eTup (aCons (eV 4) aNil)) (eB gIxA (eV 2) (eIf (eT (eB gNe (eV 4) (eV 3))) (eDef drawL_ 2 (aCons (eV 0) (aCons (eC (.int 5)) aNil))) (eC (.int 0))))) aNil))))
    (sSeq (sFor (.nm 5) (iRg1 (aCons (eB gMul (eDef drawL_ 2 (aCons (eV 0) (aCons (eC (.int 9)) aNil))) (eCall gInt (aCons (eB gGt (eV 6) (eC (.int 1))) aNil))) aNil)) (sSeq (sAsg (.nm 9) (eDef drawL_ 2 (aCons (eV 0) (aCons (eV 6) aNil))))
    (sSeq (sAsg (.nm 10) (eB gMod (eB gAdd (eB gAdd (eV 9) (eC (.int 1))) (eDef drawL_ 2 (aCons (eV 0) (aCons (eB gSub (eV 6) (eC (.int 1))) aNil)))) (eV 6)))
    (sSeq (sAsg (.nm 11) (eB gIxA (eLst (aCons (eTup (aCons (eC (.int 0)) (aCons (eC (.int 1)) aNil))) (aCons (eTup (aCons (eC (.int 1)) (aCons (eC (.int 2)) aNil))) (aCons (eTup (aCons (eC (.int 1)) (aCons (eC (.int 1)) aNil))) (aCons (eTup (aCons (eC (.int 3)) (aCons (eC (.int 1)) aNil))) aNil))))) (eDef drawL_ 2 (aCons (eV 0) (aCons (eC (.int 4)) aNil)))))
    (sSeq (sAsg (.nm 12) (eLst (aCons (eC .non) (aCons (eV 11) (aCons (eDef madeL_ 2 (aCons (eB gAdd (eB gIxA (eV 11) (eC (.int 0))) (eB gIxA (eV 11) (eC (.int 1)))) (aCons (eB gIxA (eV 11) (eC (.int 1))) aNil))) (aCons (eDef madeL_ 2 (aCons (eB gAdd (eB gIxA (eV 11) (eC (.int 0))) (eB gMul (eC (.int 9)) (eB gIxA (eV 11) (eC (.int 1))))) (aCons (eB gIxA (eV 11) (eC (.int 1))) aNil))) aNil))))))
    (sExpr (eMt isL gApp (eV 8) (aCons (eTup (aCons (eB gIxA (eV 1) (eV 9)) (aCons (eB gIxA (eV 1) (eV 10)) (aCons (eV 11) (aCons (eB gIxA (eV 12) (eDef drawL_ 2 (aCons (eV 0) (aCons (eC (.int 4)) aNil)))) aNil))))) aNil))))))))
    (sRet (eTup (aCons (eCall gTuple (aCons (eV 7) aNil)) (aCons (eCall gTuple (aCons (eV 8) aNil)) (aCons (eV 3) aNil))))))))))))
noncomputable def fieldL_ : FA := runF 13 fieldL_B
end K08
namespace AL
open PySem PySem.Spec PyProof.Rows L2 G Th
variable [TT]
def flat (ps : List (V × V)) : List V := ps.flatMap fun p => [p.1, p.2]
section
variable {X : Cx} {pos : Pos} {K : PySem.W.Frag} {ga : AF}
end
end AL
namespace K13
open PySem PySem.Spec PyProof.Rows L2 G Th AL
open K37 (common_divisor_ common_divisor_B)
open K08 (feedL_ feedL_B drawL_ drawL_B divisorL_ divisorL_B madeL_ madeL_B fieldL_ fieldL_B)
noncomputable def is_numberL_B : SF := (sRet (eAnd (eU (gIsi "int") (eV 0)) (eNot (eU (gIsi "bool") (eV 0)))))
noncomputable def is_numberL_ : FA := runF 1 is_numberL_B
end K13
namespace AL
open PySem PySem.Spec PyProof.Rows L2 G Th
variable [TT]
def Wp {α : Type} (o : Option (α × Sto)) (Q : α → Sto → Prop) : Prop := ∃ a S', o = some (a, S') ∧ Q a S'
def WsD (r : Res) (N : Rho → Sto → Prop) (R : Val → Sto → Prop) : Prop := match r with
  | .nx ρ S => N ρ S
  | .rt v S => R v S
  | _ => False
structure Ws (r : Res) (N : Rho → Sto → Prop) (R : Val → Sto → Prop) : Prop where
  h : WsD r N R
def Tb (v : Val) (X : Bool → Prop) : Prop := ∃ b, v = .bl b ∧ X b
theorem tb {v : Val} {b : Bool} {X : Bool → Prop} (h : v = .bl b) (q : X b) : Tb v X := ⟨b, h, q⟩
def Ti (v : Val) (X : Int → Prop) : Prop := ∃ i, v = .int i ∧ X i
theorem ti {v : Val} {i : Int} {X : Int → Prop} (h : v = .int i) (q : X i) : Ti v X := ⟨i, h, q⟩
def Br (b : Bool) (P Q : Prop) : Prop := (b = true → P) ∧ (b = false → Q)
theorem Br.of {b : Bool} {P Q : Prop} (p : b = true → P) (q : b = false → Q) : Br b P Q := ⟨p, q⟩
theorem brT {b : Bool} {P Q : Prop} (h : b = true) (p : P) : Br b P Q := ⟨fun _ => p, fun z => (by rw [h] at z; cases z)⟩
theorem brF {b : Bool} {P Q : Prop} (h : b = false) (q : Q) : Br b P Q := ⟨fun z => (by rw [h] at z; cases z), fun _ => q⟩
def Bn (o : Option Rho) (N : Rho → Prop) : Prop := ∃ ρ1, o = some ρ1 ∧ N ρ1
theorem bn {o : Option Rho} {ρ1 : Rho} {N : Rho → Prop} (h : o = some ρ1) (q : N ρ1) : Bn o N := ⟨ρ1, h, q⟩
def Sd (p q : Prop) : Prop := p ∧ q
theorem sd {p q : Prop} (h : p) (g : q) : Sd p q := ⟨h, g⟩
def Wi (o : Option (List Val × (Sto → Prop) × Sto)) (Q : List Val → (Sto → Prop) → Sto → Prop) : Prop := ∃ vs ok S, o = some (vs, ok, S) ∧ Q vs ok S
section
variable {α β : Type} {ρ : Rho} {S : Sto} {f fa fb fc fo fi : EF} {t t' : BF} {ga : AF} {Q : Val → Sto → Prop} {B : Bool → Sto → Prop} {A : List Val → Sto → Prop} {g1 g2 : SF} {N : Rho → Sto → Prop} {R : Val → Sto → Prop} {v : Val} {i : Nat} {p : Pat}
theorem Wp.bind {o : Option (α × Sto)} {k : α × Sto → Option (β × Sto)} {Q : β → Sto → Prop} (h : Wp o fun a S => Wp (k (a, S)) Q) : Wp (o.bind k) Q := by
  obtain ⟨a, S1, e, b, S2, e2, q⟩ := h
  exact ⟨b, S2, by rw [e]; exact e2, q⟩
theorem Wp.imp {o : Option (α × Sto)} {P Q : α → Sto → Prop} (h : Wp o P) (i : ∀ a S, P a S → Q a S) : Wp o Q := by
  obtain ⟨a, S1, e, q⟩ := h
  exact ⟨a, S1, e, i _ _ q⟩
theorem Wp.of {o : Option (α × Sto)} {Q : α → Sto → Prop} {a : α} {S : Sto} (e : o = some (a, S)) (q : Q a S) : Wp o Q := ⟨a, S, e, q⟩
theorem wv (h : ρ[i]? = some (some v)) (q : Q v S) : Wp (eV i ρ S) Q := ⟨v, S, by unfold eV; rw [h], q⟩
theorem wc (q : Q v S) : Wp (eC v ρ S) Q := ⟨v, S, rfl, q⟩
theorem wB {g : Val → Val → Sto → Option (Val × Sto)} (h : Wp (fa ρ S) fun x S1 => Wp (fb ρ S1) fun y S2 => Wp (g x y S2) Q) : Wp (eB g fa fb ρ S) Q := Wp.bind (h.imp fun a S h => Wp.bind h)
theorem wU {g : Val → Sto → Option (Val × Sto)} (h : Wp (fa ρ S) fun x S1 => Wp (g x S1) Q) : Wp (eU g fa ρ S) Q := Wp.bind h
theorem wT (h : Wp (f ρ S) fun v S1 => Tb v fun b => B b S1) : Wp (eT f ρ S) B := Wp.bind (h.imp fun a S ⟨b, e, q⟩ => by subst e; exact ⟨b, S, rfl, q⟩)
theorem wbA (h : Wp (t ρ S) fun b S1 => Br b (Wp (t' ρ S1) B) (B false S1)) : Wp (bAnd t t' ρ S) B := Wp.bind (h.imp fun b S h => by
  cases b with
  | true => exact h.1 rfl
  | false => exact ⟨_, _, rfl, h.2 rfl⟩)
theorem wbO (h : Wp (t ρ S) fun b S1 => Br b (B true S1) (Wp (t' ρ S1) B)) : Wp (bOr t t' ρ S) B := Wp.bind (h.imp fun b S h => by
  cases b with
  | true => exact ⟨_, _, rfl, h.1 rfl⟩
  | false => exact h.2 rfl)
theorem wbN (h : Wp (t ρ S) fun b S1 => B (!b) S1) : Wp (bNot t ρ S) B := Wp.bind (h.imp fun b S h => ⟨_, _, rfl, h⟩)
theorem wbY (h : B true S) : Wp (bYes ρ S) B := ⟨_, _, rfl, h⟩
theorem weA (h : Wp (fa ρ S) fun v S1 => Tb v fun b => Br b (Wp (fb ρ S1) Q) (Q (.bl false) S1)) : Wp (eAnd fa fb ρ S) Q := Wp.bind (h.imp fun a S ⟨b, e, h⟩ => by
  subst e
  cases b with
  | true => exact h.1 rfl
  | false => exact ⟨_, _, rfl, h.2 rfl⟩)
theorem weO (h : Wp (fa ρ S) fun v S1 => Tb v fun b => Br b (Q (.bl true) S1) (Wp (fb ρ S1) Q)) : Wp (eOr fa fb ρ S) Q := Wp.bind (h.imp fun a S ⟨b, e, h⟩ => by
  subst e
  cases b with
  | true => exact ⟨_, _, rfl, h.1 rfl⟩
  | false => exact h.2 rfl)
theorem weN (h : Wp (fa ρ S) fun v S1 => Tb v fun b => Q (.bl (!b)) S1) : Wp (eNot fa ρ S) Q := Wp.bind (h.imp fun a S ⟨b, e, h⟩ => by
  subst e
  exact ⟨_, _, rfl, h⟩)
theorem weI (h : Wp (t ρ S) fun b S1 => Br b (Wp (fa ρ S1) Q) (Wp (fb ρ S1) Q)) : Wp (eIf t fa fb ρ S) Q := Wp.bind (h.imp fun b S h => by
  cases b with
  | true => exact h.1 rfl
  | false => exact h.2 rfl)
theorem weCh {g g' : Val → Val → Sto → Option (Val × Sto)} (h : Wp (fa ρ S) fun x S1 => Wp (fb ρ S1) fun y S2 => Wp (g x y S2) fun z S3 => Tb z fun b => Br b (Wp (fc ρ S3) fun w S4 => Wp (g' y w S4) Q) (Q (.bl false) S3)) : Wp (eCh g g' fa fb fc ρ S) Q :=
  Wp.bind (h.imp fun x S1 h => Wp.bind (h.imp fun y S2 h => Wp.bind (h.imp fun z S3 ⟨b, e, h⟩ => by
    subst e
    cases b with
    | true => exact Wp.bind (h.1 rfl)
    | false => exact ⟨_, _, rfl, h.2 rfl⟩)))
theorem wa0 (h : A [] S) : Wp (aNil ρ S) A := ⟨_, _, rfl, h⟩
theorem wa1 (h : Wp (f ρ S) fun v S1 => Wp (ga ρ S1) fun vs S2 => A (v :: vs) S2) : Wp (aCons f ga ρ S) A := Wp.bind (h.imp fun x S1 h => Wp.bind (h.imp fun y S2 h => ⟨_, _, rfl, h⟩))
theorem wTup (h : Wp (ga ρ S) fun vs S1 => Sd (vs.length ≤ 1000000) (Q (.tup vs) S1)) : Wp (eTup ga ρ S) Q := Wp.bind (h.imp fun x S1 h => ⟨_, _, if_pos h.1, h.2⟩)

def Nw (S : Sto) (o : Ob) (Q : Val → Sto → Prop) : Prop := ∀ (T : Sto) (r : Nat), r = S.length → T.length = S.length + 1 → T[r]? = some o → Kn S T → Q (.ref r) T
theorem Nw.use {o : Ob} (h : Nw S o Q) : Q (.ref S.length) (S ++ [o]) := h _ _ rfl (by simp) (by simp) (Kn.app _ _)
theorem wLst (h : Wp (ga ρ S) fun vs S1 => Sd (vs.length ≤ 1000000) (Nw S1 (.lst vs) Q)) : Wp (eLst ga ρ S) Q := Wp.bind (h.imp fun x S1 h => ⟨_, _, if_pos h.1, h.2.use⟩)
theorem wDic (h : Nw S (.dic []) Q) : Wp (eDic ρ S) Q := ⟨_, _, rfl, h.use⟩
theorem wCall {g : List Val → Sto → Option (Val × Sto)} (h : Wp (ga ρ S) fun vs S1 => Wp (g vs S1) Q) : Wp (eCall g ga ρ S) Q := Wp.bind h
theorem wDef {F : FA} {n : Nat} (h : Wp (ga ρ S) fun vs S1 => Sd (vs.length = n) (Wp (F vs S1) Q)) : Wp (eDef F n ga ρ S) Q := Wp.bind (h.imp fun x S1 h => by
  show Wp (if x.length = n then F x S1 else none) Q
  rw [if_pos h.1]
  exact h.2)
theorem wMt {ok : Val → Sto → Bool} {g : Val → List Val → Sto → Option (Val × Sto)} (h : Wp (fo ρ S) fun x S1 => Sd (ok x S1 = true) (Wp (ga ρ S1) fun vs S2 => Wp (g x vs S2) Q)) : Wp (eMt ok g fo ga ρ S) Q := Wp.bind (h.imp fun x S1 h => by
  show Wp (if ok x S1 = true then (ga ρ S1).bind fun q => g x q.1 q.2 else none) Q
  rw [if_pos h.1]
  exact Wp.bind h.2)
theorem woN {O : Option Int → Sto → Prop} (h : O none S) : Wp (oN ρ S) O := ⟨_, _, rfl, h⟩
theorem woS {O : Option Int → Sto → Prop} (h : Wp (f ρ S) fun v S1 => Ti v fun i => O (some i) S1) : Wp (oS f ρ S) O := Wp.bind (h.imp fun x S1 ⟨i, e, h⟩ => by
  subst e
  exact ⟨_, _, rfl, h⟩)
theorem wSl {g : Val → Option Int → Option Int → Sto → Option (Val × Sto)} {lo hi : OF} (h : Wp (fa ρ S) fun x S1 => Wp (lo ρ S1) fun a S2 => Wp (hi ρ S2) fun b S3 => Wp (g x a b S3) Q) : Wp (eSl g fa lo hi ρ S) Q := Wp.bind (h.imp fun x S1 h => Wp.bind (h.imp fun y S2 h => Wp.bind h))
variable {x y : Val} {a b : Int}
theorem vI {g : Int → Int → Val} (hx : x = .int a) (hy : y = .int b) (q : Q (g a b) S) : Wp (gI g x y S) Q := by subst hx hy; exact ⟨_, _, rfl, q⟩
theorem vMul (hx : x = .int a) (hy : y = .int b) (q : Q (.int (a * b)) S) (h : CMulW a b) : Wp (gMul x y S) Q := by subst hx hy; exact ⟨_, _, if_pos h, q⟩
theorem vDiv (hx : x = .int a) (hy : y = .int b) (q : Q (.int (a / b)) S) (h : CDivW a b) : Wp (gDiv x y S) Q := by subst hx hy; exact ⟨_, _, if_pos h, q⟩
theorem vMod (hx : x = .int a) (hy : y = .int b) (q : Q (.int (a.fmod b)) S) (h : b ≠ 0) : Wp (gMod x y S) Q := by subst hx hy; exact ⟨_, _, if_pos h, q⟩
theorem vPow (hx : x = .int a) (hy : y = .int b) (q : Q (.int (a ^ b.toNat)) S) (h : CPow a b) : Wp (gPow x y S) Q := by subst hx hy; exact ⟨_, _, if_pos h, q⟩
theorem vAdd (hx : x = .int a) (hy : y = .int b) (q : Q (.int (a + b)) S) : Wp (gAdd x y S) Q := by subst hx hy; exact ⟨_, _, rfl, q⟩
theorem vNeg (hx : x = .int a) (q : Q (.int (-a)) S) : Wp (gNeg x S) Q := by subst hx; exact ⟨_, _, rfl, q⟩
theorem vAbs (hx : x = .int a) (q : Q (.int (if a < 0 then -a else a)) S) : Wp (gAbs [x] S) Q := by subst hx; exact ⟨_, _, rfl, q⟩
theorem vEq {c : Bool} (h : eqS x y = some c) (q : Q (.bl c) S) : Wp (gEq x y S) Q := ⟨_, _, by simp only [gEq, eqA, h]; rfl, q⟩
theorem vNe {c : Bool} (h : eqS x y = some c) (q : Q (.bl (!c)) S) : Wp (gNe x y S) Q := ⟨_, _, by simp only [gNe, eqA, h]; rfl, q⟩
theorem vIs (hy : y = .non) (q : Q (.bl (isNon x)) S) : Wp (gIs x y S) Q := by subst hy; exact ⟨_, _, rfl, q⟩
theorem vIsN (hy : y = .non) (q : Q (.bl (!isNon x)) S) : Wp (gIsN x y S) Q := by subst hy; exact ⟨_, _, rfl, q⟩
theorem vIxL {n : Nat} {i : Int} {vs : List Val} (hx : x = .ref n) (hy : y = .int i) (h : S[n]? = some (.lst vs)) (e : atI vs i = some v) (q : Q v S) : Wp (gIxA x y S) Q := by subst hx hy; exact ⟨v, S, by simp only [gIxA, gIx, h, e, Option.map_some], q⟩
theorem vIxT {i : Int} {vs : List Val} (hx : x = .tup vs) (hy : y = .int i) (e : atI vs i = some v) (q : Q v S) : Wp (gIxA x y S) Q := by subst hx hy; exact ⟨v, S, by simp only [gIxA, gIx, e, Option.map_some], q⟩
theorem isL_of {n : Nat} {vs : List Val} (h : S[n]? = some (.lst vs)) : isL (.ref n) S = true := by simp only [isL, h]
theorem vLenT {vs : List Val} (hx : x = .tup vs) (q : Q (.int vs.length) S) : Wp (gLen [x] S) Q := by subst hx; exact ⟨_, _, rfl, q⟩
theorem vLenL {n : Nat} {vs : List Val} (hx : x = .ref n) (h : S[n]? = some (.lst vs)) (q : Q (.int vs.length) S) : Wp (gLen [x] S) Q := by subst hx; exact ⟨_, S, by simp only [gLen, h], q⟩
theorem vTupL {n : Nat} {vs : List Val} (hx : x = .ref n) (h : S[n]? = some (.lst vs)) (q : Q (.tup vs) S) : Wp (gTuple [x] S) Q := by subst hx; exact ⟨_, S, by simp only [gTuple, h], q⟩
def Pt (S : Sto) (n : Nat) (o : Ob) (Q : Sto → Prop) : Prop := ∀ T : Sto, T.length = S.length → T[n]? = some o → Kx n S T → Q T
theorem Pt.use {n : Nat} {o o' : Ob} {Q : Sto → Prop} (h : Pt S n o Q) (hn : S[n]? = some o') : Q (S.set n o) := h _ (by simp) (by rw [List.getElem?_set_self (List.getElem?_eq_some_iff.mp hn).1]) Kx.put
theorem vApp {n : Nat} {vs : List Val} (hx : x = .ref n) (h : S[n]? = some (.lst vs)) (q : Pt S n (.lst (vs ++ [v])) (Q .non)) (hl : vs.length < sizeLine) : Wp (gApp x [v] S) Q := by subst hx; exact ⟨.non, _, by simp only [gApp, h, if_pos hl], q.use h⟩
theorem small {n : Nat} (h : n < 1000000) : n < sizeLine := Nat.lt_of_lt_of_le h (by decide)
theorem vGet1 (h : Wp (fo ρ S) fun o S1 => ∃ n kvs, o = .ref n ∧ S1[n]? = some (.dic kvs) ∧ Wp (fi ρ S1) fun x S2 => ∃ kvs k, S2[n]? = some (.dic kvs) ∧ AL.keyOf x = some k ∧ Q ((valA kvs k).getD .non) S2) : Wp (eGet1 fo fi ρ S) Q := Wp.bind (h.imp fun o S1 ⟨n, kvs, e, h1, h2⟩ => by
  subst e
  simp only [h1]
  refine Wp.bind (h2.imp fun x S2 ⟨kvs, k, h3, h4, q⟩ => ?_)
  simp only [h3, h4]
  exact ⟨_, _, rfl, q⟩)
theorem vGet2 {fx : EF} (h : Wp (fo ρ S) fun o S1 => ∃ n kvs, o = .ref n ∧ S1[n]? = some (.dic kvs) ∧ Wp (fi ρ S1) fun x S2 => Wp (fx ρ S2) fun y S3 => ∃ kvs k, S3[n]? = some (.dic kvs) ∧ AL.keyOf x = some k ∧ Q ((valA kvs k).getD y) S3) : Wp (eGet2 fo fi fx ρ S) Q := Wp.bind (h.imp fun o S1 ⟨n, kvs, e, h1, h2⟩ => by
  subst e
  simp only [h1]
  refine Wp.bind (h2.imp fun x S2 h3 => ?_)
  refine Wp.bind (h3.imp fun y S3 ⟨kvs, k, h4, h5, q⟩ => ?_)
  simp only [h4, h5]
  exact ⟨_, _, rfl, q⟩)
theorem atI_mem {vs : List Val} {d : Int} (h0 : 0 ≤ d) (h1 : d < (vs.length : Nat)) : ∃ v, atI vs d = some v ∧ v ∈ vs := by
  obtain ⟨n, rfl⟩ := Int.eq_ofNat_of_zero_le h0
  have l : n < vs.length := by omega
  exact ⟨vs[n], atI_nat (List.getElem?_eq_getElem l), List.getElem_mem l⟩
theorem ws_seq (h : Ws (g1 ρ S) (fun ρ S => Ws (g2 ρ S) N R) R) : Ws (sSeq g1 g2 ρ S) N R := by
  obtain ⟨h⟩ := h
  unfold sSeq
  cases e : g1 ρ S with
  | nx _ _ => rw [e] at h; exact h
  | rt _ _ => rw [e] at h; exact ⟨h⟩
  | stuck => rw [e] at h; exact h.elim
  | bk _ _ => rw [e] at h; exact h.elim
  | ct _ _ => rw [e] at h; exact h.elim
theorem ws_nil (h : N ρ S) : Ws (sNil ρ S) N R := ⟨h⟩
theorem ws_expr (h : Wp (f ρ S) fun _ S => N ρ S) : Ws (sExpr f ρ S) N R := by
  obtain ⟨a, S1, e, q⟩ := h
  unfold sExpr
  rw [e]
  exact ⟨q⟩
theorem ws_ret (h : Wp (f ρ S) R) : Ws (sRet f ρ S) N R := by
  obtain ⟨a, S1, e, q⟩ := h
  unfold sRet
  rw [e]
  exact ⟨q⟩
theorem ws_if (h : Wp (t ρ S) fun b S1 => Br b (Ws (g1 ρ S1) N R) (Ws (g2 ρ S1) N R)) : Ws (sIf t g1 g2 ρ S) N R := by
  obtain ⟨b, S1, e, q⟩ := h
  unfold sIf
  rw [e]
  cases b with
  | true => exact q.1 rfl
  | false => exact q.2 rfl
theorem ws_asg (h : Wp (f ρ S) fun v S1 => Bn (p.bind v ρ) fun ρ1 => N ρ1 S1) : Ws (sAsg p f ρ S) N R := by
  obtain ⟨v, S1, e, ρ1, e1, q⟩ := h
  unfold sAsg
  rw [e]
  show Ws (match p.bind v ρ with
    | some ρ => .nx ρ S1
    | none => .stuck) N R
  rw [e1]
  exact ⟨q⟩
theorem ws_par {is : List Nat} (h : Wp (ga ρ S) fun vs S1 => Bn (Pat.binds (is.map Pat.nm) vs ρ) fun ρ1 => N ρ1 S1) : Ws (sPar is ga ρ S) N R := by
  obtain ⟨v, S1, e, ρ1, e1, q⟩ := h
  unfold sPar
  rw [e]
  show Ws (match Pat.binds (is.map Pat.nm) v ρ with
    | some ρ => .nx ρ S1
    | none => .stuck) N R
  rw [e1]
  exact ⟨q⟩
theorem ws_sub {g : Val → Val → Val → Sto → Option Sto} (h : Wp (f ρ S) fun v S1 => Wp (fo ρ S1) fun o S2 => Wp (fi ρ S2) fun i S3 => ∃ S4, g o i v S3 = some S4 ∧ N ρ S4) : Ws (sSub g fo fi f ρ S) N R := by
  obtain ⟨v, S1, e1, o, S2, e2, i, S3, e3, S4, e4, q⟩ := h
  unfold sSub
  simp only [e1, e2, e3, e4]
  exact ⟨q⟩
theorem vPutL {n j : Nat} {i : Int} {v : Val} {N : Sto → Prop} {vs : List Val} (h : S[n]? = some (.lst vs)) (hj : ixN vs.length i = some j) (q : Pt S n (.lst (vs.set j v)) N) : ∃ T, gSetA (.ref n) (.int i) v S = some T ∧ N T := ⟨_, by simp only [gSetA, gSet, h, hj], q.use h⟩
theorem ws_for {fi : IF} {g : SF} (h : Wi (fi ρ S) fun vs ok S1 => Ws (forR p g ok vs ρ S1) N R) : Ws (sFor p fi g ρ S) N R := by
  obtain ⟨vs, ok, S1, e, h⟩ := h
  unfold sFor
  rw [e]
  exact h
theorem wf {n : Nat} {g : SF} {vs : List Val} (h : Ws (g (vs.map some ++ List.replicate (n - vs.length) none) S) (fun _ S => Q .non S) Q) : Wp (runF n g vs S) Q := by
  unfold runF
  generalize g (vs.map some ++ List.replicate (n - vs.length) none) S = r at h
  obtain ⟨h⟩ := h
  cases r with
  | nx ρ S => exact ⟨_, _, rfl, h⟩
  | rt v S => exact ⟨_, _, rfl, h⟩
  | stuck => exact h.elim
  | bk _ _ => exact h.elim
  | ct _ _ => exact h.elim
theorem ws_loop {g : SF} {ok : Sto → Prop} {vs : List Val} (I : Nat → Rho → Sto → Prop) (h0 : I 0 ρ S) (hok : ∀ i ρ S, i ≤ vs.length → I i ρ S → ok S)
    (step : ∀ i v ρ S, vs[i]? = some v → I i ρ S → Bn (p.bind v ρ) fun ρ1 => Ws (g ρ1 S) (I (i + 1)) R) (post : ∀ ρ S, I vs.length ρ S → N ρ S) : Ws (forR p g ok vs ρ S) N R := by
  have go : ∀ (k : Nat) (ρ : Rho) (S : Sto), k ≤ vs.length → I k ρ S → Ws (forR p g ok (vs.drop k) ρ S) N R := by
    intro k
    induction hn : vs.length - k generalizing k with
    | zero =>
      intro ρ S hk h
      have e : k = vs.length := by omega
      subst e
      rw [List.drop_length, forR_nil (hok _ _ _ hk h)]
      exact ⟨post _ _ h⟩
    | succ n ih =>
      intro ρ S hk h
      have l : k < vs.length := by omega
      rw [List.drop_eq_getElem_cons l]
      obtain ⟨ρ1, h1, h2⟩ := step k vs[k] ρ S (List.getElem?_eq_getElem l) h
      rw [forR_cons (hok _ _ _ hk h) h1]
      obtain ⟨h2⟩ := h2
      cases e : g ρ1 S with
      | nx ρ2 S2 =>
        rw [e] at h2
        exact ih (k + 1) (by omega) ρ2 S2 (by omega) h2
      | rt v S2 => rw [e] at h2; exact ⟨h2⟩
      | stuck => rw [e] at h2; exact h2.elim
      | bk _ _ => rw [e] at h2; exact h2.elim
      | ct _ _ => rw [e] at h2; exact h2.elim
  have := go 0 ρ S (Nat.zero_le _) h0
  rwa [List.drop_zero] at this

theorem wiT {X : List Val → (Sto → Prop) → Sto → Prop} {f : EF} (h : Wp (f ρ S) fun v S1 => (∃ vs, v = .tup vs ∧ X vs (fun _ => True) S1) ∨ ∃ n vs, v = .ref n ∧ S1[n]? = some (.lst vs) ∧ X vs (fun S => S[n]? = some (.lst vs)) S1) : Wi (iSeq f ρ S) X := by
  obtain ⟨v, S1, e, h⟩ := h
  rcases h with ⟨vs, rfl, h⟩ | ⟨n, vs, rfl, h1, h⟩
  · exact ⟨_, _, _, by unfold iSeq; rw [e]; rfl, h⟩
  · exact ⟨_, _, _, by unfold iSeq; rw [e]; simp only [Option.bind_some, h1], h⟩
theorem wiR {X : List Val → (Sto → Prop) → Sto → Prop} (h : Wp (ga ρ S) fun vs S1 => ∃ j, vs = [.int j] ∧ X (rangeV 0 j.toNat) (fun _ => True) S1 ∧ -(2 ^ 62) ≤ j ∧ j < 2 ^ 62) : Wi (iRg1 ga ρ S) X := by
  obtain ⟨v, S1, e, j, rfl, h, h1, h2⟩ := h
  exact ⟨_, _, _, by unfold iRg1; rw [e]; exact if_pos ⟨h1, h2⟩, h⟩
theorem wiR2 {X : List Val → (Sto → Prop) → Sto → Prop} (h : Wp (ga ρ S) fun vs S1 => ∃ i j, vs = [.int i, .int j] ∧ X (rangeV i (j - i).toNat) (fun _ => True) S1 ∧ -(2 ^ 62) ≤ i ∧ i < 2 ^ 62 ∧ -(2 ^ 62) ≤ j ∧ j < 2 ^ 62) : Wi (iRg2 ga ρ S) X := by
  obtain ⟨v, S1, e, i, j, rfl, h, h1⟩ := h
  exact ⟨_, _, _, by unfold iRg2; rw [e]; exact if_pos h1, h⟩
theorem wiE {X : List Val → (Sto → Prop) → Sto → Prop} (h : Wp (ga ρ S) fun vs S1 => (∃ ws, vs = [.tup ws] ∧ X (enumV ws) (fun _ => True) S1) ∨ ∃ n ws, vs = [.ref n] ∧ S1[n]? = some (.lst ws) ∧ X (enumV ws) (fun S => S[n]? = some (.lst ws)) S1) : Wi (iEn ga ρ S) X := by
  obtain ⟨v, S1, e, h⟩ := h
  rcases h with ⟨vs, rfl, h⟩ | ⟨n, vs, rfl, h1, h⟩
  · exact ⟨_, _, _, by unfold iEn; rw [e]; rfl, h⟩
  · exact ⟨_, _, _, by unfold iEn; rw [e]; simp only [Option.bind_some, h1], h⟩

theorem wLc {fi : IF} {own : List Nat} (h : Wi (fi ρ S) fun vs ok S1 => Wp (lcR p t f ok (wipeR ρ own) vs [] S1) fun ys S2 => Nw S2 (.lst ys) Q) : Wp (eLc p fi t f own ρ S) Q := by
  obtain ⟨vs, ok, S1, e, h⟩ := h
  unfold eLc
  rw [e]
  exact Wp.bind (h.imp fun ys S2 h => ⟨_, _, rfl, h.use⟩)

theorem lc_pure {ok : Sto → Prop} {vs : List Val} (b : Val → Bool) (g : Val → Val) (hok : ok S) (hl : vs.length < 1000000)
    (h : ∀ v ∈ vs, Bn (p.bind v ρ) fun ρ1 => Wp (t ρ1 S) fun c T => c = b v ∧ T = S ∧ (b v = true → Wp (f ρ1 S) fun y T => y = g v ∧ T = S)) (q : A ((vs.filter b).map g) S) : Wp (lcR p t f ok ρ vs [] S) A := by
  have := lcR_pure (p := p) (t := t) (f := f) (ok := ok) (ρ := ρ) (S := S) hok b g vs [] (by simpa using hl) fun v hv => by
    obtain ⟨ρ1, h1, c, T, h2, rfl, rfl, h3⟩ := h v hv
    refine ⟨ρ1, h1, h2, fun hb => ?_⟩
    obtain ⟨y, T2, h4, rfl, rfl⟩ := h3 hb
    exact h4
  exact ⟨_, _, this, by simpa using q⟩

theorem lc_inv {ok : Sto → Prop} {vs : List Val} (I : Nat → List Val → Sto → Prop) (hl : vs.length < 900000) (h0 : I 0 [] S) (hok : ∀ i a S, i ≤ vs.length → I i a S → ok S) (hlen : ∀ i a S, I i a S → a.length ≤ i)
    (step : ∀ i v a S, vs[i]? = some v → I i a S → Bn (p.bind v ρ) fun ρ1 => Wp (t ρ1 S) fun c S1 => Br c (Wp (f ρ1 S1) fun y S2 => I (i + 1) (a ++ [y]) S2) (I (i + 1) a S1))
    (q : ∀ a S, I vs.length a S → A a S) : Wp (lcR p t f ok ρ vs [] S) A := by
  have := lcR_run (p := p) (t := t) (f := f) (ok := ok) (ρ := ρ) (S := S) (fun i a S => i ≤ vs.length ∧ I i a S) hl (fun i a S h => hok i a S h.1 h.2) (fun i a S h => hlen i a S h.2) ⟨Nat.zero_le _, h0⟩ fun i v a S hv h => by
    have hi := (List.getElem?_eq_some_iff.mp hv).1
    obtain ⟨ρ1, h1, c, S1, h2, h3, h4⟩ := step i v a S hv h.2
    refine ⟨ρ1, h1, ?_⟩
    cases c with
    | true =>
      obtain ⟨y, S2, h5, h6⟩ := h3 rfl
      exact .inl ⟨S1, y, S2, h2, h5, hi, h6⟩
    | false => exact .inr ⟨S1, h2, hi, h4 rfl⟩
  obtain ⟨a, S1, e, _, h⟩ := this
  exact ⟨a, S1, e, q a S1 h⟩

theorem ws_while {tb : BF} {g : SF} (M : Rho → Sto → Nat) (I : Rho → Sto → Prop) (h0 : I ρ S)
    (step : ∀ ρ S, I ρ S → Wp (tb ρ S) fun b S1 => Br b (Ws (g ρ S1) (fun ρ2 S2 => I ρ2 S2 ∧ M ρ2 S2 < M ρ S) R) (N ρ S1)) : Ws (sWhile tb g ρ S) N R := by
  have go : ∀ (n : Nat) (ρ : Rho) (S : Sto), M ρ S < n → I ρ S → Ws (whR tb g n ρ S) N R := by
    intro n
    induction n with
    | zero => intro ρ S h; omega
    | succ n ih =>
      intro ρ S hm hI
      obtain ⟨b, S1, e, h1, h2⟩ := step ρ S hI
      cases b with
      | false =>
        rw [whR]
        simp only [e]
        exact ⟨h2 rfl⟩
      | true =>
        obtain ⟨h3⟩ := h1 rfl
        rw [whR]
        cases e2 : g ρ S1 with
        | nx ρ2 S2 =>
          rw [e2] at h3
          simp only [e, e2]
          exact ih ρ2 S2 (by have := h3.2; omega) h3.1
        | rt v S2 =>
          rw [e2] at h3
          simp only [e, e2]
          exact ⟨h3⟩
        | stuck => rw [e2] at h3; exact h3.elim
        | bk _ _ => rw [e2] at h3; exact h3.elim
        | ct _ _ => rw [e2] at h3; exact h3.elim
  have h := go (M ρ S + 1) ρ S (Nat.lt_succ_self _) h0
  have ns : whR tb g (M ρ S + 1) ρ S ≠ .stuck := fun z => by rw [z] at h; exact h.h
  rw [sWhile_eq rfl ns]
  exact h
end
theorem Kn.at {S T : Sto} (k : Kn S T) {n : Nat} {o : Ob} (h : S[n]? = some o) : T[n]? = some o := k n o h
theorem Kx.at {x : Nat} {S T : Sto} (k : Kx x S T) {n : Nat} {o : Ob} (hn : n ≠ x) (h : S[n]? = some o) : T[n]? = some o := k n o hn h
theorem tf {P : Prop} (h : true = false) : P := nomatch h
theorem lt_of_at {S : Sto} {n : Nat} {o : Ob} (h : S[n]? = some o) : n < S.length := (List.getElem?_eq_some_iff.mp h).1
end AL
namespace AL
open PySem PySem.Spec PyProof.Rows L2 G Th
variable [TT]
section
variable {ρ : Rho} {S : Sto} {ga gk : AF} {Q : Val → Sto → Prop}
theorem wDefK {F : FA} {n m : Nat} {gA : List Val → List Val → List Val} (h : Wp (ga ρ S) fun vs S1 => Wp (gk ρ S1) fun ws S2 => Sd (vs.length = n ∧ ws.length = m) (Wp (F (gA vs ws) S2) Q)) : Wp (eDefK F n m gA ga gk ρ S) Q := Wp.bind (h.imp fun x S1 h => Wp.bind (h.imp fun y S2 h => by
  show Wp (if x.length = n ∧ y.length = m then F (gA x y) S2 else none) Q
  rw [if_pos h.1]
  exact h.2))
theorem vIsi {x : Val} {T a : String} {b : Bool} (ht : tyN x S = some a) (hk : L2.kitB a T = some b) (q : Q (.bl b) S) : Wp (gIsi T x S) Q := ⟨_, _, by simp only [gIsi, ht, Option.bind_some, hk, Option.map_some], q⟩
theorem vAll {x : Val} {n : Nat} {bs : List Bool} (hx : x = .ref n) (h : S[n]? = some (.lst (bs.map Val.bl))) (q : Q (.bl (bs.all id)) S) : Wp (gAll [x] S) Q := by
  subst hx
  exact ⟨_, _, by simp only [gAll, h, bls_map, Option.map_some], q⟩
theorem vIsT {x y : Val} {a b : Bool} (hx : x = .bl a) (hy : y = .bl b) (q : Q (.bl (decide (a = b))) S) : Wp (gIsT x y S) Q := by subst hx hy; exact ⟨_, _, rfl, q⟩
theorem vIsNT {x y : Val} {a b : Bool} (hx : x = .bl a) (hy : y = .bl b) (q : Q (.bl (!decide (a = b))) S) : Wp (gIsNT x y S) Q := by subst hx hy; exact ⟨_, _, rfl, q⟩
theorem vIntB {x : Val} {b : Bool} (hx : x = .bl b) (q : Q (.int (if b then 1 else 0)) S) : Wp (gInt [x] S) Q := by subst hx; exact ⟨_, _, rfl, q⟩
theorem vCatL {x y : Val} {n m : Nat} {vs ws : List Val} (hx : x = .ref n) (hy : y = .ref m) (h : S[n]? = some (.lst vs)) (h' : S[m]? = some (.lst ws)) (hl : vs.length + ws.length ≤ 1000000) (q : Nw S (.lst (vs ++ ws)) Q) : Wp (gAdd x y S) Q := by
  subst hx hy
  exact ⟨_, _, by simp only [gAdd, h, h', if_pos (mill hl)], q.use⟩
theorem vPop {x : Val} {n k : Nat} {i : Int} {vs : List Val} {v : Val} (hx : x = .ref n) (h : S[n]? = some (.lst vs)) (hi : i = (k : Nat)) (hk : vs[k]? = some v) (hl : vs.length < 1000000) (q : Pt S n (.lst (vs.eraseIdx k)) (Q v)) : Wp (gPop x [.int i] S) Q := by
  subst hx hi
  have lt := (List.getElem?_eq_some_iff.mp hk).1
  have e : seqIndex? ((k : Nat) : Int) vs.length = some k := by
    unfold seqIndex?
    simp only []
    first
      | (rw [if_neg (by omega)]; simp; omega)
      | (simp; omega)
  refine ⟨v, _, ?_, q.use h⟩
  simp only [gPop, h]
  rw [if_pos (by omega)]
  simp only [e, hk]
theorem wiZ {X : List Val → (Sto → Prop) → Sto → Prop} (h : Wp (ga ρ S) fun vs S1 => ∃ as bs, vs = [.tup as, .tup bs] ∧ X (zipV as bs) (fun _ => True) S1) : Wi (iZp ga ρ S) X := by
  obtain ⟨v, S1, e, as, bs, rfl, h⟩ := h
  exact ⟨_, _, _, by unfold iZp; rw [e]; rfl, h⟩
end
end AL
namespace AL
open PySem PySem.Spec PyProof.Rows L2 G Th
variable [TT]
def maxI : Int → List Int → Int
  | a, [] => a
  | a, b :: r => maxI (if a < b then b else a) r
section
variable {X : Cx} {K : PySem.W.Frag}
end
section
variable {ρ : Rho} {S : Sto} {Q : Val → Sto → Prop} {N : Rho → Sto → Prop} {R : Val → Sto → Prop}
end
end AL
namespace AL
open PySem PySem.Spec PyProof.Rows L2 G Th
variable [TT]
section
variable {X : Cx} {K : PySem.W.Frag}
end
end AL
namespace AL
open PySem PySem.Spec PyProof.Rows L2 G
variable [TT]
section
variable {X : Cx} {K : PySem.W.Frag}
theorem hu65 {k : Nat} {A : Around} (r : Room k A) : A.units + 65 < cLine := by have := r.un; omega
end
end AL
namespace AL
open PySem PySem.Spec PyProof.Rows L2 G Th
variable [TT]
def isX : Val → Option (Str × List Val)
  | .tup (.scr _ :: .str c :: vs) => some (c, vs)
  | _ => none
structure XR (K : PySem.W.Frag) (mg : Str → Option Value) (H : Hp) (m : List Addr) (c : Str) (vs : List Val) (cls : Value) (d : Option Addr) : Prop where
  cl : mg c = some cls
  fl : ∃ (dd : Addr) (fs : List (Str × V)), d = some dd ∧ H dd = some (.xd fs) ∧ ∀ (i : Nat) (n : Str) (v : Val), (xfs c)[i]? = some n → vs[i]? = some v → ∃ u, fs.lookup n = some u ∧ VR K H m u v
def PX (K : PySem.W.Frag) (mg : Str → Option Value) (m : List Addr) (H : Hp) (Q : VK) (Ek : XK) (v : Val) (S : Sto) : Prop := match isX v with
  | some (c, vs) => ∀ m' H' cls d, Ext m H m' H' → Rel K m' S H' → XR K mg H' m' c vs cls d → Ek cls d H'
  | none => ∀ m' u H', Ext m H m' H' → Rel K m' S H' → VR K H' m' u v → Q u H'
def PostX (K : PySem.W.Frag) (mg : Str → Option Value) (m : List Addr) (H : Hp) (D : Ends) (Ek : XK) : Res → Prop
  | .stuck => False
  | .nx ρ S => ∀ m' σ' H', Ext m H m' H' → Rel K m' S H' → RhoR K H' m' ρ σ' → D.nx σ' H'
  | .rt v S => PX K mg m H D.rt Ek v S
  | .bk ρ S => ∀ m' σ' H', Ext m H m' H' → Rel K m' S H' → RhoR K H' m' ρ σ' → D.bk σ' H'
  | .ct ρ S => ∀ m' σ' H', Ext m H m' H' → Rel K m' S H' → RhoR K H' m' ρ σ' → D.ct σ' H'
section
variable {K : PySem.W.Frag} {mg : Str → Option Value} {m m1 : List Addr} {H H1 : Hp} {Q Q' : VK} {Ek : XK} {v : Val} {S : Sto} {D : Ends}
theorem PX.ext (h : PX K mg m H Q Ek v S) (E : Ext m H m1 H1) : PX K mg m1 H1 Q Ek v S := by
  unfold PX at h ⊢
  split
  · next c vs e =>
    rw [e] at h
    exact fun m' H' cls d E' R x => h m' H' cls d (E.trans E') R x
  · next e =>
    rw [e] at h
    exact fun m' u H' E' R x => h m' u H' (E.trans E') R x
theorem PX.no (hx : isX v = none) : PX K mg m H Q Ek v S ↔ ∀ m' u H', Ext m H m' H' → Rel K m' S H' → VR K H' m' u v → Q u H' := by
  unfold PX
  rw [hx]
theorem PostX.ext {r : Res} (h : PostX K mg m H D Ek r) (E : Ext m H m1 H1) : PostX K mg m1 H1 D Ek r := by
  cases r with
  | stuck => exact h
  | nx ρ S => exact fun m' σ' H' E' => h m' σ' H' (E.trans E')
  | rt ρ S => exact PX.ext h E
  | bk ρ S => exact fun m' σ' H' E' => h m' σ' H' (E.trans E')
  | ct ρ S => exact fun m' σ' H' E' => h m' σ' H' (E.trans E')
end
section
variable {X : Cx} {Ek : XK} {W : WX} {st : Stmt} {sts rest : List Stmt} {e a b c o i : Expr} {es : List Expr} {pos : Pos} {f fa fb fc : EF} {g g1 g2 : SF} {tb : BF} {K : PySem.W.Frag} {ga : AF}
end
structure FnX (P : Program) (w : World) (K : PySem.W.Frag) (mg : Str → Option Value) (base : Heap) (k : Nat) (f : Addr) (fd : FuncData) (ps : List Str) (sp : Sp) : Prop where
  len : ∀ vs H Q E, sp vs H Q E → vs.length = ps.length
  run : ∀ (A : Around) (outer : List Env) (s : Shared) (H : Hp) (args : Args) (us : List Value) (vs : List V) (Q : VK) (E : XK),
    A.guards = some [] → Room k A → Env0 P w K mg base A outer s H → BindsTo s fd args (ps.zip us) → Vals vs us → sp vs H Q E →
      codeAny (model P w) A (.call (.ref f) args) (CR (CX P w) outer P w H s Q E) s
def spX (K : PySem.W.Frag) (mg : Str → Option Value) (n : Nat) (F : FA) : Sp := fun us H Q Ek => us.length = n ∧ ∃ m S vs v S', Rel K m S H ∧ VRs K H m us vs ∧ F vs S = some (v, S') ∧ PX K mg m H Q Ek v S'
structure DefX (P : Program) (w : World) (K : PySem.W.Frag) (mg : Str → Option Value) (base : Heap) (k : Nat) (x : Str) (ps : List Str) (F : FA) : Prop where
  ex : ∃ f fd, FnX P w K mg base k f fd ps (spX K mg ps.length F) ∧ Binds K fd ps [] ∧ mg x = some (.ref f) ∧ PySem.W.keepIn K (.ref f) = true
end AL
namespace AL
open PySem PySem.Spec PyProof.Rows L2 G Th

structure OexA (K : PySem.W.Frag) (C : Addr) : Prop where
  cls : ∃ (B newId initId : String) (bmB : List Value) (nm q : Str) (N : Addr) (bs bm : List Value) (sn : List Str) (sub : List Value) (ab : Bool) (col : Option Bool) (dd : Option Addr) (k0 k1 k2 k3 k5 : Option Value),
    K.lookup C = some (excClassObj nm q C N bs bm true sn sub ab col dd k0 k1 k2 k3 k5 newId) ∧ PySem.W.excTail bmB bm = true ∧ ExcBaseFacts B newId initId bmB ∧ StoreFacts B bmB "object.__setattr__" "object"
  saC : PySem.W.findIn K (.ref C) "__setattr__" = some (some (.builtin "object.__setattr__"))
  beC : PySem.W.subIn K (.ref C) (.type "BaseException") = some true
  ttC : PySem.W.typeIn K (.ref C) = some (.type "type")
  keC : PySem.W.keepIn K (.ref C) = true

structure OexL (K : PySem.W.Frag) (C : Addr) : Prop where
  cls : ∃ (nm q : Str) (N : Addr) (bs bm : List Value) (sn : List Str) (sub : List Value) (ab : Bool) (col : Option Bool) (dd : Option Addr) (k0 k1 k2 k3 k5 : Option Value),
    K.lookup C = some (excClassObj nm q C N bs bm true sn sub ab col dd k0 k1 k2 k3 k5 "LookupError.__new__") ∧ PySem.W.excTail [.type "LookupError", .type "Exception", .type "BaseException", .type "object"] bm = true
  sa : PySem.W.findIn K (.ref C) "__setattr__" = some (some (.builtin "object.__setattr__"))
  be : PySem.W.subIn K (.ref C) (.type "BaseException") = some true
  tt : PySem.W.typeIn K (.ref C) = some (.type "type")
  ke : PySem.W.keepIn K (.ref C) = true
theorem OexL.a {K : PySem.W.Frag} {C : Addr} (T : OexL K C) : OexA K C := by
  obtain ⟨⟨nm, q, N, bs, bm, sn, sub, ab, col, dd, k0, k1, k2, k3, k5, e, t⟩, h1, h2, h3, h4⟩ := T
  exact ⟨⟨_, _, _, _, nm, q, N, bs, bm, sn, sub, ab, col, dd, k0, k1, k2, k3, k5, e, t, F.excBase_LookupError, F.store_LookupError⟩, h1, h2, h3, h4⟩
theorem tail_VE : ∀ l : List Value, PySem.HandSPX.refsVE l = true → PySem.W.excTail PySem.HandSPX.veTail l = true
  | [], z => by cases z
  | a :: r, z => by
    rcases PySem.HandSPX.refsVE_cases _ z with ⟨c, r2, e, z2⟩ | e
    · cases e
      exact tail_VE r z2
    · rw [e]
      decide +kernel
theorem oexA_VE {K : PySem.W.Frag} {C : Addr} (T : OexC K C) : OexA K C := by
  obtain ⟨⟨nm, q, N, bs, bm, sn, sub, ab, col, dd, k0, k1, k2, k3, k5, e, t⟩, h1, h2, h3, h4⟩ := T
  exact ⟨⟨_, _, _, _, nm, q, N, bs, bm, sn, sub, ab, col, dd, k0, k1, k2, k3, k5, e, tail_VE _ t, F.excBase_ValueError, F.store_ValueError⟩, h1, h2, h3, h4⟩
instance {K : PySem.W.Frag} {C : Addr} : Coe (OexC K C) (OexA K C) := ⟨oexA_VE⟩
instance {K : PySem.W.Frag} {C : Addr} : Coe (OexL K C) (OexA K C) := ⟨OexL.a⟩
end AL
namespace AL
open PySem PySem.Spec PyProof.Rows L2 G Th
variable [TT]
def noX (F : FA) : FA := fun vs S => (F vs S).bind fun p => match isX p.1 with
  | none => some p
  | some _ => none
theorem fnx_g {P : Program} {w : World} {K : PySem.W.Frag} {mg : Str → Option Value} {base : Heap} {k : Nat} {f : Addr} {fd : FuncData} {ps : List Str} {F : FA} (G : FnX P w K mg base k f fd ps (spX K mg ps.length F)) :
    FnG P w K mg base k f fd ps (spA K ps.length (noX F)) := by
  refine ⟨fun vs H Q E h => h.1, fun A outer s H args us vs Q E hg hr e0 hb r h => ?_⟩
  obtain ⟨hl, m, S, ws, v, S', R, rv, e, q⟩ := h
  obtain ⟨⟨v1, S1⟩, e1, e⟩ := Option.bind_eq_some_iff.mp e
  dsimp only at e
  split at e
  · next hx =>
    cases e
    refine codeAny_mono (G.run A outer s H args us vs Q (fun _ _ _ => False) hg hr e0 hb r ⟨hl, m, S, ws, v, S', R, rv, e1, (PX.no hx).mpr q⟩) ?_
    intro res s' c
    match res, c with
    | .error _, c =>
      obtain ⟨_, _, _, _, _, _, _, _, _, _, _, _, z⟩ := c
      exact z.elim
    | .ok (.ret _), c => exact c
    | .ok .next, c => exact c
    | .ok .brk, c => exact c
    | .ok .cont, c => exact c
  · cases e
theorem DefX.no {P : Program} {w : World} {K : PySem.W.Frag} {mg : Str → Option Value} {base : Heap} {k : Nat} {x : Str} {ps : List Str} {F : FA} (D : DefX P w K mg base k x ps F) : Def P w K mg base k x ps (noX F) := by
  obtain ⟨f, fd, h1, h2, h3, h4⟩ := D.ex
  exact ⟨f, fd, fnx_g h1, h2, h3, h4⟩
def Xs (v : Val) (A B : Prop) : Prop := (isX v = none ∧ A) ∨ (∃ c vs, isX v = some (c, vs) ∧ B)
theorem Xs.no {v : Val} {A B : Prop} (h : isX v = none) (a : A) : Xs v A B := .inl ⟨h, a⟩
section
variable {ρ : Rho} {S : Sto} {f : EF} {ga : AF} {g h : SF} {N : Rho → Sto → Prop} {R : Val → Sto → Prop} {p : Pat} {c : Str}
end
end AL
namespace AL
open PySem PySem.Spec PyProof.Rows L2 G Th
variable [TT]
section
variable {K : PySem.W.Frag}
end
section
variable {X : Cx} {K : PySem.W.Frag}
noncomputable def gSlA : Val → Option Int → Option Int → Sto → Option (Val × Sto) := fun x lo hi S => match x with
  | .tup vs => some (.tup (cutL vs lo hi), S)
  | _ => gSl x lo hi S
def rSlB (K : PySem.W.Frag) : V → Option Int → Option Int → Hp → VK → Prop := fun x lo hi H Q => L2.rSlA K x lo hi H Q ∨ AL.rSlA K x lo hi H Q
theorem sl_B : SlR X (rSlB X.K) := sl_tupA.or sl_A
theorem cut_whole {α : Type} {vs : List α} {lo hi : Option Int} (h : HT.sIx vs.length 0 lo = 0 ∧ HT.sIx vs.length vs.length hi = vs.length) : cutL vs lo hi = vs := by
  unfold cutL
  rw [h.1, h.2, List.drop_zero, Nat.sub_zero, List.take_of_length_le (Nat.le_refl _)]
theorem oSlA : SlA K (rSlB K) gSlA := by
  intro m S H x lo hi v S' u Q R ru e q
  cases x with
  | tup vs =>
    simp only [gSlA] at e
    cases e
    cases ru with
    | tup ha ra =>
      refine .inl ⟨_, _, rfl, ha.sq, fun hw => ?_, fun hw => newTup R (ra.cut lo hi) q⟩
      rw [ra.len] at hw
      rw [cut_whole hw] at q
      exact q m _ H (.refl _ _) R (.tup ha ra)
  | _ => exact .inr (oSl m S H _ lo hi v S' u Q R ru e q)
theorem vSlA {S : Sto} {Q : Val → Sto → Prop} {x : Val} {vs : List Val} {lo hi : Option Int} (hx : x = .tup vs) (q : Q (.tup (cutL vs lo hi)) S) : Wp (gSlA x lo hi S) Q := by
  subst hx
  exact ⟨_, _, rfl, q⟩
end
end AL
namespace AL
open PySem PySem.Spec PyProof.Rows L2 G Th
variable [TT]
section
variable {X : Cx} {K : PySem.W.Frag}
def leI (a b : Int) : Bool := decide (a ≤ b)
def sortI (l : List Int) : List Int := l.mergeSort leI
theorem sortI_uniq {xs ys : List Int} (hp : ys.Perm xs) (hs : ys.Pairwise (· ≤ ·)) : ys = sortI xs := by
  have p1 : (sortI xs).Perm xs := List.mergeSort_perm xs leI
  have p2 : (sortI xs).Pairwise (fun a b => leI a b = true) := List.pairwise_mergeSort (fun a b c h1 h2 => by simp only [leI, decide_eq_true_eq] at *; omega) (fun a b => by simp only [leI, Bool.or_eq_true, decide_eq_true_eq]; omega) xs
  have p3 : (sortI xs).Pairwise (· ≤ ·) := p2.imp fun h => of_decide_eq_true h
  exact List.Perm.eq_of_pairwise (fun a b _ _ h1 h2 => Int.le_antisymm h1 h2) hs p3 (hp.trans p1.symm)
def keysI : List (Key × Val) → Option (List Int)
  | [] => some []
  | (.inl i, _) :: r => (keysI r).map (i :: ·)
  | _ => none
theorem keysI_eq : ∀ {kvs : List (Key × Val)} {ks : List Int}, keysI kvs = some ks → kvs.map (·.1) = ks.map Sum.inl
  | [], ks, h => by cases h; rfl
  | (.inl i, v) :: r, ks, h => by
    obtain ⟨t, h1, h2⟩ := Option.map_eq_some_iff.mp h
    cases h2
    rw [List.map_cons, keysI_eq h1]
    rfl
  | (.inr x, v) :: r, ks, h => by cases h
end
end AL
namespace AL
open PySem PySem.Spec PyProof.Rows L2 G Th
variable [TT]
section
variable {X : Cx} {K : PySem.W.Frag}
end
end AL
namespace K19
open PySem PySem.Spec PyProof.Rows L2 G Th AL
open K37 (common_divisor_ common_divisor_B)
end K19
namespace AL
open PySem PySem.Spec PyProof.Rows L2 G Th
variable [TT]

section
variable {ρ : Rho} {S : Sto} {Q : Val → Sto → Prop} {f f1 f2 : EF}
end
end AL
namespace AL
open PySem PySem.Spec PyProof.Rows L2 G Th

end AL
namespace AL
open PySem PySem.Spec PyProof.Rows L2 G Th
variable [TT]

def Mem (f : Int → Bool) (k : Nat) (ns : List Int) : Prop := ns.Pairwise (· < ·) ∧ (∀ i, i ∈ ns ↔ f i = true) ∧ ns.length = k
section
variable {ρ : Rho} {S : Sto} {Q : Val → Sto → Prop} {w : World} {fo fi : EF}
end
end AL
namespace G
open PySem PySem.Spec PyProof.Rows L2 LamX
end G
namespace G
open PySem PySem.Spec PyProof.Rows L2 LamX
end G
namespace AL
open PySem PySem.Spec PyProof.Rows L2 G Th LamX
variable [TT]
end AL
namespace AL
open PySem PySem.Spec PyProof.Rows L2 G Th LamX
variable [TT]

def ClsV (mg : Str → Option Value) (C : Str) (v : V) : Prop := (∃ A, mg C = some (.ref A) ∧ v = .ref A) ∨ (mg C = none ∧ ∃ T, bootBuiltins C = some (.type T) ∧ v = .ty T)
def vOf : V → Value
  | .ref a => .ref a
  | .ty n => .type n
  | _ => .none
inductive ClsVs (mg : Str → Option Value) : List Str → List V → Prop
  | nil : ClsVs mg [] []
  | cons {C : Str} {v : V} {Cs : List Str} {vs : List V} : ClsV mg C v → ClsVs mg Cs vs → ClsVs mg (C :: Cs) (v :: vs)
theorem ClsV.rel {mg : Str → Option Value} {C : Str} {v : V} (h : ClsV mg C v) {u : Value} (r : RelV v u) : u = vOf v := by
  rcases h with ⟨A, _, rfl⟩ | ⟨_, T, _, rfl⟩ <;> exact r
theorem ClsVs.rel {mg : Str → Option Value} : ∀ {Cs : List Str} {vs : List V} {us : List Value}, ClsVs mg Cs vs → Vals vs us → us = vs.map vOf
  | _, _, _, .nil, r => by cases r; rfl
  | _, _, _, .cons h t, r => by
    cases r with
    | cons a b => rw [h.rel a, t.rel b]; rfl
section
variable {X : Cx} {a D dd : Addr} {oe : Obj} {pn : List (Addr × Obj)}
variable {c e : Str} {i : Nat} {vs : List Val} {p p1 p2 pos : Pos}
end
section
variable {ρ : Rho} {S : Sto} {N : Rho → Sto → Prop} {R : Val → Sto → Prop} {Q : Val → Sto → Prop} {g : SF} {h : Str → List Val → Val → SF} {cs : List Str} {i : Nat} {fb : EF}
end
end AL
namespace AL
open PySem PySem.Spec PyProof.Rows L2 G Th LamX
variable [TT]
end AL
namespace K10
open PySem PySem.Spec PyProof.Rows L2 G Th AL
open K37 (common_divisor_ common_divisor_B)
open K08 (feedL_ feedL_B drawL_ drawL_B divisorL_ divisorL_B madeL_ madeL_B fieldL_ fieldL_B)
end K10
namespace AL
open PySem PySem.Spec PyProof.Rows L2 G Th
variable [TT]
section
variable {ρ : Rho} {S : Sto} {f : EF} {ga : AF} {Q : Val → Sto → Prop} {x : Val}
end
end AL
namespace AL
open PySem PySem.Spec PyProof.Rows L2 G Th
variable [TT]
def rInTD (K : PySem.W.Frag) : R2 := fun x y H Q => ∃ d ds, Dp K H x d ∧ Dp K H y (.tuple ds) ∧ SeqAt.shaped d = true ∧ SeqAt.shaped (.tuple ds) = true ∧ Q (.bl (ds.any fun z => PyData.eqv z d)) H
section
variable {X : Cx} {K : PySem.W.Frag}
omit [TT] in
theorem op_inTD (hu : X.A.units + 65 < cLine) : OpR X (compareOp .In) (rInTD X.K) := by
  intro pins s σ H x y v u Q I rx ry h
  obtain ⟨d, ds, hd, he, sd, se, q⟩ := h
  obtain ⟨as, r1⟩ := Dp.reads I d x v hd rx
  obtain ⟨bs, r2⟩ := Dp.reads I (.tuple ds) y u he ry
  exact SeqAt.in_tuple_reads r2 r1 (SeqAt.canLay_of_shaped se) (SeqAt.canLay_of_shaped sd) (room_in_shaped sd hu) ⟨.bl _, H, I, rfl, q⟩
def gInTD : Val → Val → Sto → Option (Val × Sto) := fun x y S => match toD S 40 x, toD S 40 y with
  | some d, some (.tuple ds) => if SeqAt.shaped d = true ∧ SeqAt.shaped (.tuple ds) = true then some (.bl (ds.any fun z => PyData.eqv z d), S) else none
  | _, _ => none
theorem oInTD : OpA K (rInTD K) gInTD := by
  intro m S H x y v S' u w Q R ru rw_ e q
  unfold gInTD at e
  split at e
  · next d ds e1 e2 =>
    split at e
    · next hs =>
      cases e
      exact ⟨d, ds, toD_dp R 40 _ _ _ ru e1, toD_dp R 40 _ _ _ rw_ e2, hs.1, hs.2, q m _ H (.refl _ _) R (.bl _)⟩
    · cases e
  · cases e
end
section
variable {S : Sto} {Q : Val → Sto → Prop}
end
end AL
namespace AL
open PySem PySem.Spec PyProof.Rows L2 G Th
end AL
namespace AL
open PySem PySem.Spec PyProof.Rows L2 G Th
def chV (x : Str) : List Val := x.cps.toList.map fun c => .str ⟨#[c]⟩
def iChr (f : EF) : IF := fun ρ S => (f ρ S).bind fun p => match p.1 with
  | .str x => some (chV x, fun _ => True, p.2)
  | _ => none
section
variable [TT] {X : Cx} {K : PySem.W.Frag}
theorem it_chr {x : Str} {m0 : List Addr} {H0 : Hp} : ItA K (Its x) m0 H0 (chV x) (fun _ => True) := by
  refine ⟨fun i m S H E R _ v hv => ?_, fun m S H E R _ => ?_⟩
  · unfold chV at hv
    rw [List.getElem?_map] at hv
    obtain ⟨c, hc, rfl⟩ := Option.map_eq_some_iff.mp hv
    rw [Array.getElem?_toList] at hc
    refine ⟨(Array.getElem?_eq_some_iff.mp hc).1, fun y H' hy => ?_⟩
    obtain ⟨rfl, c', hc', rfl⟩ := hy
    rw [hc] at hc'
    cases hc'
    exact ⟨R, .refl _ _, .str _⟩
  · show x.cps.size ≤ (chV x).length
    simp [chV]
theorem aichr {tg e : Expr} {f : EF} (he : AE X e f) : AI X tg e (iChr f) := pi_w (pi_str he) fun σ H W h => by
  obtain ⟨m, ρ, S, vs, ok, S', R, r, e, q⟩ := h
  obtain ⟨⟨x, S1⟩, e1, e⟩ := Option.bind_eq_some_iff.mp e
  dsimp only at e
  split at e
  · cases e
    refine ⟨m, ρ, S, _, _, R, r, e1, fun m1 u H1 E1 R1 r1 => ?_⟩
    cases r1
    exact ⟨_, rfl, q m1 H1 _ E1 R1 it_chr⟩
  · cases e
def inTx (i j : Str) : Bool := !(Builtin.Str.occurrences j i 0 j.length 1).isEmpty
def gInT (neg : Bool) : Val → Val → Sto → Option (Val × Sto) := fun x y S => match x, y with
  | .str i, .str j => some (.bl (if neg then !inTx i j else inTx i j), S)
  | _, _ => none
def rInT (neg : Bool) : R2 := fun x y H Q => ∃ i j, x = .str i ∧ y = .str j ∧ Q (.bl (if neg then !inTx i j else inTx i j)) H
theorem oInT {neg : Bool} : OpA K (rInT neg) (gInT neg) := by
  intro m S H x y v S' u w Q R ru rw_ e q
  unfold gInT at e
  split at e
  · cases e
    cases ru
    cases rw_
    exact ⟨_, _, rfl, rfl, q m _ H (.refl _ _) R (.bl _)⟩
  · cases e
theorem opInT : OpR X (compareOp .In) (rInT false) := op_in_str
def gLtT : Val → Val → Sto → Option (Val × Sto) := fun x y S => match x, y with
  | .str i, .str j => some (.bl (decide (i.cps.toList < j.cps.toList)), S)
  | _, _ => none
theorem oLtT : OpA K (fun x y H Q => ∃ i j, x = .str i ∧ y = .str j ∧ Q (.bl (decide (i.cps.toList < j.cps.toList))) H) gLtT := by
  intro m S H x y v S' u w Q R ru rw_ e q
  unfold gLtT at e
  split at e
  · cases e
    cases ru
    cases rw_
    exact ⟨_, _, rfl, rfl, q m _ H (.refl _ _) R (.bl _)⟩
  · cases e
end
section
variable {ρ : Rho} {S : Sto}
theorem wiC {X : List Val → (Sto → Prop) → Sto → Prop} {f : EF} (h : Wp (f ρ S) fun v S1 => ∃ x, v = .str x ∧ X (chV x) (fun _ => True) S1) : Wi (iChr f ρ S) X := by
  obtain ⟨v, S1, e, x, rfl, h⟩ := h
  exact ⟨_, _, _, by unfold iChr; rw [e]; rfl, h⟩
variable {x y : Val} {i j : Str} {Q : Val → Sto → Prop}
theorem vInT {neg : Bool} (hx : x = .str i) (hy : y = .str j) (q : Q (.bl (if neg then !inTx i j else inTx i j)) S) : Wp (gInT neg x y S) Q := by
  subst hx hy
  exact ⟨_, _, rfl, q⟩
theorem vLtT (hx : x = .str i) (hy : y = .str j) (q : Q (.bl (decide (i.cps.toList < j.cps.toList))) S) : Wp (gLtT x y S) Q := by
  subst hx hy
  exact ⟨_, _, rfl, q⟩
end
end AL
namespace K14
open PySem PySem.Spec PyProof.Rows L2 G Th AL
open K37 (common_divisor_ common_divisor_B is_below_ is_below_B)
open K08 (feedL_ feedL_B drawL_ drawL_B divisorL_ divisorL_B madeL_ madeL_B fieldL_ fieldL_B)


noncomputable def is_number_B : SF := (sRet (eAnd (eU (gIsi "int") (eV 0)) (eNot (eU (gIsi "bool") (eV 0)))))
noncomputable def is_number_ : FA := runF 1 is_number_B
end K14
namespace AL
open PySem PySem.Spec PyProof.Rows L2 G Th
variable [TT]
section
variable {X : Cx} {K : PySem.W.Frag}
end
end AL
namespace AL
open PySem PySem.Spec PyProof.Rows L2 G
variable [TT]
theorem def_none {P : Program} {w : World} {K : PySem.W.Frag} {mg : Str → Option Value} {base : Heap} {x qual : Str} {st : Stmt} {f : Addr} {fd : FuncData} {ps : List Str} {k : Nat}
    (F : Fun K x qual st f fd) (hb : Binds K fd ps []) (hm : mg x = some (.ref f)) : Def P w K mg base k x ps (fun _ _ => none) :=
  ⟨f, fd, ⟨fun _ _ _ _ h => h.1, fun _ _ _ _ _ _ _ _ _ _ _ _ _ _ h => by
    obtain ⟨_, _, _, _, _, _, _, _, e, _⟩ := h
    cases e⟩, hb, hm, F.kp⟩
end AL
namespace AL
open PySem PySem.Spec PyProof.Rows L2 G Th
variable [TT]
def sSub2 (fo fi fp fj f : EF) : SF := fun ρ S => match f ρ S with
  | some (.tup [x, y], S) => match fo ρ S with
    | some (o, S) => match fi ρ S with
      | some (i, S) => match gSet o i x S with
        | some S => match fp ρ S with
          | some (p, S) => match fj ρ S with
            | some (j, S) => match gSet p j y S with
              | some S => .nx ρ S
              | none => .stuck
            | none => .stuck
          | none => .stuck
        | none => .stuck
      | none => .stuck
    | none => .stuck
  | _ => .stuck
section
variable {X : Cx}
theorem asu2 {o1 i1 o2 i2 e : Expr} {fo fi fp fj f : EF} {pos1 pos2 pos3 p2 : Pos} {kt : Nat} (hc : X.calm = true) (he : AE X e f) (ho : AE X o1 fo) (hi : AE X i1 fi) (hp : AE X o2 fp) (hj : AE X i2 fj)
    (ha : ∀ v, assign (.Subscript o1 i1 pos1) X.env v = (do
      let ov ← holding [v] (eval o1 X.env)
      let iv ← holding [v, ov] (eval i1 X.env)
      standAt pos1
      holding [v, ov, iv] (setItem ov iv v)
      release [v, ov, iv] []) := by intro _; rfl)
    (hb : ∀ v, assign (.Subscript o2 i2 pos2) X.env v = (do
      let ov ← holding [v] (eval o2 X.env)
      let iv ← holding [v, ov] (eval i2 X.env)
      standAt pos2
      holding [v, ov, iv] (setItem ov iv v)
      release [v, ov, iv] []) := by intro _; rfl)
    (hg1 : (assignEach [.Subscript o1 i1 pos1, .Subscript o2 i2 pos2] X.env).map (·.2) = assign (.Subscript o1 i1 pos1) X.env :: (assignEach [.Subscript o2 i2 pos2] X.env).map (·.2) := by rfl)
    (hg2 : (assignEach [.Subscript o2 i2 pos2] X.env).map (·.2) = assign (.Subscript o2 i2 pos2) X.env :: (assignEach [] X.env).map (·.2) := by rfl)
    (hn : (assignEach [.Subscript o1 i1 pos1, .Subscript o2 i2 pos2] X.env).length = 2 := by rfl) (hst : (assignEach [.Subscript o1 i1 pos1, .Subscript o2 i2 pos2] X.env).findIdx? (·.1) = none := by rfl)
    (hsw : swapsWithSole [.Tuple [.Subscript o1 i1 pos1, .Subscript o2 i2 pos2] kt pos3] e p2.line X.env = pure false := by rfl) (hw : swappedStores [.Tuple [.Subscript o1 i1 pos1, .Subscript o2 i2 pos2] kt pos3] e X.env = pure none := by rfl)
    (h1 : (assignEach [.Tuple [.Subscript o1 i1 pos1, .Subscript o2 i2 pos2] kt pos3] X.env).map (·.2) = [assign (.Tuple [.Subscript o1 i1 pos1, .Subscript o2 i2 pos2] kt pos3) X.env] := by rfl) :
    AS X (.Assign [.Tuple [.Subscript o1 i1 pos1, .Subscript o2 i2 pos2] kt pos3] e p2) (sSub2 fo fi fp fj f) := by
  refine ps_w (ps_asg he (pg_tup (n := 2) hc (pgs_cons (pg_sub ho hi set_list ha) (pgs_cons (pg_sub hp hj set_list hb) pgs_nil hg2) hg1) hn hst) hsw hw h1) fun D σ H h => ?_
  obtain ⟨m, ρ, S, R, r, q⟩ := h
  unfold sSub2 at q
  split at q
  · next x y S1 e1 =>
    split at q
    · next ov S2 e2 =>
      split at q
      · next iv S3 e3 =>
        split at q
        · next S4 e4 =>
          split at q
          · next pv S5 e5 =>
            split at q
            · next jv S6 e6 =>
              split at q
              · next S7 e7 =>
                refine ⟨m, ρ, S, _, S1, R, r, e1, fun m1 u H1 E1 R1 r1 => ?_⟩
                cases r1 with
                | tup ht rx =>
                  cases rx with
                  | cons rx rr =>
                    cases rr with
                    | cons ry rn =>
                      cases rn
                      refine ⟨_, _, rfl, ht.sq, rfl, _, _, rfl, m1, ρ, S1, ov, S2, R1, r.kp (E1.kp R), e2, fun m2 uo H2 E2 R2 r2 => ⟨m2, ρ, S2, iv, S3, R2, r.kp ((E1.trans E2).kp R), e3, fun m3 ui H3 E3 R3 r3 => ?_⟩⟩
                      refine stL m3 S3 H3 ov iv x S4 uo ui _ _ R3 (r2.kp (E3.kp R2)) r3 (rx.kp ((E2.trans E3).kp R1)) e4 fun H4 E4 R4 => ?_
                      refine ⟨_, _, rfl, m3, ρ, S4, pv, S5, R4, r.kp ((((E1.trans E2).trans E3).trans E4).kp R), e5, fun m5 up H5 E5 R5 r5 => ⟨m5, ρ, S5, jv, S6, R5, r.kp (((((E1.trans E2).trans E3).trans E4).trans E5).kp R), e6, fun m6 uj H6 E6 R6 r6 => ?_⟩⟩
                      refine stL m6 S6 H6 pv jv y S7 up uj _ _ R6 (r5.kp (E6.kp R5)) r6 (ry.kp (((((E2.trans E3).trans E4).trans E5).trans E6).kp R1)) e7 fun H7 E7 R7 => ?_
                      exact ⟨rfl, q m6 σ H7 ((((((E1.trans E2).trans E3).trans E4).trans E5).trans E6).trans E7) R7 (r.kp (((((((E1.trans E2).trans E3).trans E4).trans E5).trans E6).trans E7).kp R))⟩
              · exact q.elim
            · exact q.elim
          · exact q.elim
        · exact q.elim
      · exact q.elim
    · exact q.elim
  · exact q.elim
end
section
variable {fo fi fp fj f : EF} {ρ : Rho} {S : Sto} {N : Rho → Sto → Prop} {R : Val → Sto → Prop}
theorem ws_sub2 (h : Wp (f ρ S) fun v S1 => ∃ x y, v = .tup [x, y] ∧ Wp (fo ρ S1) fun o S2 => Wp (fi ρ S2) fun i S3 => ∃ S4, gSet o i x S3 = some S4 ∧ Wp (fp ρ S4) fun p S5 => Wp (fj ρ S5) fun j S6 => ∃ S7, gSet p j y S6 = some S7 ∧ N ρ S7) : Ws (sSub2 fo fi fp fj f ρ S) N R := by
  obtain ⟨v, S1, e1, x, y, rfl, o, S2, e2, i, S3, e3, S4, e4, p, S5, e5, j, S6, e6, S7, e7, q⟩ := h
  unfold sSub2
  simp only [e1, e2, e3, e4, e5, e6, e7]
  exact ⟨q⟩
end
end AL
namespace AL
open PySem PySem.Spec PyProof.Rows L2 G Th LamX
variable [TT]
end AL
namespace AL
open PySem PySem.Spec PyProof.Rows L2 G Th
end AL
namespace AL
open PySem PySem.Spec PyProof.Rows L2 G Th
variable [TT]
section
variable {pg : Program} {wd : World} {ar : Around} {X0 : Value → Shared → Prop} {t0 : Shared}

theorem adj_rev (n : Nat) : Builtin.Slice.sliceAdjust none none (-1) (n : Int) = ((n : Int) - 1, -1) := rfl
theorem pla_rev (n : Nat) : Builtin.Slice.slicePlaces ((n : Int) - 1) (-1) (-1) = n := by
  have neg : ¬ (-1 : Int) > 0 := by decide
  have one : (- -1 : Int) = 1 := by decide
  simp only [Builtin.Slice.slicePlaces, neg, if_false, one, Int.ediv_one]
  split <;> omega
theorem fm_congr {f g : Nat → Option Value} : ∀ (l : List Nat), (∀ x ∈ l, f x = g x) → l.filterMap f = l.filterMap g
  | [], _ => rfl
  | a :: l, h => by rw [List.filterMap_cons, List.filterMap_cons, h a (by simp), fm_congr l fun x hx => h x (List.mem_cons_of_mem _ hx)]
theorem pick_rev (xs : Array Value) : ((List.range xs.size).filterMap fun (m : Nat) => xs[(((xs.size : Int) - 1) + (m : Int) * (-1)).toNat]?).toArray = xs.toList.reverse.toArray := by
  have e : (List.range xs.size).filterMap (fun (m : Nat) => xs[(((xs.size : Int) - 1) + (m : Int) * (-1)).toNat]?) = ((List.range xs.size).map fun k => xs.size - 1 - k).filterMap (xs[·]?) := by
    rw [List.filterMap_map]
    refine fm_congr _ fun m hm => ?_
    have := List.mem_range.mp hm
    show _ = xs[xs.size - 1 - m]?
    congr 1
    omega
  rw [e, PySem.W.krv_range, List.filterMap_reverse, PySem.W.krv_all]

theorem app_rev {sl : Addr} {v1 v2 v3 : Value} {n : Nat} {Q : Int × Int × Nat → Shared → Prop} (hs : t0.heap.IsSliceOf sl v1 v2 v3) (q1 : IsPart v1 none) (q2 : IsPart v2 none) (q3 : IsPart v3 (some (-1))) (h : Q ((n : Int) - 1, -1, n) t0) :
    wpAny (model pg wd) ar (Builtin.Slice.sliceApplied (.ref sl) (pure (n : Int))) Q X0 t0 := by
  obtain ⟨so, g1, _, g3⟩ := id hs
  simp only [Builtin.Slice.sliceApplied, Builtin.Slice.sliceFields]
  have fin : wpAny (model pg wd) ar (pure ((n : Int) - 1, (-1 : Int), Builtin.Slice.slicePlaces ((n : Int) - 1) (-1) (-1)) : Sem (Int × Int × Nat)) Q X0 t0 := by rw [pla_rev]; exact wpAny_pure h
  have mid : wpAny (model pg wd) ar (match Builtin.Slice.sliceAdjust none none (-1) (n : Int) with | (a, b) => (pure (a, (-1 : Int), Builtin.Slice.slicePlaces a b (-1)) : Sem (Int × Int × Nat))) Q X0 t0 := by rw [adj_rev n]; exact fin
  refine wpAny_bind (wpAny_bind (wpAny_field g1 g3 (x := v1) rfl (wpAny_bind (wpAny_field g1 g3 (x := v2) rfl (wpAny_bind (wpAny_field g1 g3 (x := v3) rfl (wpAny_pure (wpAny_bind (HT.slicePart_ q3 ?_)))))))))
  show wpAny _ _ (if ((-1 : Int) == 0) = true then _ else _) _ _ t0
  rw [if_neg (by decide)]
  exact wpAny_bind (HT.slicePart_ q1 (wpAny_bind (HT.slicePart_ q2 (wpAny_bind (wpAny_pure mid)))))

theorem tup_rev {tt sl : Addr} {its : Array Value} {v1 v2 v3 : Value} {Q : Value → Shared → Prop} (ht : IsTup t0.heap tt its) (hs : t0.heap.IsSliceOf sl v1 v2 v3) (q1 : IsPart v1 none) (q2 : IsPart v2 none) (q3 : IsPart v3 (some (-1)))
    (h : Q (.ref t0.heap.objs.size) { t0 with heap := t0.heap.push { cls := .type "tuple", data := .seq its.toList.reverse.toArray } }) (room : its.size ≤ sizeLine) : wpAny (model pg wd) ar (getItem (.ref tt) (.ref sl)) Q X0 t0 := by
  have fits : sizeOk (.seq its.toList.reverse.toArray) := show its.toList.reverse.toArray.size ≤ sizeLine by rw [List.size_toArray, List.length_reverse, Array.length_toList]; exact room
  obtain ⟨so, g1, g2, _⟩ := id hs
  have ty : t0.TypeIs (.ref sl) "slice" := ⟨so, g1, g2⟩
  have ends : ¬ ((((its.size : Int) - 1) == 0 && (-1 : Int) == 1 && its.size == its.size) = true) := fun q => absurd ((Bool.and_eq_true_iff.mp ((Bool.and_eq_true_iff.mp q).1)).2) (by decide)
  unfold getItem; (try with_reducible refine wpAny_holding ?_); (first | refine wpAny_bind (wpAny_pure ?_) | skip)
  refine wpAny_bind (wpAny_sequenceKey ht.typeIs (by decide) (wpAny_bind (wpAny_callSpecial?_slot (name := Str.ofString "__getitem__") ht.typeIs PyProof.Rows.slot_tuple_getitem (wpAny_call_entry PyProof.Rows.slot_tuple_getitem ht.typeIs PyProof.Rows.entry_tuple_getitem ?_ (PyProof.Rows.args_tuple_getitem _ _)))))
  show wpAny _ _ (Builtin.Tuple.tupleItemsOf (.ref tt) >>= _) _ _ t0
  refine wpAny_bind (PyProof.Rows.tupleItemsOf_ ht (wpAny_bind (wpAny_typeOf ty ?_)))
  rw [if_pos (by decide)]
  refine wpAny_bind (app_rev hs q1 q2 q3 ?_)
  show wpAny _ _ (if (((its.size : Int) - 1) == 0 && (-1 : Int) == 1 && its.size == its.size) = true then _ else _) _ _ t0
  rw [if_neg ends, pick_rev]
  first | exact wpAny_bind (m := Builtin.Tuple.tupleExact _) (wpAny_newObj_type (wpAny_pure ⟨_, rfl, wpAny_pure h⟩) fits) | exact wpAny_bind (m := Builtin.Tuple.tupleExact _) (wpAny_newObj_type (wpAny_bind (wpAny_pure (wpAny_pure ⟨_, rfl, wpAny_pure h⟩))) fits) | exact wpAny_bind (wpAny_bind (m := Builtin.Tuple.tupleExact _) (wpAny_newObj_type (wpAny_pure (wpAny_pure ⟨_, rfl, wpAny_pure h⟩)) fits)) | exact wpAny_bind (wpAny_bind (m := Builtin.Tuple.tupleExact _) (wpAny_newObj_type (wpAny_pure ⟨_, rfl, wpAny_pure h⟩) fits))
end
section
variable {X : Cx} {K : PySem.W.Frag} {pos : Pos} {e : Expr} {f : EF}
def tRevT (K : PySem.W.Frag) (te : TE) : TE := fun σ H Q => te σ H fun x H1 => ∃ a xs, x = .ref a ∧ SqT K H1 a xs ∧ ∀ p, H1 p = none → Q (.ref p) (upd H1 p (.tup xs.reverse))
theorem pe_revT {te : TE} {k : Nat} {p1 p2 p3 : Pos} (he : PE X e te) : PE X (.Subscript e (.Slice none none (some (.UnaryOp .USub (.Constant (.int 1) k p1) p2)) p3) pos) (tRevT X.K te) := by
  constructor
  intro ps st si hp Q inv h
  refine Subscript_ (thn (he.run ps st si hp _ inv h) ?_)
  rintro v s1 ⟨x, H1, i1, r1, a, xs, rfl, hx, q⟩
  cases r1
  have minus : PO X (some (.UnaryOp .USub (.Constant (.int 1) k p1) p2)) _ := po_some (pe_un un_neg pe_int)
  refine wpAny_Slice (thn (po_none.run ps s1 si H1 (fun o K' => o = none ∧ K' = H1) i1 ⟨rfl, rfl⟩) ?_)
  rintro v1 s2 ⟨_, _, i2, c1, rfl, rfl⟩
  refine thn (po_none.run ps s2 si _ (fun o K' => o = none ∧ K' = _) i2 ⟨rfl, rfl⟩) ?_
  rintro v2 s3 ⟨_, _, i3, c2, rfl, rfl⟩
  refine thn (minus.run ps s3 si _ (fun o K' => o = some (-1) ∧ K' = _) i3 ⟨1, rfl, -1, rfl, rfl, rfl⟩) ?_
  rintro v3 s4 ⟨_, _, i4, c3, rfl, rfl⟩
  have i5 := i4.kept (h' := s4.heap.push { cls := .type "slice", data := .fields #[v1, v2, v3] }) (t' := s4.toks) fun b ob z => Heap.get?_push_of_some _ z
  obtain ⟨its, rv, tp, room⟩ := i5.tuple hx
  have ln := rv.length
  refine tail_any (ops := [.ref a, .ref s4.heap.objs.size]) tp.typeIs PyProof.Rows.slot_tuple_getitem.lookup (tup_rev tp (Heap.IsSliceOf.new _ v1 v2 v3) c1 c2 c3 ?_ (by rw [List.size_toArray]; omega)) (by with_unfolding_all rfl)
  have lay := i5.laid (h' := (s4.heap.push { cls := .type "slice", data := .fields #[v1, v2, v3] }).push { cls := .type "tuple", data := .seq its.reverse.toArray }) (t' := s4.toks) (o := .tup xs.reverse) (fun b ob z => Heap.get?_push_of_some _ z) (Nat.le_refl _) ⟨by rw [List.length_reverse]; exact room, _, rv.reverse, IsTup.new _ _⟩
  exact ⟨.ref _, _, lay, rfl, q _ (i5.hok.fresh (Nat.le_refl _))⟩
def gRevT : Val → Sto → Option (Val × Sto) := fun x S => match x with
  | .tup vs => some (.tup vs.reverse, S)
  | _ => none
theorem arevT {k : Nat} {p1 p2 p3 : Pos} (he : AE X e f) : AE X (.Subscript e (.Slice none none (some (.UnaryOp .USub (.Constant (.int 1) k p1) p2)) p3) pos) (eU gRevT f) := by
  refine pe_w (pe_revT he) fun σ H Q h => ?_
  obtain ⟨m, ρ, S, v, S', R, r, e, q⟩ := h
  obtain ⟨⟨x1, S1⟩, e1, e⟩ := Option.bind_eq_some_iff.mp e
  cases x1 with
  | tup vs =>
    cases e
    refine ⟨m, ρ, S, .tup vs, S1, R, r, e1, fun m1 u H1 E1 R1 r1 => ?_⟩
    cases r1 with
    | tup ha ra => exact ⟨_, _, rfl, ha.sq, newTup R1 ra.rev fun m2 z H2 E2 R2 r2 => q m2 z H2 (E1.trans E2) R2 r2⟩
  | non => cases e
  | bl _ => cases e
  | int _ => cases e
  | str _ => cases e
  | ref _ => cases e
  | scr _ => cases e
  | lam _ _ _ _ _ => cases e
  | exc _ _ _ _ => cases e
  | ptu _ => cases e
theorem vRevT {S : Sto} {Q : Val → Sto → Prop} {x : Val} {vs : List Val} (hx : x = .tup vs) (q : Q (.tup vs.reverse) S) : Wp (gRevT x S) Q := by
  subst hx
  exact ⟨_, _, rfl, q⟩

def gAddT : Val → Val → Sto → Option (Val × Sto) := fun x y S => match x, y with
  | .tup a, .tup b => if a.length + b.length ≤ sizeLine then some (.tup (a ++ b), S) else none
  | x, y => gAdd x y S
def rAddT (K : PySem.W.Frag) : R2 := fun x y H Q => rCatA K x y H Q ∨ rAddA K x y H Q
theorem op_addT : OpR X (binaryOp .Add) (rAddT X.K) := op_catA.or op_addA
theorem oAddT : OpA K (rAddT K) gAddT := by
  intro m S H x y v S' u w Q R ru rw_ e q
  unfold gAddT at e
  split at e
  · next a b =>
    split at e
    · next h =>
      cases e
      cases ru with
      | tup ha ra =>
        rename_i ad xs
        cases rw_ with
        | tup hb rb =>
          rename_i bd ys
          have l1 := ra.len
          have l2 := rb.len
          refine .inl ⟨ad, bd, xs, ys, rfl, rfl, ha.sq, hb.sq, by omega, fun z => ?_, fun z1 z => ?_, fun z1 z2 p hp => ?_⟩
          · subst z
            have : a = [] := by
              cases a with
              | nil => rfl
              | cons _ _ => simp at l1
            subst this
            exact q m _ H (.refl _ _) R (.tup hb rb)
          · subst z
            have : b = [] := by
              cases b with
              | nil => rfl
              | cons _ _ => simp at l2
            subst this
            rw [List.append_nil] at q
            exact q m _ H (.refl _ _) R (.tup ha ra)
          · obtain ⟨R2, E2⟩ := R.tmp (o := .tup (xs ++ ys)) hp
            exact q m _ _ E2 R2 (.tup (.inl upd_same) ((ra.app rb).kp (E2.kp R)))
    · cases e
  · exact .inr (oAdd m S H _ _ v S' u w Q R ru rw_ e q)
theorem vAddT {S : Sto} {Q : Val → Sto → Prop} {x y : Val} {a b : List Val} (hx : x = .tup a) (hy : y = .tup b) (hl : a.length + b.length ≤ 1000000) (q : Q (.tup (a ++ b)) S) : Wp (gAddT x y S) Q := by
  subst hx hy
  exact ⟨_, _, if_pos (mill hl), q⟩
end
end AL
namespace K12
open PySem PySem.Spec PyProof.Rows L2 G Th AL
open K37 (common_divisor_ common_divisor_B)
open K08 (feedL_ feedL_B drawL_ drawL_B divisorL_ divisorL_B madeL_ madeL_B fieldL_ fieldL_B)
open K13 (is_numberL_ is_numberL_B)
open K14 (is_number_ is_number_B)
noncomputable def spoiltL_B (rc : FA) : SF := (sSeq (sAsg (.nm 3) (eDef drawL_ 2 (aCons (eV 0) (aCons (eC (.int 9)) aNil))))
    (sSeq (sIf (bOr (bNot (eT (eU (gIsi "tuple") (eV 1)))) (bOr (eT (eB gEq (eV 1) (eTup aNil))) (eT (eB gEq (eV 3) (eC (.int 0)))))) (sRet (eB gIxA (eV 2) (eDef drawL_ 2 (aCons (eV 0) (aCons (eCall gLen (aCons (eV 2) aNil)) aNil))))) sNil)
    (sSeq (sAsg (.nm 4) (eDef drawL_ 2 (aCons (eV 0) (aCons (eCall gLen (aCons (eV 1) aNil)) aNil))))
    (sSeq (sIf (eT (eB gEq (eV 3) (eC (.int 1)))) (sRet (eB gAddT (eSl gSlA (eV 1) oN (oS (eV 4))) (eSl gSlA (eV 1) (oS (eB gAdd (eV 4) (eC (.int 1)))) oN))) sNil)
    (sSeq (sIf (eT (eB gEq (eV 3) (eC (.int 2)))) (sRet (eB gAddT (eB gAddT (eSl gSlA (eV 1) oN (oS (eV 4))) (eSl gSlA (eV 1) (oS (eV 4)) (oS (eB gAdd (eV 4) (eC (.int 1)))))) (eSl gSlA (eV 1) (oS (eV 4)) oN))) sNil)
    (sSeq (sIf (eT (eB gEq (eV 3) (eC (.int 3)))) (sRet (eB gAddT (eB gAddT (eSl gSlA (eV 1) oN (oS (eV 4))) (eTup (aCons (eB gIxA (eV 2) (eDef drawL_ 2 (aCons (eV 0) (aCons (eCall gLen (aCons (eV 2) aNil)) aNil)))) aNil))) (eSl gSlA (eV 1) (oS (eV 4)) oN))) sNil)
    (sSeq (sIf (eT (eB gEq (eV 3) (eC (.int 4)))) (sSeq (sPar [5, 6] (aCons (eDef drawL_ 2 (aCons (eV 0) (aCons (eCall gLen (aCons (eV 1) aNil)) aNil))) (aCons (eCall gList (aCons (eV 1) aNil)) aNil)))
    (sSeq (sSub2 (eV 6) (eV 4) (eV 6) (eV 5) (eTup (aCons (eB gIxA (eV 1) (eV 5)) (aCons (eB gIxA (eV 1) (eV 4)) aNil))))
    (sRet (eCall gTuple (aCons (eV 6) aNil))))) sNil)
    (sSeq (sIf (eT (eB gEq (eV 3) (eC (.int 5)))) (sRet (eCall gList (aCons (eV 1) aNil))) sNil)
    (sRet (eB gAddT (eB gAddT (eSl gSlA (eV 1) oN (oS (eV 4))) (eTup (aCons (eDef rc 3 (aCons (eV 0) (aCons (eB gIxA (eV 1) (eV 4)) (aCons (eV 2) aNil)))) aNil))) (eSl gSlA (eV 1) (oS (eB gAdd (eV 4) (eC (.int 1)))) oN)))))))))))
noncomputable def spoiltL_n : Nat → FA
  | 0 => fun _ _ => none
  | k + 1 => runF 7 (spoiltL_B (spoiltL_n k))
noncomputable def spoiltL_ : FA := spoiltL_n 8
end K12
namespace AL
open PySem PySem.Spec PyProof.Rows L2 G
end AL
namespace AMN
open PySem PySem.Spec PyProof.Rows L2

abbrev tO (its : Array Value) (n : Nat) (dd : Option Addr) (sl : Array (Option Value)) : PySem.Obj := { cls := .type "tuple", dict := dd, data := .seq its n, slots := sl }
theorem zero_mul (l : Addr) (its : Array Value) (n : Nat) (dd : Option Addr) (sl : Array (Option Value)) (u : Tok) (hn : its.isEmpty = false) :
    Meets (Builtin.«tuple.__mul__» ⟨[.ref l, .int 0 u], []⟩) (fun _ R s => s.heap.get? l = some (tO its n dd sl) ∧ R (.ok (.ret (Value.ref s.heap.objs.size))) { s with heap := s.heap.push { cls := Value.type "tuple", data := Data.seq #[] }, toks := s.toks }) := by
  refine .of_wp fun prog w A R s h => ?_
  obtain ⟨hp, g, d, tk, os⟩ := s
  obtain ⟨hl, h⟩ := h
  have f1 := AutoSeq1.idx_int
  have d1 : (decide ((0 : Int) < -(2 ^ 63)) || decide ((0 : Int) ≥ 2 ^ 63)) = false := by decide
  have d2 : (its.isEmpty || (0 : Int) == 1) = false := by rw [hn]; rfl
  have d3 : (decide ((0 : Int) ≤ 0) || its.isEmpty) = true := by rw [hn]; rfl
  wp_walk using wpAny_loadPart' hl
  repeat first
    | (refine wpAny_ite_false (decide_eq_false (fun z => by rw [d1] at z; cases z)) ?_; wp_walk using wpAny_loadPart' hl)
    | (refine wpAny_ite_false (decide_eq_false (fun z => by rw [d2] at z; cases z)) ?_; wp_walk using wpAny_loadPart' hl)
    | (refine wpAny_ite_true (decide_eq_true d3) ?_; wp_walk using wpAny_loadPart' hl)
  all_goals exact ⟨_, rfl, h⟩
end AMN
namespace AL
open PySem PySem.Spec PyProof.Rows L2 G
variable [TT]

end AL
namespace K07
open PySem PySem.Spec PyProof.Rows L2 G Th AL
open K37 (common_divisor_ common_divisor_B is_below_ is_below_B)
open K08 (feedL_ feedL_B drawL_ drawL_B divisorL_ divisorL_B madeL_ madeL_B fieldL_ fieldL_B)
open K13 (is_numberL_ is_numberL_B)

open K14 (is_number_ is_number_B)
open K12 (spoiltL_ spoiltL_B spoiltL_n)
noncomputable def is_fraction_B : SF := (sSeq (sIf (bOr (bNot (eT (eU (gIsi "tuple") (eV 0)))) (eT (eB gNe (eCall gLen (aCons (eV 0) aNil)) (eC (.int 2))))) (sRet (eC (.bl false))) sNil)
    (sSeq (sAsg (.tp [(.nm 1), (.nm 2)]) (eV 0))
    (sRet (eAnd (eDef is_number_ 1 (aCons (eV 1) aNil)) (eAnd (eDef is_number_ 1 (aCons (eV 2) aNil)) (eAnd (eB gGt (eV 2) (eC (.int 0))) (eB gEq (eDef common_divisor_ 2 (aCons (eV 1) (aCons (eV 2) aNil))) (eC (.int 1)))))))))
noncomputable def is_fraction_ : FA := runF 3 is_fraction_B
noncomputable def is_fractionL_B : SF := (sSeq (sIf (bOr (bNot (eT (eU (gIsi "tuple") (eV 0)))) (bOr (eT (eB gNe (eCall gLen (aCons (eV 0) aNil)) (eC (.int 2)))) (eT (eB gNe (eLc (.nm 1) (iSeq (eV 0)) (bNot (eT (eDef is_numberL_ 1 (aCons (eV 1) aNil)))) (eV 1) [1]) (eLst aNil))))) (sRet (eC (.bl false))) sNil)
    (sRet (eAnd (eB gGt (eB gIxA (eV 0) (eC (.int 1))) (eC (.int 0))) (eB gEq (eDef divisorL_ 2 (aCons (eCall gAbs (aCons (eB gIxA (eV 0) (eC (.int 0))) aNil)) (aCons (eB gIxA (eV 0) (eC (.int 1))) aNil))) (eC (.int 1))))))
noncomputable def is_fractionL_ : FA := runF 2 is_fractionL_B
end K07
namespace AL
open PySem PySem.Spec PyProof.Rows L2 G
variable [TT]
section
variable {X : Cx} {K : PySem.W.Frag} {e : Expr} {f : EF} {pos : Pos}
end
section
variable {S : Sto} {Q : Val → Sto → Prop}
end
end AL
namespace K09
open PySem PySem.Spec PyProof.Rows L2 G Th AL
open K37 (common_divisor_ common_divisor_B is_below_ is_below_B)
open K08 (feedL_ feedL_B drawL_ drawL_B divisorL_ divisorL_B madeL_ madeL_B fieldL_ fieldL_B)

open K14 (is_number_ is_number_B)
open K07 (is_fraction_ is_fraction_B)
noncomputable def is_word_B : SF := (sSeq (sIf (bOr (bNot (eT (eU (gIsi "str") (eV 0)))) (bNot (eT (eCh gLe gLe (eC (.int 1)) (eCall gLen (aCons (eV 0) aNil)) (eC (.int 8)))))) (sRet (eC (.bl false))) sNil)
    (sRet (eCall gAll (aCons (eLc (.nm 1) (iChr (eV 0)) bYes (eB (gInT false) (eV 1) (eC (.str "abcdefghijklmnopqrstuvwxyz"))) [1]) aNil))))
noncomputable def is_word_ : FA := runF 2 is_word_B
noncomputable def rises_B : SF := (sRet (eCall gAll (aCons (eLc (.tp [(.nm 1), (.nm 2)]) (iZp (aCons (eV 0) (aCons (eSl gSlA (eV 0) (oS (eC (.int 1))) oN) aNil))) bYes (eB gLtT (eV 1) (eV 2)) [1, 2]) aNil)))
noncomputable def rises_ : FA := runF 3 rises_B
noncomputable def is_house_B : SF := (sSeq (sIf (bOr (bNot (eT (eU (gIsi "tuple") (eV 0)))) (eT (eB gNe (eCall gLen (aCons (eV 0) aNil)) (eC (.int 3))))) (sRet (eC (.bl false))) sNil)
    (sSeq (sAsg (.tp [(.nm 1), (.nm 2), (.nm 3)]) (eV 0))
    (sSeq (sIf (bOr (bNot (eT (eDef is_word_ 1 (aCons (eV 1) aNil)))) (bOr (bNot (eT (eDef is_fraction_ 1 (aCons (eV 2) aNil)))) (bNot (eT (eDef is_fraction_ 1 (aCons (eV 3) aNil)))))) (sRet (eC (.bl false))) sNil)
    (sRet (eAnd (eDef is_below_ 2 (aCons (eC (.tup [.int 0, .int 1])) (aCons (eV 2) aNil))) (eAnd (eNot (eDef is_below_ 2 (aCons (eC (.tup [.int 1, .int 1])) (aCons (eV 2) aNil)))) (eNot (eDef is_below_ 2 (aCons (eV 3) (aCons (eC (.tup [.int 1, .int 1])) aNil))))))))))
noncomputable def is_house_ : FA := runF 4 is_house_B
noncomputable def is_link_B : SF := (sSeq (sIf (bOr (bNot (eT (eU (gIsi "tuple") (eV 0)))) (eT (eB gNe (eCall gLen (aCons (eV 0) aNil)) (eC (.int 4))))) (sRet (eC (.bl false))) sNil)
    (sSeq (sAsg (.tp [(.nm 1), (.nm 2), (.nm 3), (.nm 4)]) (eV 0))
    (sSeq (sIf (bOr (bNot (eT (eDef is_word_ 1 (aCons (eV 1) aNil)))) (bOr (bNot (eT (eDef is_word_ 1 (aCons (eV 2) aNil)))) (eT (eB gEq (eV 1) (eV 2))))) (sRet (eC (.bl false))) sNil)
    (sSeq (sIf (bOr (bNot (eT (eDef is_fraction_ 1 (aCons (eV 3) aNil)))) (eT (eDef is_below_ 2 (aCons (eV 3) (aCons (eC (.tup [.int 0, .int 1])) aNil))))) (sRet (eC (.bl false))) sNil)
    (sRet (eOr (eB gIs (eV 4) (eC .non)) (eAnd (eDef is_fraction_ 1 (aCons (eV 4) aNil)) (eNot (eDef is_below_ 2 (aCons (eV 4) (aCons (eV 3) aNil)))))))))))
noncomputable def is_link_ : FA := runF 5 is_link_B
noncomputable def are_houses_B : SF := (sSeq (sIf (bOr (bNot (eT (eU (gIsi "tuple") (eV 0)))) (bNot (eT (eCall gAll (aCons (eLc (.nm 1) (iSeq (eV 0)) bYes (eDef is_house_ 1 (aCons (eV 1) aNil)) [1]) aNil))))) (sRet (eC (.bl false))) sNil)
    (sRet (eDef rises_ 1 (aCons (eLc (.nm 1) (iSeq (eV 0)) bYes (eB gIxA (eV 1) (eC (.int 0))) [1]) aNil))))
noncomputable def are_houses_ : FA := runF 2 are_houses_B
noncomputable def are_links_B : SF := (sSeq (sIf (bOr (bNot (eT (eU (gIsi "tuple") (eV 0)))) (bNot (eT (eCall gAll (aCons (eLc (.nm 4) (iSeq (eV 0)) bYes (eDef is_link_ 1 (aCons (eV 4) aNil)) [4]) aNil))))) (sRet (eC (.bl false))) sNil)
    (sSeq (sAsg (.nm 2) (eLc (.nm 3) (iSeq (eV 1)) bYes (eB gIxA (eV 3) (eC (.int 0))) [3]))
    (sRet (eCall gAll (aCons (eLc (.nm 4) (iSeq (eV 0)) bYes (eAnd (eB (gIn false) (eB gIxA (eV 4) (eC (.int 0))) (eV 2)) (eB (gIn false) (eB gIxA (eV 4) (eC (.int 1))) (eV 2))) [4]) aNil)))))
noncomputable def are_links_ : FA := runF 5 are_links_B
noncomputable def is_field_B : SF := (sSeq (sIf (bOr (bNot (eT (eU (gIsi "tuple") (eV 0)))) (eT (eB gNe (eCall gLen (aCons (eV 0) aNil)) (eC (.int 3))))) (sRet (eC (.bl false))) sNil)
    (sSeq (sAsg (.tp [(.nm 1), (.nm 2), (.nm 3)]) (eV 0))
    (sSeq (sIf (bOr (bNot (eT (eDef are_houses_ 1 (aCons (eV 1) aNil)))) (bNot (eT (eDef are_links_ 2 (aCons (eV 2) (aCons (eV 1) aNil)))))) (sRet (eC (.bl false))) sNil)
    (sRet (eB gInTD (eTup (aCons (eV 3) (aCons (eC (.tup [.int 1, .int 1])) (aCons (eC (.tup [.int 1, .int 1])) aNil)))) (eV 1))))))
noncomputable def is_field_ : FA := runF 4 is_field_B
end K09
namespace AL
open PySem PySem.Spec PyProof.Rows L2 G
variable [TT]
section
variable {X : Cx} {K : PySem.W.Frag} {pos : Pos}
def gLeT : Val → Val → Sto → Option (Val × Sto) := fun x y S => match x, y with
  | .str i, .str j => some (.bl (!decide (j.cps.toList < i.cps.toList)), S)
  | _, _ => none
theorem oLeT : OpA K (fun x y H Q => ∃ i j, x = .str i ∧ y = .str j ∧ Q (.bl (!decide (j.cps.toList < i.cps.toList))) H) gLeT := by
  intro m S H x y v S' u w Q R ru rw_ e q
  unfold gLeT at e
  split at e
  · cases e
    cases ru
    cases rw_
    exact ⟨_, _, rfl, rfl, q m _ H (.refl _ _) R (.bl _)⟩
  · cases e
end
section
variable {ρ : Rho} {S : Sto} {Q : Val → Sto → Prop}
theorem vLeT {x y : Val} {i j : Str} (hx : x = .str i) (hy : y = .str j) (q : Q (.bl (!decide (j.cps.toList < i.cps.toList))) S) : Wp (gLeT x y S) Q := by
  subst hx hy
  exact ⟨_, _, rfl, q⟩
end
end AL
namespace K04
open PySem PySem.Spec PyProof.Rows L2 G Th AL
open K37 (common_divisor_ common_divisor_B is_below_ is_below_B)
open K08 (feedL_ feedL_B drawL_ drawL_B divisorL_ divisorL_B madeL_ madeL_B fieldL_ fieldL_B)
open K13 (is_numberL_ is_numberL_B)
open K14 (is_number_ is_number_B)
open K12 (spoiltL_ spoiltL_B spoiltL_n)
open K07 (is_fraction_ is_fraction_B is_fractionL_ is_fractionL_B)
open K09 (is_word_ is_word_B)
noncomputable def is_wordL_B : SF := (sRet (eAnd (eU (gIsi "str") (eV 0)) (eAnd (eCh gLt gLt (eC (.int 0)) (eCall gLen (aCons (eV 0) aNil)) (eC (.int 9))) (eB gEq (eLc (.nm 1) (iChr (eV 0)) (bNot (eT (eCh gLeT gLeT (eC (.str "a")) (eV 1) (eC (.str "z"))))) (eV 1) [1]) (eLst aNil)))))
noncomputable def is_wordL_ : FA := runF 2 is_wordL_B
end K04
namespace AL
open PySem PySem.Spec PyProof.Rows L2 G
variable [TT]
section
variable {pg : Program} {wd : World} {ar : Around} {X0 : Value → Shared → Prop} {t0 : Shared}
theorem adj_to (n k : Nat) (hk : 1 ≤ k) (hn : k ≤ n) : Builtin.Slice.sliceAdjust none (some (-(k : Int))) (-1) (n : Int) = ((n : Int) - 1, (n : Int) - k) := by
  simp only [Builtin.Slice.sliceAdjust, show (-1 : Int) < 0 from by decide, if_true]
  rw [if_pos (by omega)]
  congr 1
  omega
theorem pla_to (n k : Nat) (hk : 1 ≤ k) (hn : k ≤ n) : Builtin.Slice.slicePlaces ((n : Int) - 1) ((n : Int) - k) (-1) = k - 1 := by
  have neg : ¬ (-1 : Int) > 0 := by decide
  have one : (- -1 : Int) = 1 := by decide
  simp only [Builtin.Slice.slicePlaces, neg, if_false, one, Int.ediv_one]
  split <;> omega
theorem pick_to (xs : Array Value) (k : Nat) (hn : k ≤ xs.size) : ((List.range (k - 1)).filterMap fun (m : Nat) => xs[(((xs.size : Int) - 1) + (m : Int) * (-1)).toNat]?).toArray = (xs.toList.reverse.take (k - 1)).toArray := by
  congr 1
  refine List.ext_getElem? fun i => ?_
  have all : ∀ m ∈ List.range (k - 1), xs[(((xs.size : Int) - 1) + (m : Int) * (-1)).toNat]? = xs.toList.reverse[m]? := fun m hm => by
    have hm := List.mem_range.mp hm
    rw [List.getElem?_reverse (by rw [Array.length_toList]; omega), Array.getElem?_toList, Array.length_toList]
    congr 1
    omega
  rw [fm_congr _ all]
  have go : ∀ (l : List Value) (j : Nat), j ≤ l.length → (List.range j).filterMap (l[·]?) = l.take j := fun l j hj => by
    induction j with
    | zero => rfl
    | succ j ih =>
      rw [List.range_succ, List.filterMap_append, ih (by omega), List.take_succ]
      congr 1
  rw [go _ _ (by rw [List.length_reverse, Array.length_toList]; omega)]
theorem app_to {sl : Addr} {v1 v2 v3 : Value} {n k : Nat} {Q : Int × Int × Nat → Shared → Prop} (hk : 1 ≤ k) (hn : k ≤ n) (hs : t0.heap.IsSliceOf sl v1 v2 v3) (q1 : IsPart v1 none) (q2 : IsPart v2 (some (-(k : Int)))) (q3 : IsPart v3 (some (-1))) (h : Q ((n : Int) - 1, -1, k - 1) t0) :
    wpAny (model pg wd) ar (Builtin.Slice.sliceApplied (.ref sl) (pure (n : Int))) Q X0 t0 := by
  obtain ⟨so, g1, _, g3⟩ := id hs
  simp only [Builtin.Slice.sliceApplied, Builtin.Slice.sliceFields]
  have fin : wpAny (model pg wd) ar (pure ((n : Int) - 1, (-1 : Int), Builtin.Slice.slicePlaces ((n : Int) - 1) ((n : Int) - k) (-1)) : Sem (Int × Int × Nat)) Q X0 t0 := by rw [pla_to n k hk hn]; exact wpAny_pure h
  have mid : wpAny (model pg wd) ar (match Builtin.Slice.sliceAdjust none (some (-(k : Int))) (-1) (n : Int) with | (a, b) => (pure (a, (-1 : Int), Builtin.Slice.slicePlaces a b (-1)) : Sem (Int × Int × Nat))) Q X0 t0 := by rw [adj_to n k hk hn]; exact fin
  refine wpAny_bind (wpAny_bind (wpAny_field g1 g3 (x := v1) rfl (wpAny_bind (wpAny_field g1 g3 (x := v2) rfl (wpAny_bind (wpAny_field g1 g3 (x := v3) rfl (wpAny_pure (wpAny_bind (HT.slicePart_ q3 ?_)))))))))
  show wpAny _ _ (if ((-1 : Int) == 0) = true then _ else _) _ _ t0
  rw [if_neg (by decide)]
  exact wpAny_bind (HT.slicePart_ q1 (wpAny_bind (HT.slicePart_ q2 (wpAny_bind (wpAny_pure mid)))))
theorem tup_to {tt sl : Addr} {its : Array Value} {v1 v2 v3 : Value} {k : Nat} {Q : Value → Shared → Prop} (hk : 1 ≤ k) (hn : k ≤ its.size) (ht : IsTup t0.heap tt its) (hs : t0.heap.IsSliceOf sl v1 v2 v3) (q1 : IsPart v1 none) (q2 : IsPart v2 (some (-(k : Int)))) (q3 : IsPart v3 (some (-1)))
    (h : Q (.ref t0.heap.objs.size) { t0 with heap := t0.heap.push { cls := .type "tuple", data := .seq (its.toList.reverse.take (k - 1)).toArray } }) (room : its.size ≤ sizeLine) : wpAny (model pg wd) ar (getItem (.ref tt) (.ref sl)) Q X0 t0 := by
  have fits : sizeOk (.seq (its.toList.reverse.take (k - 1)).toArray) := show (its.toList.reverse.take (k - 1)).toArray.size ≤ sizeLine by
    rw [List.size_toArray, List.length_take, List.length_reverse, Array.length_toList]
    omega
  obtain ⟨so, g1, g2, _⟩ := id hs
  have ty : t0.TypeIs (.ref sl) "slice" := ⟨so, g1, g2⟩
  have ends : ¬ ((((its.size : Int) - 1) == 0 && (-1 : Int) == 1 && (k - 1) == its.size) = true) := fun q => absurd ((Bool.and_eq_true_iff.mp ((Bool.and_eq_true_iff.mp q).1)).2) (by decide)
  unfold getItem; (try with_reducible refine wpAny_holding ?_); (first | refine wpAny_bind (wpAny_pure ?_) | skip)
  refine wpAny_bind (wpAny_sequenceKey ht.typeIs (by decide) (wpAny_bind (wpAny_callSpecial?_slot (name := Str.ofString "__getitem__") ht.typeIs PyProof.Rows.slot_tuple_getitem (wpAny_call_entry PyProof.Rows.slot_tuple_getitem ht.typeIs PyProof.Rows.entry_tuple_getitem ?_ (PyProof.Rows.args_tuple_getitem _ _)))))
  show wpAny _ _ (Builtin.Tuple.tupleItemsOf (.ref tt) >>= _) _ _ t0
  refine wpAny_bind (PyProof.Rows.tupleItemsOf_ ht (wpAny_bind (wpAny_typeOf ty ?_)))
  rw [if_pos (by decide)]
  refine wpAny_bind (app_to hk hn hs q1 q2 q3 ?_)
  show wpAny _ _ (if (((its.size : Int) - 1) == 0 && (-1 : Int) == 1 && (k - 1) == its.size) = true then _ else _) _ _ t0
  rw [if_neg ends, pick_to _ _ hn]
  first | exact wpAny_bind (m := Builtin.Tuple.tupleExact _) (wpAny_newObj_type (wpAny_pure ⟨_, rfl, wpAny_pure h⟩) fits) | exact wpAny_bind (m := Builtin.Tuple.tupleExact _) (wpAny_newObj_type (wpAny_bind (wpAny_pure (wpAny_pure ⟨_, rfl, wpAny_pure h⟩))) fits) | exact wpAny_bind (wpAny_bind (m := Builtin.Tuple.tupleExact _) (wpAny_newObj_type (wpAny_pure (wpAny_pure ⟨_, rfl, wpAny_pure h⟩)) fits)) | exact wpAny_bind (wpAny_bind (m := Builtin.Tuple.tupleExact _) (wpAny_newObj_type (wpAny_pure ⟨_, rfl, wpAny_pure h⟩) fits))
end
section
variable {X : Cx} {K : PySem.W.Frag} {pos : Pos} {e : Expr} {f : EF}
def tRevTo (K : PySem.W.Frag) (k : Nat) (te : TE) : TE := fun σ H Q => te σ H fun x H1 => ∃ a xs, x = .ref a ∧ SqT K H1 a xs ∧ k ≤ xs.length ∧ ∀ p, H1 p = none → Q (.ref p) (upd H1 p (.tup (xs.reverse.take (k - 1))))
theorem pe_revTo {te : TE} {k kk kj : Nat} {p1 p2 p3 p4 p5 : Pos} (hk : 1 ≤ k) (he : PE X e te) : PE X (.Subscript e (.Slice none (some (.UnaryOp .USub (.Constant (.int (k : Nat)) kj p4) p5)) (some (.UnaryOp .USub (.Constant (.int 1) kk p1) p2)) p3) pos) (tRevTo X.K k te) := by
  constructor
  intro ps st si hp Q inv h
  refine Subscript_ (thn (he.run ps st si hp _ inv h) ?_)
  rintro v s1 ⟨x, H1, i1, r1, a, xs, rfl, hx, hn, q⟩
  cases r1
  have minus : PO X (some (.UnaryOp .USub (.Constant (.int 1) kk p1) p2)) _ := po_some (pe_un un_neg pe_int)
  have upto : PO X (some (.UnaryOp .USub (.Constant (.int (k : Nat)) kj p4) p5)) _ := po_some (pe_un un_neg pe_int)
  refine wpAny_Slice (thn (po_none.run ps s1 si H1 (fun o K' => o = none ∧ K' = H1) i1 ⟨rfl, rfl⟩) ?_)
  rintro v1 s2 ⟨_, _, i2, c1, rfl, rfl⟩
  refine thn (upto.run ps s2 si _ (fun o K' => o = some (-(k : Int)) ∧ K' = _) i2 ⟨(k : Int), rfl, -(k : Int), rfl, rfl, rfl⟩) ?_
  rintro v2 s3 ⟨_, _, i3, c2, rfl, rfl⟩
  refine thn (minus.run ps s3 si _ (fun o K' => o = some (-1) ∧ K' = _) i3 ⟨1, rfl, -1, rfl, rfl, rfl⟩) ?_
  rintro v3 s4 ⟨_, _, i4, c3, rfl, rfl⟩
  have i5 := i4.kept (h' := s4.heap.push { cls := .type "slice", data := .fields #[v1, v2, v3] }) (t' := s4.toks) fun b ob z => Heap.get?_push_of_some _ z
  obtain ⟨its, rv, tp, room⟩ := i5.tuple hx
  have ln := rv.length
  refine tail_any (ops := [.ref a, .ref s4.heap.objs.size]) tp.typeIs PyProof.Rows.slot_tuple_getitem.lookup (tup_to hk (by rw [List.size_toArray]; omega) tp (Heap.IsSliceOf.new _ v1 v2 v3) c1 c2 c3 ?_ (by rw [List.size_toArray]; omega)) (by with_unfolding_all rfl)
  have rt : Vals (xs.reverse.take (k - 1)) (its.reverse.take (k - 1)) := rv.reverse.take _
  have lay := i5.laid (h' := (s4.heap.push { cls := .type "slice", data := .fields #[v1, v2, v3] }).push { cls := .type "tuple", data := .seq (its.reverse.take (k - 1)).toArray }) (t' := s4.toks) (o := .tup (xs.reverse.take (k - 1))) (fun b ob z => Heap.get?_push_of_some _ z) (Nat.le_refl _) ⟨by rw [List.length_take, List.length_reverse]; omega, _, rt, IsTup.new _ _⟩
  exact ⟨.ref _, _, lay, rfl, q _ (i5.hok.fresh (Nat.le_refl _))⟩
def gRevTo (k : Nat) : Val → Sto → Option (Val × Sto) := fun x S => match x with
  | .tup vs => if k ≤ vs.length then some (.tup (vs.reverse.take (k - 1)), S) else none
  | _ => none
theorem arevTo {k kk kj : Nat} {p1 p2 p3 p4 p5 : Pos} (hk : 1 ≤ k) (he : AE X e f) : AE X (.Subscript e (.Slice none (some (.UnaryOp .USub (.Constant (.int (k : Nat)) kj p4) p5)) (some (.UnaryOp .USub (.Constant (.int 1) kk p1) p2)) p3) pos) (eU (gRevTo k) f) := by
  refine pe_w (pe_revTo hk he) fun σ H Q h => ?_
  obtain ⟨m, ρ, S, v, S', R, r, e, q⟩ := h
  obtain ⟨⟨x1, S1⟩, e1, e⟩ := Option.bind_eq_some_iff.mp e
  cases x1 with
  | tup vs =>
    simp only [gRevTo] at e
    split at e
    · next hl =>
      cases e
      refine ⟨m, ρ, S, .tup vs, _, R, r, e1, fun m1 u H1 E1 R1 r1 => ?_⟩
      cases r1 with
      | tup ha ra => exact ⟨_, _, rfl, ha.sq, by rw [ra.len]; exact hl, newTup R1 (ra.rev.take _) fun m2 z H2 E2 R2 r2 => q m2 z H2 (E1.trans E2) R2 r2⟩
    · cases e
  | non => cases e
  | bl _ => cases e
  | int _ => cases e
  | str _ => cases e
  | ref _ => cases e
  | scr _ => cases e
  | lam _ _ _ _ _ => cases e
  | exc _ _ _ _ => cases e
  | ptu _ => cases e
theorem vRevTo {S : Sto} {Q : Val → Sto → Prop} {x : Val} {vs : List Val} {k : Nat} (hx : x = .tup vs) (hl : k ≤ vs.length) (q : Q (.tup (vs.reverse.take (k - 1))) S) : Wp (gRevTo k x S) Q := by
  subst hx
  exact ⟨_, _, if_pos hl, q⟩
end
end AL
noncomputable section
namespace STX
open PySem PySem.Spec PyProof.Rows L2 PySem.Froz

def txt (e : Int × Value) : Str := match e.2 with | .str k _ => k | _ => default
def IsTx (e : Int × Value) : Prop := ∃ (k : Str) (u : Tok), e.2 = Value.str k u

structure SD1 (P : Program) (w : World) (D : SD) (l : List Str) : Prop where
  ok : TxOk P w D l
  tx : ∀ e ∈ D.1.toList, IsTx e
  pm : (D.1.toList.map txt).Perm l
  ris : Ris D.2.2.place.toList
  led : w.params.followText "set-order" = true ∨ D.2.2.led = true
section
variable {P : Program} {w : World} {D : SD} {l : List Str} {k : Str}
theorem SD1.nil : SD1 P w (#[], 0, .fresh 0 0 (!w.params.followText "set-order")) [] where
  ok := TxOk.nil (by rfl)
  tx := fun e he => by cases he
  pm := .nil
  ris := .nil
  led := by
    show _ ∨ (!w.params.followText "set-order") = true
    cases w.params.followText "set-order" <;> simp
theorem tailTx_cases {ep : Nat} {es : Array (Int × Value)} {t : SetTable} {b : Bool} :
    (tailTx ep es t b).1.toList.Perm es.toList ∧ (Ris t.place.toList → Ris (tailTx ep es t b).2.2.place.toList) ∧ (tailTx ep es t b).2.2.led = t.led := by
  unfold tailTx
  split
  · exact ⟨relayAll_perm .., fun _ => relayAll_ris .., relayAll_led ..⟩
  · exact ⟨.refl _, id, rfl⟩
theorem SD1.add (u : Tok) (h : SD1 P w D l) : SD1 P w (addTx (hashStr w k) (.str k u) D) (k :: l) := by
  have h1 := layNew_perm D.2.2 D.1 (hashStr w k) (.str k u)
  have h2 := layNew_ris D.2.2 D.1 (hashStr w k) (.str k u) h.ris
  have h3 := layNew_led D.2.2 D.1 (hashStr w k) (.str k u)
  have pp : (addTx (hashStr w k) (.str k u) D).1.toList.Perm ((hashStr w k, Value.str k u) :: D.1.toList) := by
    refine tailTx_cases.1.trans (h1.trans ?_)
    rw [Array.toList_push]
    exact List.perm_append_singleton _ _
  refine ⟨add_ok u h.ok, fun e he => ?_, (pp.map txt).trans (.cons k h.pm), tailTx_cases.2.1 ?_, h.led.imp id fun z => ?_⟩
  · rcases List.mem_cons.mp (pp.mem_iff.mp he) with rfl | z
    · exact ⟨k, u, rfl⟩
    · exact h.tx e z
  · split <;> exact h2
  · refine tailTx_cases.2.2.trans ?_
    split <;> exact h3.trans z
end
section
variable {P : Program} {w : World} {A : Around} {E : Value → Shared → Prop} {s : Shared} {D : SD} {l : List Str} {k : Str} {u : Tok} {a : Addr}

theorem add_old {T : String} {Q : Bool → Shared → Prop} (ho : s.heap.get? a = some (sObj T D)) (h : TxOk P w D l) (hk : k ∈ l) (hb : l.length < scanBound) (q : Q false s) :
    wpAny (model P w) A (setAddHashed a (.str k u) (hashStr w k)) Q E s := by
  obtain ⟨es, ep, t⟩ := D
  have z0 : es.size < scanBound := by rw [show es.size = l.length from h.sz]; exact hb
  have zd : (sObj T (es, ep, t)).data = .set es ep t := rfl
  have zk := is_str (P := P) (w := w) k u
  unfold setAddHashed setAddHashedIn
  refine wpAny_holding (wpAny_bind (wpAny_setState_of ho zd h.fit ?_))
  dsimp only
  rw [byScan_of rfl z0 h.el, if_pos rfl]
  unfold setAddByScan
  refine wpAny_bind (wpAny_bind (wpAny_rule (wpAny_bind (wpAny_setScan_of (knd := strKind P w) (k := k) zk ho zd h.fit h.el ?_))))
  cases c : List.findIdx? (fun e => (strKind P w).is k e.2) es.toList with
  | some j => exact wpAny_pure (wpAny_pure q)
  | none =>
    obtain ⟨e, he, y⟩ := (h.mem k).mp hk
    have n := List.findIdx?_eq_none_iff.mp c e he
    rw [y] at n
    cases n

def putT (w : World) (k : Str) (u : Tok) (D : SD) (l : List Str) : SD := if k ∈ l then D else addTx (hashStr w k) (.str k u) D
def putL (k : Str) (l : List Str) : List Str := if k ∈ l then l else k :: l
theorem SD1.put (h : SD1 P w D l) : SD1 P w (putT w k u D l) (putL k l) := by
  unfold putT putL
  split
  · exact h
  · exact h.add u
theorem add_any {T : String} {Q : Bool → Shared → Prop} (ho : s.heap.get? a = some (sObj T D)) (h : SD1 P w D l) (hb : l.length + 1 < scanBound)
    (q : ∀ b h', h'.get? a = some (sObj T (putT w k u D l)) → (∀ c, c ≠ a → h'.get? c = s.heap.get? c) → h'.objs.size = s.heap.objs.size → Q b { s with heap := h' }) :
    wpAny (model P w) A (setAddHashed a (.str k u) (hashStr w k)) Q E s := by
  by_cases c : k ∈ l
  · refine add_old ho h.ok c (by omega) (q false s.heap ?_ (fun _ _ => rfl) rfl)
    unfold putT
    rw [if_pos c]
    exact ho
  · refine add_x ho h.ok c hb (q true _ ?_ (fun c' n => Heap.get?_update_other _ _ (Ne.symm n)) (Heap.size_after_update ..))
    unfold putT
    rw [if_neg c]
    exact get_upd _ ho rfl
end
end STX
end
noncomputable section
namespace STX
open PySem PySem.Spec PyProof.Rows L2 PySem.Froz

def met (val : Nat → Str) : Nat → List Str
  | 0 => []
  | i + 1 => putL (val i) (met val i)
theorem putL_len (k : Str) (l : List Str) : (putL k l).length ≤ l.length + 1 := by
  unfold putL
  split
  · exact Nat.le_succ _
  · exact Nat.le_refl _
theorem met_len (val : Nat → Str) : ∀ i, (met val i).length ≤ i
  | 0 => Nat.le_refl _
  | i + 1 => Nat.le_trans (putL_len _ _) (Nat.succ_le_succ (met_len val i))
theorem mem_putL {x k : Str} {l : List Str} : x ∈ putL k l ↔ x = k ∨ x ∈ l := by
  unfold putL
  split
  · next h => exact ⟨.inr, fun z => z.elim (fun e => e ▸ h) id⟩
  · exact List.mem_cons
theorem nd_putL {k : Str} {l : List Str} (h : l.Nodup) : (putL k l).Nodup := by
  unfold putL
  split
  · exact h
  · next c => exact List.nodup_cons.mpr ⟨c, h⟩
theorem nd_met (val : Nat → Str) : ∀ i, (met val i).Nodup
  | 0 => .nil
  | i + 1 => nd_putL (nd_met val i)
theorem mem_met {val : Nat → Str} {x : Str} : ∀ {n}, x ∈ met val n ↔ ∃ i, i < n ∧ val i = x
  | 0 => ⟨fun h => (by cases h), fun ⟨_, h, _⟩ => absurd h (Nat.not_lt_zero _)⟩
  | n + 1 => by
    refine mem_putL.trans ⟨?_, ?_⟩
    · rintro (e | h)
      · exact ⟨n, Nat.lt_succ_self n, e.symm⟩
      · obtain ⟨i, a, b⟩ := mem_met.mp h
        exact ⟨i, Nat.lt_succ_of_lt a, b⟩
    · rintro ⟨i, a, b⟩
      rcases Nat.lt_succ_iff_lt_or_eq.mp a with c | c
      · exact .inr (mem_met.mpr ⟨i, c, b⟩)
      · exact .inl (c ▸ b.symm)

def At (P : Program) (w : World) (h : Heap) (a : Addr) (l : List Str) : Prop := ∃ D, h.get? a = some (sObj "set" D) ∧ SD1 P w D l
theorem At.keep {P : Program} {w : World} {h h' : Heap} {a : Addr} {l : List Str} (z : At P w h a l) (k : ∀ o, h.get? a = some o → h'.get? a = some o) : At P w h' a l := by
  obtain ⟨D, x, y⟩ := z
  exact ⟨D, k _ x, y⟩
section
variable {P : Program} {w : World} {A : Around} {R : Result → Shared → Prop} {I c : Addr} {fp wr : List Addr} {G : Array GenState → Array GenState → Prop} {n : Nat} {Pv : Nat → Value → Prop} {St : Nat → Shared → Prop}
theorem loop_tx (W : WalksS P w A.in1 I fp wr G n Pv St) (out : c ∉ fp) (val : Nat → Str) (tx : ∀ i v, Pv i v → ∃ u, v = .str (val i) u) (small : n + 1 < scanBound) :
    ∀ (left i : Nat) (s : Shared), n = i + left → St i s → At P w s.heap c (met val i) → (∀ s', Moved (c :: wr) G s s' → At P w s'.heap c (met val n) → R (.ok (.ret .none)) s') →
      codeAny (model P w) A (.builtin "set.update.loop" ⟨[.ref c, .ref I], []⟩) R s := by
  have away : c ∉ wr := fun z => out (W.sub _ z)
  intro left
  induction left with
  | zero =>
    intro i s e st at0 q
    obtain rfl : n = i := e
    apply codeAny_builtin F.entry_set_update_loop
    rw [Around.under_plainId F.plain_set_update_loop _]
    change wpAny _ A.in1 (pyNext (.ref I) >>= _) _ _ s
    apply wpAny_bind
    refine W.done s _ _ st fun s1 mv => ?_
    change wpAny _ A.in1 (ret Value.none) _ _ s1
    exact wpAny_pure (q s1 (mv.mono fun b z => List.mem_cons_of_mem _ z) (at0.keep fun o z => mv.heap c _ away z))
  | succ left ih =>
    intro i s e st at0 q
    have lt : i < n := by omega
    apply codeAny_builtin F.entry_set_update_loop
    rw [Around.under_plainId F.plain_set_update_loop _]
    change wpAny _ A.in1 (pyNext (.ref I) >>= _) _ _ s
    apply wpAny_bind
    refine W.item i s _ _ lt st fun v s1 pv st1 mv => ?_
    obtain ⟨u, rfl⟩ := tx i v pv
    obtain ⟨D, d1, d2⟩ := at0.keep (h' := s1.heap) fun o z => mv.heap c _ away z
    change wpAny _ A.in1 (holding [Value.str (val i) u] (setAdd c (.str (val i) u)) >>= _) _ _ s1
    apply wpAny_bind
    apply wpAny_holding
    unfold setAdd
    apply wpAny_holding
    apply wpAny_bind
    refine (strKind P w).pyHash (k := val i) (is_str _ _) ?_
    have room : (met val i).length + 1 < scanBound := by have := met_len val i; omega
    refine add_any (s := { s1 with toks := s1.toks + 1 }) (T := "set") d1 d2 room fun b h' e1 e2 e3 => ?_
    have oth : ∀ x ∈ fp, h'.get? x = s1.heap.get? x := fun x hx => e2 x fun z => out (z ▸ hx)
    refine wpAny_pure ⟨plainId_quiet F.plain_set_update_loop _, ih (i + 1) _ (by omega) (W.frame _ s1 _ _ st1 (Nat.le_succ _) fun x hx o z => (oth x hx).trans z) ⟨_, e1, d2.put⟩ fun s2 mv2 at2 => ?_⟩
    exact q s2 (Moved.trans W.gtrans ((mv.mono fun b z => List.mem_cons_of_mem _ z).then_heap (Nat.le_succ _) fun x o hx z => (e2 x fun y => hx (y ▸ List.mem_cons_self)).trans z) mv2) at2
end
end STX
end
noncomputable section
namespace STX
open PySem PySem.Spec PyProof.Rows L2 PySem.Froz

abbrev bare (w : World) : Obj := sObj "set" (#[], 0, .fresh 0 0 (!w.params.followText "set-order"))
section
variable {P : Program} {w : World} {A : Around} {E : Value → Shared → Prop} {s : Shared}
theorem new_tx (x : Value) {Q : Value → Shared → Prop} (q : Q (.ref s.heap.objs.size) { s with heap := s.heap.push (bare w) }) :
    codeAny (model P w) A (.call (.builtin "set.__new__") ⟨[.type "set", x], []⟩) (wants Q E) s := by
  apply codeAny_of_tree
  change wpAny _ A.in1 (do checkBuiltinCall "set.__new__" ⟨[.type "set", x], []⟩; again (.builtin "set.__new__" ⟨[.type "set", x], []⟩)) _ _ s
  refine wpAny_bind (wpAny_of_eq (PySem.F.newCall_set_1 x) (wpAny_pure ⟨plainId_quiet F.plain_set_new _, codeAny_builtin F.entry_set_new ?_⟩))
  rw [Around.under_plainId F.plain_set_new _]
  unfold Builtin.«set.__new__» Builtin.Frozenset.newClass
  have below_self := sub_set_self
  obtain ⟨hp, g, d, tk, os⟩ := s
  dsimp only
  wp_walk
  apply wpAny_askSetting
  apply wpAny_pure
  dsimp only
  simp only [newObj]
  apply wpAny_bind
  apply wpAny_alloc
  apply wpAny_pure
  exact wpAny_pure q
theorem set_tx {l : Addr} {items : Array Value} {val : Nat → Str} {Q : Value → Shared → Prop} (calm : A.handled = none) (hl : s.heap.IsList l items)
    (tx : ∀ i v, items[i]? = some v → ∃ u, v = Value.str (val i) u) (small : items.size + 1 < scanBound)
    (q : ∀ (h' : Heap) (tk : Nat), At P w h' s.heap.objs.size (met val items.size) → (∀ b o, b < s.heap.objs.size → s.heap.get? b = some o → h'.get? b = some o) → Q (.ref s.heap.objs.size) { s with heap := h', toks := tk }) :
    wpAny (model P w) A (call (.type "set") [.ref l]) Q E s := by
  obtain ⟨cl, tl, mro⟩ := F.called_set.mro
  have m1 := F.called_set.made
  have m2 := F.called_set.sub
  apply wpAny_call
  apply codeAny_of_tree
  change wpAny _ _ (callAny (.type "set") _) _ _ _
  refine wpAny_pure ⟨Code.quiet_builtin _ (by decide +kernel), codeAny_builtin F.entry_type_call ?_⟩
  rw [Around.under_plain (weight_type_call_type "set" [.ref l] []) rfl]
  have m3 := F.called_set.notType
  have m4 := F.called_set.canCreate
  have m5 := PySem.F.typeCall_set_1 (.ref l)
  repeat (any_goals (first | assumption | wp_step))
  refine codeAny_mono (new_tx (.ref l) (E := E) (Q := fun obj s1 => obj = .ref s.heap.objs.size ∧ s1 = { s with heap := s.heap.push (bare w) }) ⟨rfl, rfl⟩) fun r s1 hr => ?_
  cases r with
  | error e => exact hr
  | ok fl =>
    cases fl with
    | ret obj =>
      obtain ⟨rfl, rfl⟩ := hr
      have new : (s.heap.push (bare w)).get? s.heap.objs.size = some (bare w) := Heap.get?_push_size _ rfl
      have ty : Shared.TypeIs { s with heap := s.heap.push (bare w) } (.ref s.heap.objs.size) "set" := ⟨_, new, rfl⟩
      have i1 := F.called_set.init.lookup
      have i2 := F.called_set.init.bind (.ref s.heap.objs.size)
      repeat (any_goals (first | assumption | wp_step))
      refine codeAny_mono (codeAny_call_builtin (R := wants (fun r s2 => r = .none ∧ ∃ h' tk, s2 = { s with heap := h', toks := tk } ∧ At P w h' s.heap.objs.size (met val items.size) ∧
        (∀ b o, b < s.heap.objs.size → s.heap.get? b = some o → h'.get? b = some o)) E) F.called_set.init.plain F.entry_set_init (PySem.check_set_init_1 ty ?_)) fun r2 s2 hr2 => ?_
      · obtain ⟨⟨ocls, odict, odata, oslots⟩, hol, hcl, nl, hdl⟩ := id hl
        simp only at hcl hdl
        subst hcl hdl
        have hol2 : (s.heap.push (bare w)).get? l = some { cls := .type "list", dict := odict, data := .seq items nl, slots := oslots } := Heap.get?_push_of_some _ hol
        have n1 := PySem.F.sub_list_set
        have n2 := PySem.F.sub_list_frozenset
        have n3 : (Value.type "list" == Value.type "dict") = false := by decide
        have hl2 : (s.heap.push (bare w)).IsList l items := ⟨_, hol2, rfl, nl, rfl⟩
        have lS : l < s.heap.objs.size := Heap.lt_size hol
        have sz : (s.heap.push (bare w)).objs.size = s.heap.objs.size + 1 := size_push' _ _
        unfold Builtin.«set.__init__» noKeywords Builtin.Frozenset.updateFrom
        generalize byIter : pyIter = PI
        wp_walk
        subst byIter
        apply wpAny_pyIter_list hl2
        apply wpAny_bind
        apply wpAny_runValue
        have calm3 : A.in1.in1.in1.handled = none := calm
        have apart : l ≠ (s.heap.push (bare w)).objs.size := by rw [sz]; exact Nat.ne_of_lt (Nat.lt_succ_of_lt lS)
        have away : s.heap.objs.size ∉ [(s.heap.push (bare w)).objs.size, l] := fun z => by
          rw [sz] at z
          rcases List.mem_cons.mp z with y | y
          · exact Nat.ne_of_lt (Nat.lt_succ_self _) y
          · exact Nat.ne_of_gt lS (List.mem_singleton.mp y)
        refine loop_tx (Walks.list calm3 _ l apart items).toS away val tx small items.size 0 _ (Nat.zero_add _).symm ⟨⟨_, Heap.get?_push_size _ rfl, rfl, rfl⟩, hl2.push _⟩
          ⟨_, Heap.get?_push_of_some _ new, .nil⟩ fun s3 mv at3 => ?_
        obtain ⟨h3, g3, d3, t3, o3⟩ := s3
        obtain rfl : g3 = s.gens := mv.gens
        obtain rfl : d3 = s.drawn := mv.drawn
        obtain rfl : o3 = s.os := mv.os
        change wpAny _ _ _ _ _ _
        apply wpAny_pure
        change wpAny _ _ (ret Value.none) _ _ _
        refine wpAny_pure ⟨rfl, h3, t3, rfl, at3, fun b o hb e => mv.heap b o (fun z => ?_) (Heap.get?_push_of_some _ (Heap.get?_push_of_some _ e))⟩
        rcases List.mem_cons.mp z with y | y
        · exact Nat.ne_of_lt hb y
        · have y2 := List.mem_singleton.mp y
          rw [sz] at y2
          exact Nat.ne_of_lt (Nat.lt_succ_of_lt hb) y2
      · cases r2 with
        | error e => exact hr2
        | ok fl2 =>
          cases fl2 with
          | ret r =>
            obtain ⟨rfl, h', tk, rfl, x1, x2⟩ := hr2
            repeat (any_goals (first | assumption | wp_step))
            exact q _ _ x1 x2
          | _ => exact hr2.elim
    | _ => exact hr.elim
end
end STX
end
noncomputable section
namespace STX
open PySem PySem.Spec PyProof.Rows L2 PySem.Froz
theorem strs_of : ∀ vs : List Value, (∀ v ∈ vs, ∃ (k : Str) (u : Tok), v = Value.str k u) → StrsAre vs (vs.map strOf)
  | [], _ => .nil
  | v :: vs, h => by
    obtain ⟨k, u, rfl⟩ := h v List.mem_cons_self
    exact .cons k u (strs_of vs fun x hx => h x (List.mem_cons_of_mem _ hx))
section
variable {P : Program} {w : World} {A : Around} {E : Value → Shared → Prop} {s : Shared} {a : Addr} {l : List Str}
theorem sorted_tx {Q : Value → Shared → Prop} (calm : A.handled = none) (z : At P w s.heap a l) (small : l.length < scanBound)
    (q : ∀ s' p (out : Array Value) (c : Nat) (ys : List Str), (∀ b o, s.heap.get? b = some o → s'.heap.get? b = some o) → s'.gens = s.gens → s'.os = s.os → s.heap.objs.size ≤ p →
      s'.heap.get? p = some (seqObj "list" out c) → StrsAre out.toList ys → ys.Perm l → sortedS ys = true → Q (.ref p) s') :
    wpAny (model P w) A (call (.builtin "sorted") [.ref a]) Q E s := by
  obtain ⟨⟨es, ep, t⟩, d1, d2⟩ := z
  have zn : es.size = l.length := d2.ok.sz
  have zs : es.size < scanBound := by rw [zn]; exact small
  apply Calls.call_function_entry kind_sorted plain_sorted entry_sorted (args_sorted1 _)
  unfold Builtin.«sorted»
  apply wpAny_bind (m := checkCount "sorted" 1 1 _)
  apply wpAny_pure
  refine wpAny_bind (collect_set (A := A.in1) calm ⟨_, d1, rfl, rfl⟩ d2.ok.fit zs d2.ris d2.led fun s1 vs k1 sz g1 o1 pm => ?_)
  have len : vs.length = l.length := by rw [pm.length_eq, List.length_map, Array.length_toList]; exact zn
  have fits : vs.length ≤ sizeLine := by rw [len]; exact fits_of_scanBound small
  have txs : StrsAre vs (vs.map strOf) := strs_of vs fun v hv => by
    obtain ⟨e, he, rfl⟩ := List.mem_map.mp (pm.mem_iff.mp hv)
    exact d2.tx e he
  have perm : (vs.map strOf).Perm l := by
    refine (pm.map strOf).trans ?_
    rw [List.map_map]
    refine (List.Perm.of_eq (List.map_congr_left fun e he => ?_)).trans d2.pm
    obtain ⟨k, u, e2⟩ := d2.tx e he
    show strOf e.2 = txt e
    unfold txt
    rw [e2]
    rfl
  apply wpAny_bind
  apply wpAny_newList ?_ fits
  have own : (s1.heap.push (seqObj "list" vs.toArray 0)).get? s1.heap.objs.size = some (seqObj "list" vs.toArray 0) := Heap.get?_push_size _ rfl
  apply wpAny_bind
  apply wpAny_holding
  refine wpAny_call_entry slot_list_sort ⟨_, own, rfl⟩ entry_list_sort ?_ (args_list_sort _)
  refine list_sort_treeKAny PyProof.Rows.strKind_oneLt own txs.keysOf (fun x y r e => keyKind_strs (by rw [← e]; exact txs)) fits fun st r1 r2 => ⟨_, rfl, ?_⟩
  obtain ⟨ys, y1, y2, y3⟩ := sorted_out_str txs r1 r2
  obtain ⟨c, hc⟩ := sortedHeap_at (vs := vs) (out := (arrOf st).map (·.2)) own
  refine wpAny_pure ⟨_, rfl, q _ _ _ c ys (fun b o e => ?_) g1 o1 sz hc y1 (y2.trans perm) y3⟩
  have e1 := k1 b o e
  have lt := Heap.lt_size e1
  refine (sortedHeap_old (Nat.ne_of_lt lt) ?_).trans (Heap.get?_push_of_some _ e1)
  rw [size_push']
  exact Nat.lt_succ_of_lt lt
end
end STX
end
namespace AL
open PySem PySem.Spec PyProof.Rows L2 G

def onceS : List Str → List Str
  | [] => []
  | x :: l => if x ∈ l then onceS l else x :: onceS l
theorem txs_map : ∀ l : List Str, strsOf (l.map .str) = some l
  | [] => rfl
  | x :: l => by
    show (strsOf (l.map .str)).map (x :: ·) = _
    rw [txs_map l]
    rfl
def sortTx (l : List Str) : List Str := sortS (onceS l)
def gSortTx : List Val → Sto → Option (Val × Sto) := fun xs S => match xs with
  | [.ref n] => match S[n]? with
    | some (.lst vs) => match strsOf vs with
      | some l => if l.length ≤ 4000 then some (.ref S.length, S ++ [.lst ((sortTx l).map .str)]) else none
      | none => none
    | _ => none
  | _ => none
theorem mem_once {x : Str} : ∀ {l : List Str}, x ∈ onceS l ↔ x ∈ l
  | [] => Iff.rfl
  | y :: l => by
    unfold onceS
    split
    · next h =>
      rw [mem_once, List.mem_cons]
      exact ⟨.inr, fun z => z.elim (fun e => e ▸ h) id⟩
    · rw [List.mem_cons, List.mem_cons, mem_once]
theorem once_nd : ∀ l : List Str, (onceS l).Nodup
  | [] => .nil
  | y :: l => by
    unfold onceS
    split
    · exact once_nd l
    · next h => exact List.nodup_cons.mpr ⟨fun z => h (mem_once.mp z), once_nd l⟩
theorem once_le : ∀ l : List Str, (onceS l).length ≤ l.length
  | [] => Nat.le_refl _
  | y :: l => by
    unfold onceS
    split
    · exact Nat.le_succ_of_le (once_le l)
    · exact Nat.succ_le_succ (once_le l)
theorem once_id : ∀ {l : List Str}, l.Nodup → onceS l = l
  | [], _ => rfl
  | y :: l, h => by
    have h' := List.nodup_cons.mp h
    unfold onceS
    rw [if_neg h'.1, once_id h'.2]
section
variable {X : Cx} {pos pos2 p p2 : Pos} {e : Expr} {es : List Expr} {ga : AF}
def SetTxO (P : Program) (w : World) (a : Addr) (l : List Str) : HO := .ext fun h => STX.At P w h a l
def rSetTx (P : Program) (w : World) (K : PySem.W.Frag) : List V → Hp → VK → Prop := fun xs H Q => ∃ (a : Addr) (ts : List Str), xs = [.ref a] ∧ SqL K H a (ts.map V.str) ∧ ts.length ≤ 4000 ∧
  ∀ (b : Addr) (ys : List Str), (∀ x, x ∈ ys ↔ x ∈ ts) → ys.Nodup → H b = none → Q (.ref b) (upd H b (SetTxO P w b ys))
def rSortTx (P : Program) (w : World) : List V → Hp → VK → Prop := fun xs H Q => ∃ (a : Addr) (ts : List Str), xs = [.ref a] ∧ H a = some (SetTxO P w a ts) ∧ ts.length ≤ 4000 ∧
  ∀ (b : Addr) (ys : List Str), ys.Perm ts → sortedS ys = true → H b = none → Q (.ref b) (upd H b (.lst (ys.map V.str)))
theorem setTx_new {w : World} {P : Program} {H : Hp} {h : Heap} {a : Addr} {l : List Str} (z : STX.At P w h a l) : ObjOk P w H h a (SetTxO P w a l) := by
  have ⟨_, d, _⟩ := z
  exact ⟨z, ⟨_, d⟩, fun h1 h2 p k => STX.At.keep p k⟩
theorem cr_setTx (hc : X.calm = true) : CallR X (.type "set") (rSetTx X.prog X.w X.K) := by
  intro pins s σ H xs us Q I r h
  obtain ⟨a, ts, rfl, hs, hz, q⟩ := h
  obtain ⟨its, rv, hl, _⟩ := I.list hs
  rw [Vals.ref1 r]
  have len := rv.length
  rw [List.length_map] at len
  have sa : StrsAre its ts := rv.strs
  refine STX.set_tx (val := fun i => ts.getD i default) (I.ok.hd hc) hl.isList (fun i v e => ?_) (by rw [List.size_toArray, ← len]; unfold scanBound; omega) fun h' tk at1 k => ?_
  · rw [← Array.getElem?_toList] at e
    obtain ⟨y, t, e1, e2⟩ := StrsAre.item sa i v e
    exact ⟨t, by rw [e1, List.getD_eq_getElem?_getD, e2]; rfl⟩
  · refine ⟨.ref _, upd H s.heap.objs.size (SetTxO X.prog X.w s.heap.objs.size _), I.laid (t' := tk) (fun b u e => k b u (Heap.lt_size e) e) (Nat.le_refl _) (setTx_new at1), rfl, q _ _ (fun x => ?_) (STX.nd_met _ _) (I.hok.fresh (Nat.le_refl _))⟩
    refine STX.mem_met.trans ?_
    rw [List.size_toArray, ← len, List.mem_iff_getElem?]
    constructor
    · rintro ⟨i, h1, h2⟩
      refine ⟨i, ?_⟩
      rw [← h2, List.getD_eq_getElem?_getD, List.getElem?_eq_getElem h1]
      rfl
    · rintro ⟨i, h1⟩
      refine ⟨i, (List.getElem?_eq_some_iff.mp h1).1, ?_⟩
      show ts.getD i default = x
      rw [List.getD_eq_getElem?_getD, h1]
      rfl
theorem cr_sortTx (hc : X.calm = true) : CallR X (.builtin "sorted") (rSortTx X.prog X.w) := by
  intro pins s σ H xs us Q I r h
  obtain ⟨a, ts, rfl, ha, hz, q⟩ := h
  have z : STX.At X.prog X.w s.heap a ts := (I.hok a _ ha).1
  rw [Vals.ref1 r]
  refine STX.sorted_tx (I.ok.hd hc) z (by unfold scanBound; omega) fun s1 b out c ys k g o sz at1 y1 y2 y3 => ?_
  have free : H b = none := I.hok.fresh sz
  have fits : (ys.map V.str).length ≤ sizeLine := by rw [List.length_map, y2.length_eq, sizeLine_eq]; omega
  have J : Inv X pins σ (upd H b (.lst (ys.map V.str))) { s with heap := s1.heap, gens := s1.gens, drawn := s1.drawn, toks := s1.toks } :=
    I.call (ch := []) (Un.laid k sz free) (I.hok.laid k sz ⟨fits, out.toList, c, vals_of_strs y1, at1⟩) (by rw [g]; exact I.bare) (fun _ z => nomatch z)
  have e : s1 = { s with heap := s1.heap, gens := s1.gens, drawn := s1.drawn, toks := s1.toks } := by
    obtain ⟨a1, a2, a3, a4, a5⟩ := s1
    obtain rfl : a5 = s.os := o
    rfl
  rw [e]
  exact ⟨.ref b, _, J, rfl, q b ys y2 y3 free⟩
theorem cSortTx {P : Program} {w : World} {K : PySem.W.Frag} : CaA K (fun us H Q => rSetTx P w K us H fun v H1 => rSortTx P w [v] H1 Q) gSortTx := by
  intro m S H xs v S' us Q R ru ee q
  unfold gSortTx at ee
  split at ee
  · next n =>
    obtain ⟨u, rfl, r1⟩ := ru.one_of
    cases r1 with
    | ref hm =>
      split at ee
      · next vs en =>
        split at ee
        · next ts es =>
          split at ee
          · next hl =>
            cases ee
            obtain ⟨us, hx, rx⟩ := R.ob _ _ _ en hm
            rw [strs_eq es] at rx
            rw [vrs_strs_inv rx] at hx
            refine ⟨_, ts, rfl, SqL.of hx, hl, fun b ys hys nd hb => ?_⟩
            have same : ys.Perm (onceS ts) := (List.perm_ext_iff_of_nodup nd (once_nd ts)).mpr fun x => (hys x).trans mem_once.symm
            have short : ys.length ≤ 4000 := by
              rw [same.length_eq]
              exact Nat.le_trans (once_le ts) hl
            refine ⟨b, ys, rfl, upd_same, short, fun c zs z1 z2 hc => ?_⟩
            obtain ⟨R1, E1⟩ := R.tmp (o := SetTxO P w b ys) hb
            have ez : zs = sortTx ts := sortS_uniq (z1.trans same) z2
            rw [ez]
            exact newList R1 (vrs_strs _) (fun m' z H' E2 R2 r2 => q m' z H' (E1.trans E2) R2 r2) c hc
          · cases ee
        · cases ee
      · cases ee
  · cases ee
theorem asortTx (hg : Gl X "sorted") (hg2 : Gl X "set") (hm : X.mg "sorted" = none) (hm2 : X.mg "set" = none) (ha : AA X (e :: es) ga) (hc : X.calm = true := by rfl)
    (he : starEach (e :: es) X.env = (false, eval e X.env) :: starEach es X.env := by rfl) (hpl : (backTo pos2 (starEach es X.env)).any (·.1) = false := by rfl)
    (he2 : starEach [.Call (.Name "set" p2) (e :: es) [] pos2] X.env = (false, eval (.Call (.Name "set" p2) (e :: es) [] pos2) X.env) :: starEach [] X.env := by rfl) (hpl2 : (backTo pos (starEach [] X.env)).any (·.1) = false := by rfl) :
    AE X (.Call (.Name "sorted" p) [.Call (.Name "set" p2) (e :: es) [] pos2] [] pos) (eCall gSortTx ga) :=
  pe_w (pe_callB (x := "sorted") (cr_sortTx hc) hg hm (by decide +kernel) (pa_cons (pe_callTy (x := "set") (cr_setTx hc) hg2 hm2 (by decide +kernel) ha (by decide) (by decide) he hpl) pa_nil he2) (by decide) (by decide) he2 hpl2) fun _ _ _ h => eCall_ok cSortTx h
end
section
variable {S : Sto} {Q : Val → Sto → Prop}
theorem vSortTx {x : Val} {n : Nat} {l : List Str} (hx : x = .ref n) (h : S[n]? = some (.lst (l.map .str))) (hl : l.length ≤ 4000) (q : Nw S (.lst ((sortTx l).map .str)) Q) : Wp (gSortTx [x] S) Q := by
  subst hx
  exact ⟨_, _, by simp only [gSortTx, h, txs_map, if_pos hl], q.use⟩
end
end AL
namespace AL
open PySem PySem.Spec PyProof.Rows L2 G
variable [TT]
section
variable {X : Cx} {K : PySem.W.Frag}
def rNInTD (K : PySem.W.Frag) : R2 := fun x y H Q => ∃ d ds, Dp K H x d ∧ Dp K H y (.tuple ds) ∧ SeqAt.shaped d = true ∧ SeqAt.shaped (.tuple ds) = true ∧ Q (.bl (!ds.any fun z => PyData.eqv z d)) H
omit [TT] in
theorem op_ninTD (hu : X.A.units + 65 < cLine) : OpR X (compareOp .NotIn) (rNInTD X.K) := by
  intro ps st si H x y v u Q inv rx ry h
  obtain ⟨d, ds, h1, h2, h3, h4, q⟩ := h
  obtain ⟨as, r1⟩ := Dp.reads inv d x v h1 rx
  obtain ⟨bs, r2⟩ := Dp.reads inv (.tuple ds) y u h2 ry
  exact SeqAt.notIn_tuple_reads r2 r1 (SeqAt.canLay_of_shaped h4) (SeqAt.canLay_of_shaped h3) (room_in_shaped h3 hu) ⟨.bl _, H, inv, rfl, q⟩
def gNInTD : Val → Val → Sto → Option (Val × Sto) := fun x y S => match toD S 40 x, toD S 40 y with
  | some d, some (.tuple ds) => if SeqAt.shaped d = true ∧ SeqAt.shaped (.tuple ds) = true then some (.bl (!ds.any fun z => PyData.eqv z d), S) else none
  | _, _ => none
theorem oNInTD : OpA K (rNInTD K) gNInTD := by
  intro m S H x y v S' u w Q R ru rw_ e q
  unfold gNInTD at e
  split at e
  · next d ds e1 e2 =>
    split at e
    · next hs =>
      cases e
      exact ⟨d, ds, toD_dp R 40 _ _ _ ru e1, toD_dp R 40 _ _ _ rw_ e2, hs.1, hs.2, q m _ H (.refl _ _) R (.bl _)⟩
    · cases e
  · cases e
end
end AL
namespace K05
open PySem PySem.Spec PyProof.Rows L2 G Th AL
open K37 (common_divisor_ common_divisor_B is_below_ is_below_B)
open K08 (feedL_ feedL_B drawL_ drawL_B divisorL_ divisorL_B madeL_ madeL_B fieldL_ fieldL_B)
open K13 (is_numberL_ is_numberL_B)
open K14 (is_number_ is_number_B)
open K12 (spoiltL_ spoiltL_B spoiltL_n)
open K07 (is_fraction_ is_fraction_B is_fractionL_ is_fractionL_B)
open K09 (is_word_ is_word_B rises_ rises_B is_house_ is_house_B is_link_ is_link_B are_houses_ are_houses_B are_links_ are_links_B is_field_ is_field_B)
open K04 (is_wordL_ is_wordL_B)
noncomputable def is_houseL_B : SF := (sSeq (sIf (bOr (bNot (eT (eU (gIsi "tuple") (eV 0)))) (bOr (eT (eB gNe (eCall gLen (aCons (eV 0) aNil)) (eC (.int 3)))) (bNot (eT (eDef is_wordL_ 1 (aCons (eB gIxA (eV 0) (eC (.int 0))) aNil)))))) (sRet (eC (.bl false))) sNil)
    (sSeq (sIf (bOr (bNot (eT (eDef is_fractionL_ 1 (aCons (eB gIxA (eV 0) (eC (.int 1))) aNil)))) (bNot (eT (eDef is_fractionL_ 1 (aCons (eB gIxA (eV 0) (eC (.int 2))) aNil))))) (sRet (eC (.bl false))) sNil)
    (sRet (eAnd (eCh gLt gLe (eC (.int 0)) (eB gIxA (eB gIxA (eV 0) (eC (.int 1))) (eC (.int 0))) (eB gIxA (eB gIxA (eV 0) (eC (.int 1))) (eC (.int 1)))) (eB gGe (eB gIxA (eB gIxA (eV 0) (eC (.int 2))) (eC (.int 0))) (eB gIxA (eB gIxA (eV 0) (eC (.int 2))) (eC (.int 1))))))))
noncomputable def is_houseL_ : FA := runF 1 is_houseL_B
noncomputable def is_linkL_B : SF := (sSeq (sIf (bOr (bNot (eT (eU (gIsi "tuple") (eV 0)))) (bOr (eT (eB gNe (eCall gLen (aCons (eV 0) aNil)) (eC (.int 4)))) (bOr (bNot (eT (eDef is_wordL_ 1 (aCons (eB gIxA (eV 0) (eC (.int 0))) aNil)))) (bNot (eT (eDef is_wordL_ 1 (aCons (eB gIxA (eV 0) (eC (.int 1))) aNil))))))) (sRet (eC (.bl false))) sNil)
    (sSeq (sIf (bOr (eT (eB gEq (eB gIxA (eV 0) (eC (.int 0))) (eB gIxA (eV 0) (eC (.int 1))))) (bOr (bNot (eT (eDef is_fractionL_ 1 (aCons (eB gIxA (eV 0) (eC (.int 2))) aNil)))) (eT (eB gLt (eB gIxA (eB gIxA (eV 0) (eC (.int 2))) (eC (.int 0))) (eC (.int 0)))))) (sRet (eC (.bl false))) sNil)
    (sSeq (sIf (eT (eB gIs (eB gIxA (eV 0) (eC (.int 3))) (eC .non))) (sRet (eC (.bl true))) sNil)
    (sRet (eAnd (eDef is_fractionL_ 1 (aCons (eB gIxA (eV 0) (eC (.int 3))) aNil)) (eB gGe (eB gMul (eB gIxA (eB gIxA (eV 0) (eC (.int 3))) (eC (.int 0))) (eB gIxA (eB gIxA (eV 0) (eC (.int 2))) (eC (.int 1)))) (eB gMul (eB gIxA (eB gIxA (eV 0) (eC (.int 2))) (eC (.int 0))) (eB gIxA (eB gIxA (eV 0) (eC (.int 3))) (eC (.int 1))))))))))
noncomputable def is_linkL_ : FA := runF 1 is_linkL_B
noncomputable def is_fieldL_B : SF := (sSeq (sIf (bOr (bNot (eT (eU (gIsi "tuple") (eV 0)))) (bOr (eT (eB gNe (eCall gLen (aCons (eV 0) aNil)) (eC (.int 3)))) (bNot (eT (eDef is_wordL_ 1 (aCons (eB gIxA (eV 0) (eC (.int 2))) aNil)))))) (sRet (eC (.bl false))) sNil)
    (sSeq (sAsg (.tp [(.nm 2), (.nm 3), (.nm 4)]) (eV 0))
    (sSeq (sIf (bOr (bNot (eT (eU (gIsi "tuple") (eV 2)))) (eT (eB gNe (eLc (.nm 5) (iSeq (eV 2)) (bNot (eT (eDef is_houseL_ 1 (aCons (eV 5) aNil)))) (eV 5) [5]) (eLst aNil)))) (sRet (eC (.bl false))) sNil)
    (sSeq (sIf (bOr (bNot (eT (eU (gIsi "tuple") (eV 3)))) (eT (eB gNe (eLc (.nm 5) (iSeq (eV 3)) (bNot (eT (eDef is_linkL_ 1 (aCons (eV 5) aNil)))) (eV 5) [5]) (eLst aNil)))) (sRet (eC (.bl false))) sNil)
    (sSeq (sAsg (.nm 1) (eLc (.nm 5) (iSeq (eV 2)) bYes (eB gIxA (eV 5) (eC (.int 0))) [5]))
    (sSeq (sIf (bOr (eT (eB gNe (eV 1) (eCall gSortTx (aCons (eV 1) aNil)))) (eT (eB gNInTD (eTup (aCons (eV 4) (aCons (eTup (aCons (eC (.int 1)) (aCons (eC (.int 1)) aNil))) (aCons (eTup (aCons (eC (.int 1)) (aCons (eC (.int 1)) aNil))) aNil)))) (eV 2)))) (sRet (eC (.bl false))) sNil)
    (sRet (eB gEq (eLc (.nm 5) (iSeq (eV 3)) (bOr (eT (eB (gIn true) (eB gIxA (eV 5) (eC (.int 0))) (eV 1))) (eT (eB (gIn true) (eB gIxA (eV 5) (eC (.int 1))) (eV 1)))) (eV 5) [5]) (eLst aNil)))))))))
noncomputable def is_fieldL_ : FA := runF 6 is_fieldL_B
end K05
namespace AL
open PySem PySem.Spec PyProof.Rows L2 G Th
variable [TT]
def tCall0 (m : Nat) (sp : Sp) (gV : List V → List V → List V) (E : XK) (tk : TA) : TE := fun σ H Q => tk σ H fun zs H2 => zs.length = m ∧ sp (gV [] zs) H2 Q E
section
variable {X : Cx} {kws : List Keyword} {pos p : Pos}
theorem pe_callNG0 {k : Nat} {f : Addr} {fd : FuncData} {ps ks : List Str} {sp : Sp} {x : Str} {tk : TA} {g : List Value → List Value → List Value} {gV : List V → List V → List V}
    (F : FnG X.prog X.w X.K X.mg X.base k f fd ps sp) (hgd : X.A.guards = some []) (hr : Room k X.A) (hg : Gl X x) (hm : X.mg x = some (.ref f)) (hk : PySem.W.keepIn X.K (.ref f) = true) (hb : KBn X.K fd ps 0 ks g gV)
    (hkw : PK X kws tk) (hall : (backToKw pos (keywordEach kws X.env)).all (·.1.isSome) = true) (hks : (backToKw pos (keywordEach kws X.env)).filterMap (·.1) = ks)
    (hdb : (x == ("__debug__" : Str)) = false)
    (hpl : ((backTo pos (starEach [] X.env)).any (·.1) || (backToKw pos (keywordEach kws X.env)).any (·.1.isNone)) = false) :
    PE X (.Call (.Name x p) [] kws pos) (tCall0 ks.length sp gV E0 tk) := by
  refine ⟨fun pins s σ H Q I h => ?_⟩
  refine wpAny_Call_Name_kw (ld_glob I hg hm ?_ hdb)
  refine PySem.W.callWith_KW0 (h₀ := X.base) I.ok.mod.kin hk hall ?_ hpl
  refine thn (hkw.run pos pins s σ H _ I h) fun ws s2 ⟨zs, H2, I2, rz, l2, q2⟩ => ⟨I2.kIn, ?_⟩
  rw [hks]
  exact run_gN (us := []) (vs := []) (E := E0) F hgd hr hb I2 .nil rz rfl l2 q2
theorem acdk0 {ks : List Str} {gk : AF} {k : Nat} {x : Str} {gA : List Val → List Val → List Val} {F : FA} (D : DefK X.prog X.w X.K X.mg X.base k x 0 ks gA F) (g : X.A.guards = some []) (hr : Room k X.A) (hgl : Gl X x) (hkw : PK X kws (tFa X.K gk))
    (hall : (backToKw pos (keywordEach kws X.env)).all (·.1.isSome) = true := by rfl) (hks : (backToKw pos (keywordEach kws X.env)).filterMap (·.1) = ks := by rfl)
    (hdb : (x == ("__debug__" : Str)) = false := by decide)
    (hpl : ((backTo pos (starEach [] X.env)).any (·.1) || (backToKw pos (keywordEach kws X.env)).any (·.1.isNone)) = false := by rfl) {m : Nat} (hm : ks.length = m := by rfl) : AE X (.Call (.Name x p) [] kws pos) (eDefK F 0 m gA aNil gk) := by
  subst hm
  obtain ⟨f, fd, ps, g', gV, hF, hb, hm, hk, rel⟩ := D.ex
  refine pe_w (pe_callNG0 hF g hr hgl hm hk hb hkw hall hks hdb hpl) fun σ H Q h => ?_
  obtain ⟨m, ρ, S, v, S', R, r, e, q⟩ := h
  obtain ⟨⟨x1, S1⟩, e1, e⟩ := Option.bind_eq_some_iff.mp e
  obtain ⟨⟨x2, S2⟩, e2, e⟩ := Option.bind_eq_some_iff.mp e
  cases e1
  dsimp only at e
  split at e
  · next hl =>
    refine ⟨m, ρ, S, x2, S2, R, r, e2, fun m2 ws H2 E2 R2 r2 => ?_⟩
    obtain ⟨rr, ll⟩ := rel H2 m2 [] ws [] x2 .nil r2 rfl hl.2
    exact ⟨by rw [r2.len]; exact hl.2, by rw [rr.len]; exact ll, m2, S2, _, v, S', R2, rr, e, fun m3 z H3 E3 R3 r3 => q m3 z H3 (E2.trans E3) R3 r3⟩
  · cases e
end
end AL
namespace AL
open PySem PySem.Spec PyProof.Rows L2 G Th
variable [TT]
section
variable {P : Program} {w : World} {K : PySem.W.Frag} {mg : Str → Option Value} {base : Heap} {k : Nat} {x : Str} {F : FA}
theorem def_k0 (D : Def P w K mg base k x [] F) : DefK P w K mg base k x 0 [] (fun _ _ => []) F := by
  obtain ⟨f, fd, hF, hb, hm, hk⟩ := D.ex
  refine ⟨f, fd, [], fun _ _ => [], fun _ _ => [], hF, ⟨fun s us ws I l1 l2 => ?_, fun _ _ => .nil⟩, hm, hk, fun H m vs zs as bs r1 r2 l1 l2 => ⟨.nil, rfl⟩⟩
  have e1 := List.length_eq_zero_iff.mp l1
  have e2 := List.length_eq_zero_iff.mp l2
  subst e1 e2
  exact hb s [] I rfl
theorem acd0 {X : Cx} {pos p : Pos} {k : Nat} {x : Str} {F : FA} (D : Def X.prog X.w X.K X.mg X.base k x [] F) (g : X.A.guards = some []) (hr : Room k X.A) (hgl : Gl X x) (hdb : (x == ("__debug__" : Str)) = false := by decide) : AE X (.Call (.Name x p) [] [] pos) (eDef F 0 aNil) := by
  have e : eDefK F 0 0 (fun _ _ => []) aNil aNil = eDef F 0 aNil := by funext ρ S; rfl
  rw [← e]
  exact acdk0 (def_k0 D) g hr hgl akn (hdb := hdb)
end
end AL
namespace K03
open PySem PySem.Spec PyProof.Rows L2 G Th AL
open K37 (common_divisor_ common_divisor_B is_below_ is_below_B)
open K08 (feedL_ feedL_B drawL_ drawL_B divisorL_ divisorL_B madeL_ madeL_B fieldL_ fieldL_B)
open K13 (is_numberL_ is_numberL_B)
open K14 (is_number_ is_number_B)
open K12 (spoiltL_ spoiltL_B spoiltL_n)
open K07 (is_fraction_ is_fraction_B is_fractionL_ is_fractionL_B)
open K09 (is_word_ is_word_B rises_ rises_B is_house_ is_house_B is_link_ is_link_B are_houses_ are_houses_B are_links_ are_links_B is_field_ is_field_B)
open K04 (is_wordL_ is_wordL_B)
open K05 (is_houseL_ is_houseL_B is_linkL_ is_linkL_B is_fieldL_ is_fieldL_B)
noncomputable def near_partsL_B : SF := (sSeq (sAsg (.nm 0) (eLst (aCons (eTup (aCons (eC (.str "a")) (aCons (eTup (aCons (eC (.int 1)) (aCons (eC (.int 1)) aNil))) (aCons (eTup (aCons (eC (.int 1)) (aCons (eC (.int 1)) aNil))) aNil)))) (aCons (eTup (aCons (eC (.str "a")) (aCons (eTup (aCons (eC (.int 1)) (aCons (eC (.int 2)) aNil))) (aCons (eTup (aCons (eC (.int 2)) (aCons (eC (.int 1)) aNil))) aNil)))) (aCons (eTup (aCons (eC (.str "a")) (aCons (eTup (aCons (eC (.int 0)) (aCons (eC (.int 1)) aNil))) (aCons (eTup (aCons (eC (.int 1)) (aCons (eC (.int 1)) aNil))) aNil)))) (aCons (eTup (aCons (eC (.str "a")) (aCons (eTup (aCons (eU gNeg (eC (.int 1))) (aCons (eC (.int 2)) aNil))) (aCons (eTup (aCons (eC (.int 1)) (aCons (eC (.int 1)) aNil))) aNil)))) aNil))))))
    (sSeq (sAsg (.nm 0) (eB gAdd (eV 0) (eLst (aCons (eTup (aCons (eC (.str "a")) (aCons (eTup (aCons (eC (.int 3)) (aCons (eC (.int 2)) aNil))) (aCons (eTup (aCons (eC (.int 2)) (aCons (eC (.int 1)) aNil))) aNil)))) (aCons (eTup (aCons (eC (.str "a")) (aCons (eTup (aCons (eC (.int 1)) (aCons (eC (.int 2)) aNil))) (aCons (eTup (aCons (eC (.int 1)) (aCons (eC (.int 2)) aNil))) aNil)))) (aCons (eTup (aCons (eC (.str "a")) (aCons (eTup (aCons (eC (.int 2)) (aCons (eC (.int 2)) aNil))) (aCons (eTup (aCons (eC (.int 1)) (aCons (eC (.int 1)) aNil))) aNil)))) (aCons (eTup (aCons (eC (.str "a")) (aCons (eTup (aCons (eC (.int 1)) (aCons (eC (.int 1)) aNil))) aNil))) aNil)))))))
    (sSeq (sAsg (.nm 0) (eB gAdd (eV 0) (eLst (aCons (eTup (aCons (eC (.str "A")) (aCons (eTup (aCons (eC (.int 1)) (aCons (eC (.int 1)) aNil))) (aCons (eTup (aCons (eC (.int 1)) (aCons (eC (.int 1)) aNil))) aNil)))) (aCons (eLst (aCons (eC (.str "a")) (aCons (eTup (aCons (eC (.int 1)) (aCons (eC (.int 1)) aNil))) (aCons (eTup (aCons (eC (.int 1)) (aCons (eC (.int 1)) aNil))) aNil)))) aNil)))))
    (sSeq (sAsg (.nm 0) (eB gAdd (eV 0) (eLst (aCons (eTup (aCons (eC (.str "a")) (aCons (eC (.int 1)) (aCons (eC (.int 1)) aNil)))) (aCons (eTup (aCons (eC (.str "a")) (aCons (eTup (aCons (eC (.int 1)) (aCons (eC (.int 1)) aNil))) (aCons (eC .non) aNil)))) (aCons (eTup (aCons (eC (.str "a")) (aCons (eTup (aCons (eC (.int 1)) (aCons (eB gPow (eC (.int 10)) (eC (.int 30))) aNil))) (aCons (eTup (aCons (eB gPow (eC (.int 10)) (eC (.int 30))) (aCons (eC (.int 1)) aNil))) aNil)))) (aCons (eTup (aCons (eC (.str "a")) (aCons (eTup (aCons (eC (.bl true)) (aCons (eC (.int 1)) aNil))) (aCons (eTup (aCons (eC (.int 1)) (aCons (eC (.int 1)) aNil))) aNil)))) aNil)))))))
    (sSeq (sAsg (.nm 0) (eB gAdd (eV 0) (eLst (aCons (eTup (aCons (eC (.str "a")) (aCons (eC (.str "b")) (aCons (eTup (aCons (eC (.int 0)) (aCons (eC (.int 1)) aNil))) (aCons (eC .non) aNil))))) (aCons (eTup (aCons (eC (.str "a")) (aCons (eC (.str "b")) (aCons (eTup (aCons (eC (.int 0)) (aCons (eC (.int 1)) aNil))) (aCons (eTup (aCons (eC (.int 0)) (aCons (eC (.int 1)) aNil))) aNil))))) (aCons (eTup (aCons (eC (.str "a")) (aCons (eC (.str "a")) (aCons (eTup (aCons (eC (.int 0)) (aCons (eC (.int 1)) aNil))) (aCons (eC .non) aNil))))) aNil))))))
    (sSeq (sAsg (.nm 0) (eB gAdd (eV 0) (eLst (aCons (eTup (aCons (eC (.str "a")) (aCons (eC (.str "b")) (aCons (eTup (aCons (eU gNeg (eC (.int 1))) (aCons (eC (.int 1)) aNil))) (aCons (eC .non) aNil))))) (aCons (eTup (aCons (eC (.str "a")) (aCons (eC (.str "b")) (aCons (eTup (aCons (eC (.int 1)) (aCons (eC (.int 1)) aNil))) (aCons (eTup (aCons (eC (.int 1)) (aCons (eC (.int 2)) aNil))) aNil))))) (aCons (eTup (aCons (eC (.str "a")) (aCons (eC (.str "b")) (aCons (eTup (aCons (eC (.int 1)) (aCons (eC (.int 2)) aNil))) (aCons (eTup (aCons (eC (.int 1)) (aCons (eC (.int 1)) aNil))) aNil))))) aNil))))))
    (sSeq (sAsg (.nm 0) (eB gAdd (eV 0) (eLst (aCons (eTup (aCons (eC (.str "a")) (aCons (eC (.str "b")) (aCons (eC .non) (aCons (eTup (aCons (eC (.int 1)) (aCons (eC (.int 1)) aNil))) aNil))))) (aCons (eTup (aCons (eC (.str "a")) (aCons (eC (.str "b")) (aCons (eTup (aCons (eC (.int 1)) (aCons (eC (.int 1)) aNil))) (aCons (eC (.int 2)) aNil))))) aNil)))))
    (sRet (eB gAdd (eV 0) (eLst (aCons (eTup (aCons (eC (.str "a")) (aCons (eC (.str "")) (aCons (eTup (aCons (eC (.int 0)) (aCons (eC (.int 1)) aNil))) (aCons (eC .non) aNil))))) (aCons (eTup (aCons (eC (.str "a")) (aCons (eC (.str "b")) (aCons (eTup (aCons (eC (.int 0)) (aCons (eC (.int 1)) aNil))) aNil)))) (aCons (eTup (aCons (eC (.str "a")) (aCons (eC (.str "b")) (aCons (eTup (aCons (eC (.int 0)) (aCons (eC (.int 1)) aNil))) (aCons (eTup (aCons (eC (.int 2)) (aCons (eC (.int 2)) aNil))) aNil))))) (aCons (eTup (aCons (eC (.str "b")) (aCons (eC (.str "a")) (aCons (eTup (aCons (eC (.int 5)) (aCons (eC (.int 1)) aNil))) (aCons (eTup (aCons (eC (.int 5)) (aCons (eC (.int 1)) aNil))) aNil))))) aNil))))))))))))))
noncomputable def near_partsL_ : FA := runF 1 near_partsL_B
noncomputable def nearL_B : SF := (sSeq (sAsg (.tp [(.nm 5), (.nm 6), (.nm 7)]) (eV 0))
    (sSeq (sAsg (.nm 1) (eB gIxA (eV 5) (eU gNeg (eC (.int 1)))))
    (sSeq (sAsg (.nm 2) (eLst (aCons (eV 0) (aCons (eCall gList (aCons (eV 0) aNil)) (aCons (eSl gSlA (eV 0) oN (oS (eC (.int 2)))) (aCons (eB gAddT (eV 0) (eTup (aCons (eC .non) aNil))) (aCons (eTup (aCons (eU gRevT (eV 5)) (aCons (eV 6) (aCons (eV 7) aNil)))) aNil)))))))
    (sSeq (sExpr (eMt isL gApp (eV 2) (aCons (eTup (aCons (eB gAddT (eV 5) (eSl gSlA (eV 5) (oS (eU gNeg (eC (.int 1)))) oN)) (aCons (eV 6) (aCons (eV 7) aNil)))) aNil)))
    (sSeq (sAsg (.nm 2) (eB gAdd (eV 2) (eLst (aCons (eTup (aCons (eV 5) (aCons (eB gAddT (eV 6) (eV 6)) (aCons (eV 7) aNil)))) (aCons (eTup (aCons (eV 5) (aCons (eU gRevT (eV 6)) (aCons (eV 7) aNil)))) (aCons (eTup (aCons (eV 5) (aCons (eCall gList (aCons (eV 6) aNil)) (aCons (eV 7) aNil)))) aNil))))))
    (sSeq (sAsg (.nm 2) (eB gAdd (eV 2) (eLst (aCons (eTup (aCons (eV 5) (aCons (eV 6) (aCons (eC (.str "zzz")) aNil)))) (aCons (eTup (aCons (eV 5) (aCons (eV 6) (aCons (eC (.str "")) aNil)))) (aCons (eTup (aCons (eV 5) (aCons (eV 6) (aCons (eC .non) aNil)))) aNil))))))
    (sSeq (sAsg (.nm 2) (eB gAdd (eV 2) (eLst (aCons (eTup (aCons (eSl gSlA (eV 5) (oS (eC (.int 1))) oN) (aCons (eV 6) (aCons (eV 7) aNil)))) (aCons (eTup (aCons (eTup aNil) (aCons (eTup aNil) (aCons (eC (.str "a")) aNil)))) aNil)))))
    (sSeq (sFor (.nm 3) (iSeq (eV 5)) (sExpr (eMt isL gApp (eV 2) (aCons (eTup (aCons (eV 5) (aCons (eV 6) (aCons (eB gIxA (eV 3) (eC (.int 0))) aNil)))) aNil))))
    (sSeq (sExpr (eMt isL gApp (eV 2) (aCons (eTup (aCons (eB gAddT (eSl gSlA (eV 5) oN (oS (eU gNeg (eC (.int 1))))) (eTup (aCons (eTup (aCons (eB gIxA (eV 1) (eC (.int 0))) (aCons (eTup (aCons (eC (.int 1)) (aCons (eC (.int 2)) aNil))) (aCons (eTup (aCons (eC (.int 1)) (aCons (eC (.int 1)) aNil))) aNil)))) aNil))) (aCons (eV 6) (aCons (eB gIxA (eV 1) (eC (.int 0))) aNil)))) aNil)))
    (sSeq (sFor (.nm 4) (iSeq (eTup (aCons (eTup (aCons (eB gIxA (eV 1) (eC (.int 0))) (aCons (eC (.str "zzz")) (aCons (eTup (aCons (eC (.int 0)) (aCons (eC (.int 1)) aNil))) (aCons (eC .non) aNil))))) (aCons (eTup (aCons (eC (.str "zzz")) (aCons (eB gIxA (eV 1) (eC (.int 0))) (aCons (eTup (aCons (eC (.int 0)) (aCons (eC (.int 1)) aNil))) (aCons (eC .non) aNil))))) (aCons (eTup (aCons (eB gIxA (eV 1) (eC (.int 0))) (aCons (eB gIxA (eV 1) (eC (.int 0))) (aCons (eTup (aCons (eC (.int 0)) (aCons (eC (.int 1)) aNil))) (aCons (eC .non) aNil))))) aNil))))) (sExpr (eMt isL gApp (eV 2) (aCons (eTup (aCons (eV 5) (aCons (eB gAddT (eV 6) (eTup (aCons (eV 4) aNil))) (aCons (eV 7) aNil)))) aNil))))
    (sRet (eV 2))))))))))))
noncomputable def nearL_ : FA := runF 8 nearL_B
noncomputable def law_B : SF := (sSeq (sAsg (.nm 1) (eDef feedL_ 1 (aCons (eV 0) aNil)))
    (sSeq (sAsg (.nm 2) (eDef fieldL_ 1 (aCons (eV 1) aNil)))
    (sSeq (sAsg (.nm 3) (eC (.str "abcdefghij")))
    (sSeq (sAsg (.nm 4) (eCall gTuple (aCons (eLc (.nm 8) (iRg1 (aCons (eC (.int 100)) aNil)) bYes (eTup (aCons (eB gAddT (eB gIxA (eV 3) (eB gDiv (eV 8) (eC (.int 10)))) (eB gIxA (eV 3) (eB gMod (eV 8) (eC (.int 10))))) (aCons (eTup (aCons (eC (.int 1)) (aCons (eC (.int 1)) aNil))) (aCons (eTup (aCons (eC (.int 1)) (aCons (eC (.int 1)) aNil))) aNil)))) [8]) aNil)))
    (sSeq (sAsg (.nm 5) (eTup (aCons (eV 4) (aCons (eCall gTuple (aCons (eLc (.nm 8) (iRg2 (aCons (eC (.int 1)) (aCons (eC (.int 100)) aNil))) bYes (eTup (aCons (eC (.str "aa")) (aCons (eB gIxA (eB gIxA (eV 4) (eV 8)) (eC (.int 0))) (aCons (eTup (aCons (eC (.int 0)) (aCons (eC (.int 1)) aNil))) (aCons (eC .non) aNil))))) [8]) aNil)) (aCons (eC (.str "jj")) aNil)))))
    (sSeq (sAsg (.nm 6) (eLst (aCons (eC .non) (aCons (eC (.bl true)) (aCons (eC (.int 0)) (aCons (eC (.int 1)) (aCons (eC (.str "")) (aCons (eC (.str "a")) (aCons (eC (.str "zz")) (aCons (eTup aNil) (aCons (eLst aNil) (aCons (eTup (aCons (eC (.int 0)) (aCons (eC (.int 1)) aNil))) (aCons (eTup (aCons (eC (.int 1)) (aCons (eC (.int 1)) aNil))) (aCons (eTup (aCons (eC (.int 1)) (aCons (eC (.int 2)) aNil))) (aCons (eB gPow (eC (.int 10)) (eC (.int 30))) aNil)))))))))))))))
    (sSeq (sAsg (.nm 7) (eB gAdd (eB gAddT (eDef near_partsL_ 0 aNil) (eDef nearL_ 1 (aCons (eV 2) aNil))) (eLst (aCons (eV 5) (aCons (eTup (aCons (eB gAddT (eSl gSlA (eV 4) oN (oS (eU gNeg (eC (.int 2))))) (eU (gRevTo 3) (eV 4))) (aCons (eTup aNil) (aCons (eC (.str "jj")) aNil)))) aNil)))))
    (sSeq (sAsg (.nm 7) (eB gAddT (eV 7) (eCall gList (aCons (eB gAddT (eB gIxA (eV 2) (eC (.int 0))) (eB gIxA (eV 2) (eC (.int 1)))) aNil))))
    (sSeq (sFor (.nm 8) (iRg1 (aCons (eC (.int 8)) aNil)) (sSeq (sAsg (.nm 11) (eDef spoiltL_ 3 (aCons (eV 1) (aCons (eV 2) (aCons (eV 6) aNil)))))
    (sAsg (.nm 7) (eB gAdd (eV 7) (eLst (aCons (eV 11) (aCons (eDef spoiltL_ 3 (aCons (eV 1) (aCons (eV 11) (aCons (eV 6) aNil)))) aNil)))))))
    (sSeq (sFor (.nm 9) (iSeq (eCall gList (aCons (eB gAddT (eSl gSlA (eB gIxA (eV 2) (eC (.int 0))) oN (oS (eC (.int 2)))) (eSl gSlA (eB gIxA (eV 2) (eC (.int 1))) oN (oS (eC (.int 2))))) aNil))) (sAsg (.nm 7) (eB gAddT (eV 7) (eLc (.nm 8) (iRg1 (aCons (eC (.int 4)) aNil)) bYes (eDef spoiltL_ 3 (aCons (eV 1) (aCons (eV 9) (aCons (eV 6) aNil)))) [8]))))
    (sSeq (sFor (.nm 10) (iSeq (eB gAddT (eV 7) (eV 6))) (sSeq (sAsg (.nm 12) (eCall gRepr (aCons (eV 10) aNil)))
    (sSeq (sAsg (.nm 13) (eLst (aCons (eDef is_house_ 1 (aCons (eV 10) aNil)) (aCons (eDef is_link_ 1 (aCons (eV 10) aNil)) (aCons (eDef is_field_ 1 (aCons (eV 10) aNil)) aNil)))))
    (sSeq (sAsg (.nm 14) (eLst (aCons (eDef is_houseL_ 1 (aCons (eV 10) aNil)) (aCons (eDef is_linkL_ 1 (aCons (eV 10) aNil)) (aCons (eDef is_fieldL_ 1 (aCons (eV 10) aNil)) aNil)))))
    (sIf (bOr (eT (eB gNe (eCall gRepr (aCons (eV 13) aNil)) (eCall gRepr (aCons (eV 14) aNil)))) (eT (eB gNe (eCall gRepr (aCons (eV 10) aNil)) (eV 12)))) (sRet (eC (.bl false))) sNil)))))
    (sRet (eC (.bl true))))))))))))))
noncomputable def law_ : FA := runF 15 law_B
end K03
namespace K03
open PySem PySem.Spec PyProof.Rows L2 G Th AL
open K37 (common_divisor_ common_divisor_B is_below_ is_below_B)
open K08 (feedL_ feedL_B drawL_ drawL_B divisorL_ divisorL_B madeL_ madeL_B fieldL_ fieldL_B)
open K13 (is_numberL_ is_numberL_B)
open K14 (is_number_ is_number_B)
open K12 (spoiltL_ spoiltL_B spoiltL_n)
open K07 (is_fraction_ is_fraction_B is_fractionL_ is_fractionL_B)
open K09 (is_word_ is_word_B rises_ rises_B is_house_ is_house_B is_link_ is_link_B are_houses_ are_houses_B are_links_ are_links_B is_field_ is_field_B)
open K04 (is_wordL_ is_wordL_B)
open K05 (is_houseL_ is_houseL_B is_linkL_ is_linkL_B is_fieldL_ is_fieldL_B)
def topS (i : Nat) : Stmt := PySem.Challenge.pw_ledclocks_k03_houses_links_fields_by_kin.main.body.getD i (.Pass ⟨0, 0, 0, 0⟩)
section
variable {P : Program} {w : World} {K : PySem.W.Frag} {mg : Str → Option Value} {base : Heap}
def ss_is_number_ : {s : Stmt // topS 3 = s} := by
  refine ⟨?l, ?h⟩
  case h =>
    conv => lhs; whnf
abbrev st_is_number_ : Stmt := ss_is_number_.1
theorem sc_is_number_ : FnScope ["thing"] ["thing"] (defScope st_is_number_) := ⟨rfl, rfl, rfl, by decide +kernel, rfl, by decide +kernel, by decide +kernel⟩
theorem ok_is_number_ {f : Addr} {fd : FuncData} (F : Fun K "is_number" "is_number" st_is_number_ f fd) (hb : Binds K fd ["thing"] []) (hm : mg "is_number" = some (.ref f)) (m_isinstance : mg "isinstance" = none) (m_int : mg "int" = none) (m_bool : mg "bool" = none) : Def P w K mg base 1 "is_number" ["thing"] is_number_ :=
  fn_a F sc_is_number_ hb hm (g := is_number_B) fun cdv A outer s H E hg hr => (as1 (asr (aand (aisi (by rfl) m_isinstance (by rfl) m_int (by decide +kernel) (av 0)) (ae1 (anot (aisi (by rfl) m_isinstance (by rfl) m_bool (by decide +kernel) (av 0)))))))
def ss_is_word_ : {s : Stmt // topS 4 = s} := by
  refine ⟨?l, ?h⟩
  case h =>
    conv => lhs; whnf
abbrev st_is_word_ : Stmt := ss_is_word_.1
abbrev sc_is_word_N : List Str := ["thing", "sign"]
abbrev sc_is_word_S : Scope := defScope st_is_word_
theorem sc_is_word_ : FnScope ["thing", "sign"] ["thing"] (defScope st_is_word_) := ⟨rfl, rfl, rfl, by decide +kernel, rfl, by decide +kernel, by decide +kernel⟩
theorem ok_is_word_ {f : Addr} {fd : FuncData} (F : Fun K "is_word" "is_word" st_is_word_ f fd) (hb : Binds K fd ["thing"] []) (hm : mg "is_word" = some (.ref f)) (c_LONGEST_WORD : Cst K mg "LONGEST_WORD" (.int 8)) (c_SMALL_LETTERS : Cst K mg "SMALL_LETTERS" (.str "abcdefghijklmnopqrstuvwxyz")) (m_all : mg "all" = none) (m_isinstance : mg "isinstance" = none) (m_str : mg "str" = none) (m_len : mg "len" = none) : Def P w K mg base 1 "is_word" ["thing"] is_word_ :=
  fn_a F sc_is_word_ hb hm (g := is_word_B) fun cdv A outer s H E hg hr => (asq (asi (atw (awo (atn (atv (aisi (by rfl) m_isinstance (by rfl) m_str (by decide +kernel) (av 0)))) (awo1 (atn (atch op_le oLe op_le oLe ai (acb call_lenA cLen (by rfl) m_len PySem.boot_len (aac (av 0) aan)) (aglb c_LONGEST_WORD (by rfl))))))) (as1 (asr abl)) asn)
    (as1 (asr (acb (cr_all rfl) cAll (by rfl) m_all (by decide +kernel) (aac (alc (own := [("sign", 1)]) rfl sc_is_word_.nd (aichr (av 0)) (blkOk_by (own := [("sign", 1)]) (N := sc_is_word_N) (sc := sc_is_word_S) (by decide +kernel)) (by simp [Pat.slots, Pat.slotss]) (fun _ _ _ _ _ => (agn (i := 1) sc_is_word_.nd rfl (.inl rfl))) (fun _ _ _ _ _ => ats0) (fun _ _ _ _ _ => (acm opInT oInT (av 1) (aglb c_SMALL_LETTERS (by rfl)) (by rfl)))) aan)))))
def ss_rises_ : {s : Stmt // topS 5 = s} := by
  refine ⟨?l, ?h⟩
  case h =>
    conv => lhs; whnf
abbrev st_rises_ : Stmt := ss_rises_.1
abbrev sc_rises_N : List Str := ["things", "one", "other"]
abbrev sc_rises_S : Scope := defScope st_rises_
theorem sc_rises_ : FnScope ["things", "one", "other"] ["things"] (defScope st_rises_) := ⟨rfl, rfl, rfl, by decide +kernel, rfl, by decide +kernel, by decide +kernel⟩
theorem ok_rises_ {f : Addr} {fd : FuncData} (F : Fun K "rises" "rises" st_rises_ f fd) (hb : Binds K fd ["things"] []) (hm : mg "rises" = some (.ref f)) (m_all : mg "all" = none) (m_zip : mg "zip" = none) : Def P w K mg base 1 "rises" ["things"] rises_ :=
  fn_a F sc_rises_ hb hm (g := rises_B) fun cdv A outer s H E hg hr => (as1 (asr (acb (cr_all rfl) cAll (by rfl) m_all (by decide +kernel) (aac (alc (own := [("one", 1), ("other", 2)]) rfl sc_rises_.nd (aiz (by rfl) m_zip (aac (av 0) (aac (asl sl_B oSlA (av 0) (aos ai) aon) aan))) (blkOk_by (own := [("one", 1), ("other", 2)]) (N := sc_rises_N) (sc := sc_rises_S) (by decide +kernel)) (by simp [Pat.slots, Pat.slotss]) (fun _ _ _ _ _ => (agt rfl (agl (agn (i := 1) sc_rises_.nd rfl (.inl rfl)) (agl (agn (i := 2) sc_rises_.nd rfl (.inl rfl)) agl0)))) (fun _ _ _ _ _ => ats0) (fun _ _ _ _ _ => (acm op_lt_str oLtT (av 1) (av 2) (nomark _)))) aan))))
def ss_common_divisor_ : {s : Stmt // topS 10 = s} := by
  refine ⟨?l, ?h⟩
  case h =>
    conv => lhs; whnf
abbrev st_common_divisor_ : Stmt := ss_common_divisor_.1
theorem sc_common_divisor_ : FnScope ["a", "b"] ["a", "b"] (defScope st_common_divisor_) := ⟨rfl, rfl, rfl, by decide +kernel, rfl, by decide +kernel, by decide +kernel⟩
theorem ok_common_divisor_ {f : Addr} {fd : FuncData} (F : Fun K "common_divisor" "common_divisor" st_common_divisor_ f fd) (hb : Binds K fd ["a", "b"] []) (hm : mg "common_divisor" = some (.ref f)) (m_abs : mg "abs" = none) : Def P w K mg base 1 "common_divisor" ["a", "b"] common_divisor_ :=
  fn_a F sc_common_divisor_ hb hm (g := common_divisor_B) fun cdv A outer s H E hg hr => (asq (asw PassesOwn.never (atc (op_neA hr.units) oNe (av 1) ai (nomark _)) (as1 (asp2' (ps_par (i := 0) (j := 1) (by rfl) sc_common_divisor_.nd rfl rfl (by decide) rfl rfl (aac (av 1) (aac (aop op_modN oMod (av 0) (av 1)) aan)) (by rfl)))))
    (as1 (asr (acb call_abs cAbs (by rfl) m_abs boot_abs (aac (av 0) aan)))))
def ss_is_fraction_ : {s : Stmt // topS 9 = s} := by
  refine ⟨?l, ?h⟩
  case h =>
    conv => lhs; whnf
abbrev st_is_fraction_ : Stmt := ss_is_fraction_.1
theorem sc_is_fraction_ : FnScope ["thing", "a", "b"] ["thing"] (defScope st_is_fraction_) := ⟨rfl, rfl, rfl, by decide +kernel, rfl, by decide +kernel, by decide +kernel⟩
theorem ok_is_fraction_ {f : Addr} {fd : FuncData} (F : Fun K "is_fraction" "is_fraction" st_is_fraction_ f fd) (hb : Binds K fd ["thing"] []) (hm : mg "is_fraction" = some (.ref f)) (d_is_number_ : Def P w K mg base 1 "is_number" ["thing"] is_number_) (d_common_divisor_ : Def P w K mg base 1 "common_divisor" ["a", "b"] common_divisor_) (m_isinstance : mg "isinstance" = none) (m_tuple : mg "tuple" = none) (m_len : mg "len" = none) : Def P w K mg base 2 "is_fraction" ["thing"] is_fraction_ :=
  fn_a F sc_is_fraction_ hb hm (g := is_fraction_B) fun cdv A outer s H E hg hr => (asq (asi (atw (awo (atn (atv (aisi (by rfl) m_isinstance (by rfl) m_tuple (by decide +kernel) (av 0)))) (awo1 (atc (op_neA hr.units) oNe (acb call_lenA cLen (by rfl) m_len PySem.boot_len (aac (av 0) aan)) ai (nomark _))))) (as1 (asr abl)) asn)
    (asq (asa (av 0) (agt rfl (agl (agn (i := 1) sc_is_fraction_.nd rfl (.inl rfl)) (agl (agn (i := 2) sc_is_fraction_.nd rfl (.inl rfl)) agl0))))
    (as1 (asr (aand (acd d_is_number_ hg (hr.mono (by decide)) (by rfl) (aac (av 1) aan)) (aand (acd d_is_number_ hg (hr.mono (by decide)) (by rfl) (aac (av 2) aan)) (aand (acm op_gt oGt (av 2) ai (nomark _)) (ae1 (acm (op_eqA hr.units) oEq (acd d_common_divisor_ hg (hr.mono (by decide)) (by rfl) (aac (av 1) (aac (av 2) aan))) ai (nomark _))))))))))
def ss_is_below_ : {s : Stmt // topS 11 = s} := by
  refine ⟨?l, ?h⟩
  case h =>
    conv => lhs; whnf
abbrev st_is_below_ : Stmt := ss_is_below_.1
theorem sc_is_below_ : FnScope ["one", "other"] ["one", "other"] (defScope st_is_below_) := ⟨rfl, rfl, rfl, by decide +kernel, rfl, by decide +kernel, by decide +kernel⟩
theorem ok_is_below_ {f : Addr} {fd : FuncData} (F : Fun K "is_below" "is_below" st_is_below_ f fd) (hb : Binds K fd ["one", "other"] []) (hm : mg "is_below" = some (.ref f)) : Def P w K mg base 1 "is_below" ["one", "other"] is_below_ :=
  fn_a F sc_is_below_ hb hm (g := is_below_B) fun cdv A outer s H E hg hr => (as1 (asr (acm op_lt oLt (aop op_mulW oMul (aixA (hu_of hr) (av 0) ai (fun _ _ => rfl) (fun _ _ => rfl)) (aixA (hu_of hr) (av 1) ai (fun _ _ => rfl) (fun _ _ => rfl))) (aop op_mulW oMul (aixA (hu_of hr) (av 1) ai (fun _ _ => rfl) (fun _ _ => rfl)) (aixA (hu_of hr) (av 0) ai (fun _ _ => rfl) (fun _ _ => rfl))) (nomark _))))
def ss_is_house_ : {s : Stmt // topS 13 = s} := by
  refine ⟨?l, ?h⟩
  case h =>
    conv => lhs; whnf
abbrev st_is_house_ : Stmt := ss_is_house_.1
theorem sc_is_house_ : FnScope ["thing", "name", "slow", "fast"] ["thing"] (defScope st_is_house_) := ⟨rfl, rfl, rfl, by decide +kernel, rfl, by decide +kernel, by decide +kernel⟩
theorem ok_is_house_ {f : Addr} {fd : FuncData} (F : Fun K "is_house" "is_house" st_is_house_ f fd) (hb : Binds K fd ["thing"] []) (hm : mg "is_house" = some (.ref f)) (d_is_below_ : Def P w K mg base 1 "is_below" ["one", "other"] is_below_) (d_is_word_ : Def P w K mg base 1 "is_word" ["thing"] is_word_) (d_is_fraction_ : Def P w K mg base 2 "is_fraction" ["thing"] is_fraction_) (c_NOUGHT : Cst K mg "NOUGHT" (.tup [.int 0, .int 1])) (c_ONE : Cst K mg "ONE" (.tup [.int 1, .int 1])) (m_isinstance : mg "isinstance" = none) (m_tuple : mg "tuple" = none) (m_len : mg "len" = none) : Def P w K mg base 3 "is_house" ["thing"] is_house_ :=
  fn_a F sc_is_house_ hb hm (g := is_house_B) fun cdv A outer s H E hg hr => (asq (asi (atw (awo (atn (atv (aisi (by rfl) m_isinstance (by rfl) m_tuple (by decide +kernel) (av 0)))) (awo1 (atc (op_neA hr.units) oNe (acb call_lenA cLen (by rfl) m_len PySem.boot_len (aac (av 0) aan)) ai (nomark _))))) (as1 (asr abl)) asn)
    (asq (asa (av 0) (agt rfl (agl (agn (i := 1) sc_is_house_.nd rfl (.inl rfl)) (agl (agn (i := 2) sc_is_house_.nd rfl (.inl rfl)) (agl (agn (i := 3) sc_is_house_.nd rfl (.inl rfl)) agl0)))))
    (asq (asi (atw (awo (atn (atv (acd d_is_word_ hg (hr.mono (by decide)) (by rfl) (aac (av 1) aan)))) (awo (atn (atv (acd d_is_fraction_ hg (hr.mono (by decide)) (by rfl) (aac (av 2) aan)))) (awo1 (atn (atv (acd d_is_fraction_ hg (hr.mono (by decide)) (by rfl) (aac (av 3) aan)))))))) (as1 (asr abl)) asn)
    (as1 (asr (aand (acd d_is_below_ hg (hr.mono (by decide)) (by rfl) (aac (aglb c_NOUGHT (by rfl)) (aac (av 2) aan))) (aand (anot (acd d_is_below_ hg (hr.mono (by decide)) (by rfl) (aac (aglb c_ONE (by rfl)) (aac (av 2) aan)))) (ae1 (anot (acd d_is_below_ hg (hr.mono (by decide)) (by rfl) (aac (av 3) (aac (aglb c_ONE (by rfl)) aan))))))))))))
def ss_is_link_ : {s : Stmt // topS 14 = s} := by
  refine ⟨?l, ?h⟩
  case h =>
    conv => lhs; whnf
abbrev st_is_link_ : Stmt := ss_is_link_.1
theorem sc_is_link_ : FnScope ["thing", "start", "end", "least", "most"] ["thing"] (defScope st_is_link_) := ⟨rfl, rfl, rfl, by decide +kernel, rfl, by decide +kernel, by decide +kernel⟩
theorem ok_is_link_ {f : Addr} {fd : FuncData} (F : Fun K "is_link" "is_link" st_is_link_ f fd) (hb : Binds K fd ["thing"] []) (hm : mg "is_link" = some (.ref f)) (d_is_below_ : Def P w K mg base 1 "is_below" ["one", "other"] is_below_) (d_is_word_ : Def P w K mg base 1 "is_word" ["thing"] is_word_) (d_is_fraction_ : Def P w K mg base 2 "is_fraction" ["thing"] is_fraction_) (c_NOUGHT : Cst K mg "NOUGHT" (.tup [.int 0, .int 1])) (m_isinstance : mg "isinstance" = none) (m_tuple : mg "tuple" = none) (m_len : mg "len" = none) : Def P w K mg base 3 "is_link" ["thing"] is_link_ :=
  fn_a F sc_is_link_ hb hm (g := is_link_B) fun cdv A outer s H E hg hr => (asq (asi (atw (awo (atn (atv (aisi (by rfl) m_isinstance (by rfl) m_tuple (by decide +kernel) (av 0)))) (awo1 (atc (op_neA hr.units) oNe (acb call_lenA cLen (by rfl) m_len PySem.boot_len (aac (av 0) aan)) ai (nomark _))))) (as1 (asr abl)) asn)
    (asq (asa (av 0) (agt rfl (agl (agn (i := 1) sc_is_link_.nd rfl (.inl rfl)) (agl (agn (i := 2) sc_is_link_.nd rfl (.inl rfl)) (agl (agn (i := 3) sc_is_link_.nd rfl (.inl rfl)) (agl (agn (i := 4) sc_is_link_.nd rfl (.inl rfl)) agl0))))))
    (asq (asi (atw (awo (atn (atv (acd d_is_word_ hg (hr.mono (by decide)) (by rfl) (aac (av 1) aan)))) (awo (atn (atv (acd d_is_word_ hg (hr.mono (by decide)) (by rfl) (aac (av 2) aan)))) (awo1 (atc (op_eqA hr.units) oEq (av 1) (av 2) (nomark _)))))) (as1 (asr abl)) asn)
    (asq (asi (atw (awo (atn (atv (acd d_is_fraction_ hg (hr.mono (by decide)) (by rfl) (aac (av 3) aan)))) (awo1 (atv (acd d_is_below_ hg (hr.mono (by decide)) (by rfl) (aac (av 3) (aac (aglb c_NOUGHT (by rfl)) aan))))))) (as1 (asr abl)) asn)
    (as1 (asr (aor (acm op_isN oIs (av 4) an (nomark _)) (ae1 (aand (acd d_is_fraction_ hg (hr.mono (by decide)) (by rfl) (aac (av 4) aan)) (ae1 (anot (acd d_is_below_ hg (hr.mono (by decide)) (by rfl) (aac (av 4) (aac (av 3) aan))))))))))))))
def ss_are_houses_ : {s : Stmt // topS 16 = s} := by
  refine ⟨?l, ?h⟩
  case h =>
    conv => lhs; whnf
abbrev st_are_houses_ : Stmt := ss_are_houses_.1
abbrev sc_are_houses_N : List Str := ["thing", "house"]
abbrev sc_are_houses_S : Scope := defScope st_are_houses_
theorem sc_are_houses_ : FnScope ["thing", "house"] ["thing"] (defScope st_are_houses_) := ⟨rfl, rfl, rfl, by decide +kernel, rfl, by decide +kernel, by decide +kernel⟩
theorem ok_are_houses_ {f : Addr} {fd : FuncData} (F : Fun K "are_houses" "are_houses" st_are_houses_ f fd) (hb : Binds K fd ["thing"] []) (hm : mg "are_houses" = some (.ref f)) (d_rises_ : Def P w K mg base 1 "rises" ["things"] rises_) (d_is_house_ : Def P w K mg base 3 "is_house" ["thing"] is_house_) (m_isinstance : mg "isinstance" = none) (m_tuple : mg "tuple" = none) (m_all : mg "all" = none) : Def P w K mg base 4 "are_houses" ["thing"] are_houses_ :=
  fn_a F sc_are_houses_ hb hm (g := are_houses_B) fun cdv A outer s H E hg hr => (asq (asi (atw (awo (atn (atv (aisi (by rfl) m_isinstance (by rfl) m_tuple (by decide +kernel) (av 0)))) (awo1 (atn (atv (acb (cr_all rfl) cAll (by rfl) m_all (by decide +kernel) (aac (alc (own := [("house", 1)]) rfl sc_are_houses_.nd (ais (av 0)) (blkOk_by (own := [("house", 1)]) (N := sc_are_houses_N) (sc := sc_are_houses_S) (by decide +kernel)) (by simp [Pat.slots, Pat.slotss]) (fun _ _ _ _ _ => (agn (i := 1) sc_are_houses_.nd rfl (.inl rfl))) (fun _ _ _ _ _ => ats0) (fun _ _ _ _ _ => (acd d_is_house_ hg (hr.mono (by decide)) (by rfl) (aac (av 1) aan)))) aan))))))) (as1 (asr abl)) asn)
    (as1 (asr (acd d_rises_ hg (hr.mono (by decide)) (by rfl) (aac (alc (own := [("house", 1)]) rfl sc_are_houses_.nd (ais (av 0)) (blkOk_by (own := [("house", 1)]) (N := sc_are_houses_N) (sc := sc_are_houses_S) (by decide +kernel)) (by simp [Pat.slots, Pat.slotss]) (fun _ _ _ _ _ => (agn (i := 1) sc_are_houses_.nd rfl (.inl rfl))) (fun _ _ _ _ _ => ats0) (fun _ _ _ _ _ => (aixA (hu_of hr) (av 1) ai (fun _ _ => rfl) (fun _ _ => rfl)))) aan)))))
def ss_are_links_ : {s : Stmt // topS 17 = s} := by
  refine ⟨?l, ?h⟩
  case h =>
    conv => lhs; whnf
abbrev st_are_links_ : Stmt := ss_are_links_.1
abbrev sc_are_links_N : List Str := ["thing", "houses", "names", "house", "link"]
abbrev sc_are_links_S : Scope := defScope st_are_links_
theorem sc_are_links_ : FnScope ["thing", "houses", "names", "house", "link"] ["thing", "houses"] (defScope st_are_links_) := ⟨rfl, rfl, rfl, by decide +kernel, rfl, by decide +kernel, by decide +kernel⟩
theorem ok_are_links_ {f : Addr} {fd : FuncData} (F : Fun K "are_links" "are_links" st_are_links_ f fd) (hb : Binds K fd ["thing", "houses"] []) (hm : mg "are_links" = some (.ref f)) (d_is_link_ : Def P w K mg base 3 "is_link" ["thing"] is_link_) (m_all : mg "all" = none) (m_isinstance : mg "isinstance" = none) (m_tuple : mg "tuple" = none) : Def P w K mg base 4 "are_links" ["thing", "houses"] are_links_ :=
  fn_a F sc_are_links_ hb hm (g := are_links_B) fun cdv A outer s H E hg hr => (asq (asi (atw (awo (atn (atv (aisi (by rfl) m_isinstance (by rfl) m_tuple (by decide +kernel) (av 0)))) (awo1 (atn (atv (acb (cr_all rfl) cAll (by rfl) m_all (by decide +kernel) (aac (alc (own := [("link", 4)]) rfl sc_are_links_.nd (ais (av 0)) (blkOk_by (own := [("link", 4)]) (N := sc_are_links_N) (sc := sc_are_links_S) (by decide +kernel)) (by simp [Pat.slots, Pat.slotss]) (fun _ _ _ _ _ => (agn (i := 4) sc_are_links_.nd rfl (.inl rfl))) (fun _ _ _ _ _ => ats0) (fun _ _ _ _ _ => (acd d_is_link_ hg (hr.mono (by decide)) (by rfl) (aac (av 4) aan)))) aan))))))) (as1 (asr abl)) asn)
    (asq (ass (i := 2) sc_are_links_.nd rfl (.inr rfl) (alc (own := [("house", 3)]) rfl sc_are_links_.nd (ais (av 1)) (blkOk_by (own := [("house", 3)]) (N := sc_are_links_N) (sc := sc_are_links_S) (by decide +kernel)) (by simp [Pat.slots, Pat.slotss]) (fun _ _ _ _ _ => (agn (i := 3) sc_are_links_.nd rfl (.inl rfl))) (fun _ _ _ _ _ => ats0) (fun _ _ _ _ _ => (aixA (hu_of hr) (av 3) ai (fun _ _ => rfl) (fun _ _ => rfl)))))
    (as1 (asr (acb (cr_all rfl) cAll (by rfl) m_all (by decide +kernel) (aac (alc (own := [("link", 4)]) rfl sc_are_links_.nd (ais (av 0)) (blkOk_by (own := [("link", 4)]) (N := sc_are_links_N) (sc := sc_are_links_S) (by decide +kernel)) (by simp [Pat.slots, Pat.slotss]) (fun _ _ _ _ _ => (agn (i := 4) sc_are_links_.nd rfl (.inl rfl))) (fun _ _ _ _ _ => ats0) (fun _ _ _ _ _ => (aand (ain (hu_of hr) (aixA (hu_of hr) (av 4) ai (fun _ _ => rfl) (fun _ _ => rfl)) (av 2)) (ae1 (ain (hu_of hr) (aixA (hu_of hr) (av 4) ai (fun _ _ => rfl) (fun _ _ => rfl)) (av 2)))))) aan))))))
def ss_is_field_ : {s : Stmt // topS 15 = s} := by
  refine ⟨?l, ?h⟩
  case h =>
    conv => lhs; whnf
abbrev st_is_field_ : Stmt := ss_is_field_.1
theorem sc_is_field_ : FnScope ["thing", "houses", "links", "source"] ["thing"] (defScope st_is_field_) := ⟨rfl, rfl, rfl, by decide +kernel, rfl, by decide +kernel, by decide +kernel⟩
theorem ok_is_field_ {f : Addr} {fd : FuncData} (F : Fun K "is_field" "is_field" st_is_field_ f fd) (hb : Binds K fd ["thing"] []) (hm : mg "is_field" = some (.ref f)) (d_are_houses_ : Def P w K mg base 4 "are_houses" ["thing"] are_houses_) (d_are_links_ : Def P w K mg base 4 "are_links" ["thing", "houses"] are_links_) (c_ONE : Cst K mg "ONE" (.tup [.int 1, .int 1])) (m_isinstance : mg "isinstance" = none) (m_tuple : mg "tuple" = none) (m_len : mg "len" = none) : Def P w K mg base 5 "is_field" ["thing"] is_field_ :=
  fn_a F sc_is_field_ hb hm (g := is_field_B) fun cdv A outer s H E hg hr => (asq (asi (atw (awo (atn (atv (aisi (by rfl) m_isinstance (by rfl) m_tuple (by decide +kernel) (av 0)))) (awo1 (atc (op_neA hr.units) oNe (acb call_lenA cLen (by rfl) m_len PySem.boot_len (aac (av 0) aan)) ai (nomark _))))) (as1 (asr abl)) asn)
    (asq (asa (av 0) (agt rfl (agl (agn (i := 1) sc_is_field_.nd rfl (.inl rfl)) (agl (agn (i := 2) sc_is_field_.nd rfl (.inl rfl)) (agl (agn (i := 3) sc_is_field_.nd rfl (.inl rfl)) agl0)))))
    (asq (asi (atw (awo (atn (atv (acd d_are_houses_ hg (hr.mono (by decide)) (by rfl) (aac (av 1) aan)))) (awo1 (atn (atv (acd d_are_links_ hg (hr.mono (by decide)) (by rfl) (aac (av 2) (aac (av 1) aan)))))))) (as1 (asr abl)) asn)
    (as1 (asr (acm (op_inTD (hu65 hr)) oInTD (atup (aac (av 3) (aac (aglb c_ONE (by rfl)) (aac (aglb c_ONE (by rfl)) aan)))) (av 1) (by rfl)))))))
def ss_feedL_ : {s : Stmt // topS 19 = s} := by
  refine ⟨?l, ?h⟩
  case h =>
    conv => lhs; whnf
abbrev st_feedL_ : Stmt := ss_feedL_.1
theorem sc_feedL_ : FnScope ["_law_script"] ["_law_script"] (defScope st_feedL_) := ⟨rfl, rfl, rfl, by decide +kernel, rfl, by decide +kernel, by decide +kernel⟩
theorem ok_feedL_ {f : Addr} {fd : FuncData} (F : Fun K "_law_feed" "_law_feed" st_feedL_ f fd) (hb : Binds K fd ["_law_script"] []) (hm : mg "_law_feed" = some (.ref f)) : Def P w K mg base 1 "_law_feed" ["_law_script"] feedL_ :=
  fn_a F sc_feedL_ hb hm (g := feedL_B) fun cdv A outer s H E hg hr => (as1 (asr (alst (aac (asl sl_A oSl (av 0) aon (aos ai)) (aac ai (aac ai (aac ai aan)))))))
def ss_drawL_ : {s : Stmt // topS 20 = s} := by
  refine ⟨?l, ?h⟩
  case h =>
    conv => lhs; whnf
abbrev st_drawL_ : Stmt := ss_drawL_.1
theorem sc_drawL_ : FnScope ["_law_feed_here", "_law_many", "_law_cell", "_law_mixed", "_law_found"] ["_law_feed_here", "_law_many"] (defScope st_drawL_) := ⟨rfl, rfl, rfl, by decide +kernel, rfl, by decide +kernel, by decide +kernel⟩
theorem ok_drawL_ {f : Addr} {fd : FuncData} (F : Fun K "_law_draw" "_law_draw" st_drawL_ f fd) (hb : Binds K fd ["_law_feed_here", "_law_many"] []) (hm : mg "_law_draw" = some (.ref f)) (m_len : mg "len" = none) : Def P w K mg base 1 "_law_draw" ["_law_feed_here", "_law_many"] drawL_ :=
  fn_a F sc_drawL_ hb hm (g := drawL_B) fun cdv A outer s H E hg hr => (asq (asuA (hu_of hr) (aop op_addA oAdd (aixA (hu_of hr) (av 0) ai (fun _ _ => rfl) (fun _ _ => rfl)) ai) (av 0) ai)
    (asq (asi (atc op_gt oGt (aixA (hu_of hr) (av 0) ai (fun _ _ => rfl) (fun _ _ => rfl)) ai (nomark _)) (asq (ass (i := 4) sc_drawL_.nd rfl (.inl rfl) (aop op_modN oMod (aixA (hu_of hr) (av 0) ai (fun _ _ => rfl) (fun _ _ => rfl)) (av 1)))
    (asq (asuA (hu_of hr) (aop op_fdivW oDiv (aixA (hu_of hr) (av 0) ai (fun _ _ => rfl) (fun _ _ => rfl)) (av 1)) (av 0) ai)
    (as1 (asr (av 4))))) asn)
    (asq (ass (i := 2) sc_drawL_.nd rfl (.inl rfl) ai)
    (asq (asi (atc (op_neA hr.units) oNe (aixA (hu_of hr) (av 0) ai (fun _ _ => rfl) (fun _ _ => rfl)) (alst aan) (nomark _)) (as1 (ass (i := 2) sc_drawL_.nd rfl (.inl rfl) (aixA (hu_of hr) (aixA (hu_of hr) (av 0) ai (fun _ _ => rfl) (fun _ _ => rfl)) (aop op_modN oMod (aixA (hu_of hr) (av 0) ai (fun _ _ => rfl) (fun _ _ => rfl)) (acb call_lenA cLen (by rfl) m_len PySem.boot_len (aac (aixA (hu_of hr) (av 0) ai (fun _ _ => rfl) (fun _ _ => rfl)) aan))) (fun _ _ => rfl) (fun _ _ => rfl)))) asn)
    (asq (asuA (hu_of hr) (aop op_addA oAdd (aixA (hu_of hr) (av 0) ai (fun _ _ => rfl) (fun _ _ => rfl)) ai) (av 0) ai)
    (asq (asi (atw (aw (atc op_ge oGe (av 2) (aop op_pow oPow ai ai) (nomark _)) (aw1 (atc op_le oLe (aixA (hu_of hr) (av 0) ai (fun _ _ => rfl) (fun _ _ => rfl)) (acb call_lenA cLen (by rfl) m_len PySem.boot_len (aac (aixA (hu_of hr) (av 0) ai (fun _ _ => rfl) (fun _ _ => rfl)) aan)) (nomark _))))) (asq (asuA (hu_of hr) (aop op_fdivW oDiv (av 2) (av 1)) (av 0) ai)
    (as1 (asr (aop op_modN oMod (av 2) (av 1))))) asn)
    (asq (ass (i := 3) sc_drawL_.nd rfl (.inl rfl) (aop op_modN oMod (aop op_pow oPow (aop op_addA oAdd (aop op_addA oAdd (aop op_modN oMod (av 2) ai) (aop op_mulW oMul ai (aixA (hu_of hr) (av 0) ai (fun _ _ => rfl) (fun _ _ => rfl)))) ai) ai) ai))
    (as1 (asr (aop op_modN oMod (aop op_fdivW oDiv (aop op_modN oMod (aop op_pow oPow (aop op_addA oAdd (av 3) (aop op_mulW oMul ai (aixA (hu_of hr) (av 0) ai (fun _ _ => rfl) (fun _ _ => rfl)))) ai) ai) ai) (av 1)))))))))))
def ss_spoiltL_ : {s : Stmt // topS 21 = s} := by
  refine ⟨?l, ?h⟩
  case h =>
    conv => lhs; whnf
abbrev st_spoiltL_ : Stmt := ss_spoiltL_.1
theorem sc_spoiltL_ : FnScope ["_law_feed_here", "_law_thing", "_law_menu", "_law_way", "_law_at", "_law_other", "_law_some"] ["_law_feed_here", "_law_thing", "_law_menu"] (defScope st_spoiltL_) := ⟨rfl, rfl, rfl, by decide +kernel, rfl, by decide +kernel, by decide +kernel⟩
theorem ok_spoiltL_s {rc : FA} {kk : Nat} {f : Addr} {fd : FuncData} (F : Fun K "_law_spoilt" "_law_spoilt" st_spoiltL_ f fd) (hb : Binds K fd ["_law_feed_here", "_law_thing", "_law_menu"] []) (hm : mg "_law_spoilt" = some (.ref f)) (d_drawL_ : Def P w K mg base 1 "_law_draw" ["_law_feed_here", "_law_many"] drawL_) (m_len : mg "len" = none) (m_tuple : mg "tuple" = none) (m_list : mg "list" = none) (m_isinstance : mg "isinstance" = none) (d_rc : Def P w K mg base (2 + kk) "_law_spoilt" ["_law_feed_here", "_law_thing", "_law_menu"] rc) : Def P w K mg base (2 + kk + 1) "_law_spoilt" ["_law_feed_here", "_law_thing", "_law_menu"] (runF 7 (spoiltL_B rc)) :=
  fn_a F sc_spoiltL_ hb hm (g := spoiltL_B rc) fun cdv A outer s H E hg hr => (asq (ass (i := 3) sc_spoiltL_.nd rfl (.inl rfl) (acd d_drawL_ hg (hr.mono (by omega)) (by rfl) (aac (av 0) (aac ai aan))))
    (asq (asi (atw (awo (atn (atv (aisi (by rfl) m_isinstance (by rfl) m_tuple (by decide +kernel) (av 1)))) (awo (atc (op_eqA hr.units) oEq (av 1) (atup aan) (nomark _)) (awo1 (atc (op_eqA hr.units) oEq (av 3) ai (nomark _)))))) (as1 (asr (aixA (hu_of hr) (av 2) (acd d_drawL_ hg (hr.mono (by omega)) (by rfl) (aac (av 0) (aac (acb call_lenA cLen (by rfl) m_len PySem.boot_len (aac (av 2) aan)) aan))) (fun _ _ => rfl) (fun _ _ => rfl)))) asn)
    (asq (ass (i := 4) sc_spoiltL_.nd rfl (.inl rfl) (acd d_drawL_ hg (hr.mono (by omega)) (by rfl) (aac (av 0) (aac (acb call_lenA cLen (by rfl) m_len PySem.boot_len (aac (av 1) aan)) aan))))
    (asq (asi (atc (op_eqA hr.units) oEq (av 3) ai (nomark _)) (as1 (asr (aop op_addT oAddT (asl sl_B oSlA (av 1) aon (aos (av 4))) (asl sl_B oSlA (av 1) (aos (aop op_addA oAdd (av 4) ai)) aon)))) asn)
    (asq (asi (atc (op_eqA hr.units) oEq (av 3) ai (nomark _)) (as1 (asr (aop op_addT oAddT (aop op_addT oAddT (asl sl_B oSlA (av 1) aon (aos (av 4))) (asl sl_B oSlA (av 1) (aos (av 4)) (aos (aop op_addA oAdd (av 4) ai)))) (asl sl_B oSlA (av 1) (aos (av 4)) aon)))) asn)
    (asq (asi (atc (op_eqA hr.units) oEq (av 3) ai (nomark _)) (as1 (asr (aop op_addT oAddT (aop op_addT oAddT (asl sl_B oSlA (av 1) aon (aos (av 4))) (atup (aac (aixA (hu_of hr) (av 2) (acd d_drawL_ hg (hr.mono (by omega)) (by rfl) (aac (av 0) (aac (acb call_lenA cLen (by rfl) m_len PySem.boot_len (aac (av 2) aan)) aan))) (fun _ _ => rfl) (fun _ _ => rfl)) aan))) (asl sl_B oSlA (av 1) (aos (av 4)) aon)))) asn)
    (asq (asi (atc (op_eqA hr.units) oEq (av 3) ai (nomark _)) (asq (asp2' (ps_par (i := 5) (j := 6) (by rfl) sc_spoiltL_.nd rfl rfl (by decide) rfl rfl (aac (acd d_drawL_ hg (hr.mono (by omega)) (by rfl) (aac (av 0) (aac (acb call_lenA cLen (by rfl) m_len PySem.boot_len (aac (av 1) aan)) aan))) (aac (act call_list_of cList (by rfl) m_list (by decide +kernel) (aac (av 1) aan)) aan)) (by rfl)))
    (asq (asu2 (by rfl) (atup (aac (aixA (hu_of hr) (av 1) (av 5) (fun _ _ => rfl) (fun _ _ => rfl)) (aac (aixA (hu_of hr) (av 1) (av 4) (fun _ _ => rfl) (fun _ _ => rfl)) aan))) (av 6) (av 4) (av 6) (av 5))
    (as1 (asr (act call_tuple_of cTuple (by rfl) m_tuple (by decide +kernel) (aac (av 6) aan)))))) asn)
    (asq (asi (atc (op_eqA hr.units) oEq (av 3) ai (nomark _)) (as1 (asr (act call_list_of cList (by rfl) m_list (by decide +kernel) (aac (av 1) aan)))) asn)
    (as1 (asr (aop op_addT oAddT (aop op_addT oAddT (asl sl_B oSlA (av 1) aon (aos (av 4))) (atup (aac (acd d_rc hg (hr.mono (by omega)) (by rfl) (aac (av 0) (aac (aixA (hu_of hr) (av 1) (av 4) (fun _ _ => rfl) (fun _ _ => rfl)) (aac (av 2) aan)))) aan))) (asl sl_B oSlA (av 1) (aos (aop op_addA oAdd (av 4) ai)) aon))))))))))))
theorem ok_spoiltL_ {f : Addr} {fd : FuncData} (F : Fun K "_law_spoilt" "_law_spoilt" st_spoiltL_ f fd) (hb : Binds K fd ["_law_feed_here", "_law_thing", "_law_menu"] []) (hm : mg "_law_spoilt" = some (.ref f)) (d_drawL_ : Def P w K mg base 1 "_law_draw" ["_law_feed_here", "_law_many"] drawL_) (m_len : mg "len" = none) (m_tuple : mg "tuple" = none) (m_list : mg "list" = none) (m_isinstance : mg "isinstance" = none) : Def P w K mg base 10 "_law_spoilt" ["_law_feed_here", "_law_thing", "_law_menu"] spoiltL_ := by
  have z : ∀ k, Def P w K mg base (2 + k) "_law_spoilt" ["_law_feed_here", "_law_thing", "_law_menu"] (spoiltL_n k) := fun k => by
    induction k with
    | zero => exact def_none F hb hm
    | succ k ih => exact ok_spoiltL_s F hb hm d_drawL_ m_len m_tuple m_list m_isinstance ih
  exact z 8
def ss_divisorL_ : {s : Stmt // topS 22 = s} := by
  refine ⟨?l, ?h⟩
  case h =>
    conv => lhs; whnf
abbrev st_divisorL_ : Stmt := ss_divisorL_.1
theorem sc_divisorL_ : FnScope ["_law_one", "_law_other"] ["_law_one", "_law_other"] (defScope st_divisorL_) := ⟨rfl, rfl, rfl, by decide +kernel, rfl, by decide +kernel, by decide +kernel⟩
theorem ok_divisorL_ {f : Addr} {fd : FuncData} (F : Fun K "_law_divisor" "_law_divisor" st_divisorL_ f fd) (hb : Binds K fd ["_law_one", "_law_other"] []) (hm : mg "_law_divisor" = some (.ref f)) : Def P w K mg base 1 "_law_divisor" ["_law_one", "_law_other"] divisorL_ :=
  fn_a F sc_divisorL_ hb hm (g := divisorL_B) fun cdv A outer s H E hg hr => (asq (asw PassesOwn.never (atc op_gt oGt (av 1) ai (nomark _)) (as1 (asp2' (ps_par (i := 0) (j := 1) (by rfl) sc_divisorL_.nd rfl rfl (by decide) rfl rfl (aac (av 1) (aac (aop op_modN oMod (av 0) (av 1)) aan)) (by rfl)))))
    (as1 (asr (av 0))))
def ss_madeL_ : {s : Stmt // topS 23 = s} := by
  refine ⟨?l, ?h⟩
  case h =>
    conv => lhs; whnf
abbrev st_madeL_ : Stmt := ss_madeL_.1
theorem sc_madeL_ : FnScope ["_law_a", "_law_b", "_law_divisor_here"] ["_law_a", "_law_b"] (defScope st_madeL_) := ⟨rfl, rfl, rfl, by decide +kernel, rfl, by decide +kernel, by decide +kernel⟩
theorem ok_madeL_ {f : Addr} {fd : FuncData} (F : Fun K "_law_made" "_law_made" st_madeL_ f fd) (hb : Binds K fd ["_law_a", "_law_b"] []) (hm : mg "_law_made" = some (.ref f)) (d_divisorL_ : Def P w K mg base 1 "_law_divisor" ["_law_one", "_law_other"] divisorL_) (m_abs : mg "abs" = none) : Def P w K mg base 2 "_law_made" ["_law_a", "_law_b"] madeL_ :=
  fn_a F sc_madeL_ hb hm (g := madeL_B) fun cdv A outer s H E hg hr => (asq (ass (i := 2) sc_madeL_.nd rfl (.inl rfl) (acd d_divisorL_ hg (hr.mono (by decide)) (by rfl) (aac (acb call_abs cAbs (by rfl) m_abs boot_abs (aac (av 0) aan)) (aac (av 1) aan))))
    (as1 (asr (atup (aac (aop op_fdivW oDiv (av 0) (av 2)) (aac (aop op_fdivW oDiv (av 1) (av 2)) aan))))))
def ss_fieldL_ : {s : Stmt // topS 24 = s} := by
  refine ⟨?l, ?h⟩
  case h =>
    conv => lhs; whnf
abbrev st_fieldL_ : Stmt := ss_fieldL_.1
theorem sc_fieldL_ : FnScope ["_law_feed_here", "_law_pool", "_law_gaits", "_law_source", "_law_name", "_law_k", "_law_size", "_law_found", "_law_links", "_law_one", "_law_other", "_law_least", "_law_most"] ["_law_feed_here"] (defScope st_fieldL_) := ⟨rfl, rfl, rfl, by decide +kernel, rfl, by decide +kernel, by decide +kernel⟩
theorem ok_fieldL_ {f : Addr} {fd : FuncData} (F : Fun K "_law_field" "_law_field" st_fieldL_ f fd) (hb : Binds K fd ["_law_feed_here"] []) (hm : mg "_law_field" = some (.ref f)) (d_drawL_ : Def P w K mg base 1 "_law_draw" ["_law_feed_here", "_law_many"] drawL_) (d_madeL_ : Def P w K mg base 2 "_law_made" ["_law_a", "_law_b"] madeL_) (m_range : mg "range" = none) (m_len : mg "len" = none) (m_tuple : mg "tuple" = none) (m_int : mg "int" = none) : Def P w K mg base 3 "_law_field" ["_law_feed_here"] fieldL_ :=
  fn_a F sc_fieldL_ hb hm (g := fieldL_B) fun cdv A outer s H E hg hr => (asq (ass (i := 1) sc_fieldL_.nd rfl (.inl rfl) (alst (aac astr (aac astr (aac astr (aac astr (aac astr (aac astr (aac astr (aac astr aan))))))))))
    (asq (asp3 (ps_par3 (i := 6) (j := 7) (l := 8) (by rfl) sc_fieldL_.nd rfl rfl rfl (by decide) (by decide) (by decide) rfl rfl rfl (aac (aixA (hu_of hr) (alst (aac ai (aac ai (aac ai (aac ai (aac ai (aac ai aan))))))) (acd d_drawL_ hg (hr.mono (by decide)) (by rfl) (aac (av 0) (aac ai aan))) (fun _ _ => rfl) (fun _ _ => rfl)) (aac (alst aan) (aac (alst aan) aan))) (by rfl)))
    (asq (ass (i := 2) sc_fieldL_.nd rfl (.inl rfl) (alst (aac (atup (aac (atup (aac ai (aac ai aan))) (aac (atup (aac ai (aac ai aan))) aan))) (aac (atup (aac (atup (aac ai (aac ai aan))) (aac (atup (aac ai (aac ai aan))) aan))) (aac (atup (aac (atup (aac ai (aac ai aan))) (aac (atup (aac ai (aac ai aan))) aan))) (aac (atup (aac (atup (aac ai (aac ai aan))) (aac (atup (aac ai (aac ai aan))) aan))) (aac (atup (aac (atup (aac ai (aac ai aan))) (aac (atup (aac ai (aac ai aan))) aan))) aan)))))))
    (asq (asw PassesOwn.never (atc op_gt oGt (acb call_lenA cLen (by rfl) m_len PySem.boot_len (aac (av 1) aan)) (av 6) (nomark _)) (as1 (asx (am PySem.F.plainAttrs_list PySem.F.slot_list_pop PySem.F.type_list_pop mt_popAt mPop tyL (av 1) (aac (acd d_drawL_ hg (hr.mono (by decide)) (by rfl) (aac (av 0) (aac (acb call_lenA cLen (by rfl) m_len PySem.boot_len (aac (av 1) aan)) aan))) aan)))))
    (asq (ass (i := 3) sc_fieldL_.nd rfl (.inl rfl) (aixA (hu_of hr) (av 1) (acd d_drawL_ hg (hr.mono (by decide)) (by rfl) (aac (av 0) (aac (av 6) aan))) (fun _ _ => rfl) (fun _ _ => rfl)))
    (asq (asf PassesOwn.never rfl (ais (av 1)) (agn (i := 4) sc_fieldL_.nd rfl (.inl rfl)) (as1 (asx (am PySem.F.plainAttrs_list PySem.F.slot_list_append PySem.F.type_list_append mt_append mApp tyL (av 7) (aac (aop op_addA oAdd (atup (aac (av 4) aan)) (aixA (hu_of hr) (av 2) (aif (atc (op_neA hr.units) oNe (av 4) (av 3) (nomark _)) (acd d_drawL_ hg (hr.mono (by decide)) (by rfl) (aac (av 0) (aac ai aan))) ai) (fun _ _ => rfl) (fun _ _ => rfl))) aan)))))
    (asq (asf PassesOwn.never rfl (air1 (by rfl) m_range (aac (aop op_mulW oMul (acd d_drawL_ hg (hr.mono (by decide)) (by rfl) (aac (av 0) (aac ai aan))) (act call_int1 cInt (by rfl) m_int (by decide +kernel) (aac (acm op_gt oGt (av 6) ai (nomark _)) aan))) aan)) (agn (i := 5) sc_fieldL_.nd rfl (.inl rfl)) (asq (ass (i := 9) sc_fieldL_.nd rfl (.inl rfl) (acd d_drawL_ hg (hr.mono (by decide)) (by rfl) (aac (av 0) (aac (av 6) aan))))
    (asq (ass (i := 10) sc_fieldL_.nd rfl (.inl rfl) (aop op_modN oMod (aop op_addA oAdd (aop op_addA oAdd (av 9) ai) (acd d_drawL_ hg (hr.mono (by decide)) (by rfl) (aac (av 0) (aac (aop op_sub oSub (av 6) ai) aan)))) (av 6)))
    (asq (ass (i := 11) sc_fieldL_.nd rfl (.inl rfl) (aixA (hu_of hr) (alst (aac (atup (aac ai (aac ai aan))) (aac (atup (aac ai (aac ai aan))) (aac (atup (aac ai (aac ai aan))) (aac (atup (aac ai (aac ai aan))) aan))))) (acd d_drawL_ hg (hr.mono (by decide)) (by rfl) (aac (av 0) (aac ai aan))) (fun _ _ => rfl) (fun _ _ => rfl)))
    (asq (ass (i := 12) sc_fieldL_.nd rfl (.inl rfl) (alst (aac an (aac (av 11) (aac (acd d_madeL_ hg (hr.mono (by decide)) (by rfl) (aac (aop op_addA oAdd (aixA (hu_of hr) (av 11) ai (fun _ _ => rfl) (fun _ _ => rfl)) (aixA (hu_of hr) (av 11) ai (fun _ _ => rfl) (fun _ _ => rfl))) (aac (aixA (hu_of hr) (av 11) ai (fun _ _ => rfl) (fun _ _ => rfl)) aan))) (aac (acd d_madeL_ hg (hr.mono (by decide)) (by rfl) (aac (aop op_addA oAdd (aixA (hu_of hr) (av 11) ai (fun _ _ => rfl) (fun _ _ => rfl)) (aop op_mulW oMul ai (aixA (hu_of hr) (av 11) ai (fun _ _ => rfl) (fun _ _ => rfl)))) (aac (aixA (hu_of hr) (av 11) ai (fun _ _ => rfl) (fun _ _ => rfl)) aan))) aan))))))
    (as1 (asx (am PySem.F.plainAttrs_list PySem.F.slot_list_append PySem.F.type_list_append mt_append mApp tyL (av 8) (aac (atup (aac (aixA (hu_of hr) (av 1) (av 9) (fun _ _ => rfl) (fun _ _ => rfl)) (aac (aixA (hu_of hr) (av 1) (av 10) (fun _ _ => rfl) (fun _ _ => rfl)) (aac (av 11) (aac (aixA (hu_of hr) (av 12) (acd d_drawL_ hg (hr.mono (by decide)) (by rfl) (aac (av 0) (aac ai aan))) (fun _ _ => rfl) (fun _ _ => rfl)) aan))))) aan)))))))))
    (as1 (asr (atup (aac (act call_tuple_of cTuple (by rfl) m_tuple (by decide +kernel) (aac (av 7) aan)) (aac (act call_tuple_of cTuple (by rfl) m_tuple (by decide +kernel) (aac (av 8) aan)) (aac (av 3) aan)))))))))))))
def ss_is_numberL_ : {s : Stmt // topS 25 = s} := by
  refine ⟨?l, ?h⟩
  case h =>
    conv => lhs; whnf
abbrev st_is_numberL_ : Stmt := ss_is_numberL_.1
theorem sc_is_numberL_ : FnScope ["_law_thing"] ["_law_thing"] (defScope st_is_numberL_) := ⟨rfl, rfl, rfl, by decide +kernel, rfl, by decide +kernel, by decide +kernel⟩
theorem ok_is_numberL_ {f : Addr} {fd : FuncData} (F : Fun K "_law_is_number" "_law_is_number" st_is_numberL_ f fd) (hb : Binds K fd ["_law_thing"] []) (hm : mg "_law_is_number" = some (.ref f)) (m_isinstance : mg "isinstance" = none) (m_int : mg "int" = none) (m_bool : mg "bool" = none) : Def P w K mg base 1 "_law_is_number" ["_law_thing"] is_numberL_ :=
  fn_a F sc_is_numberL_ hb hm (g := is_numberL_B) fun cdv A outer s H E hg hr => (as1 (asr (aand (aisi (by rfl) m_isinstance (by rfl) m_int (by decide +kernel) (av 0)) (ae1 (anot (aisi (by rfl) m_isinstance (by rfl) m_bool (by decide +kernel) (av 0)))))))
def ss_is_fractionL_ : {s : Stmt // topS 26 = s} := by
  refine ⟨?l, ?h⟩
  case h =>
    conv => lhs; whnf
abbrev st_is_fractionL_ : Stmt := ss_is_fractionL_.1
abbrev sc_is_fractionL_N : List Str := ["_law_thing", "_law_one"]
abbrev sc_is_fractionL_S : Scope := defScope st_is_fractionL_
theorem sc_is_fractionL_ : FnScope ["_law_thing", "_law_one"] ["_law_thing"] (defScope st_is_fractionL_) := ⟨rfl, rfl, rfl, by decide +kernel, rfl, by decide +kernel, by decide +kernel⟩
theorem ok_is_fractionL_ {f : Addr} {fd : FuncData} (F : Fun K "_law_is_fraction" "_law_is_fraction" st_is_fractionL_ f fd) (hb : Binds K fd ["_law_thing"] []) (hm : mg "_law_is_fraction" = some (.ref f)) (d_divisorL_ : Def P w K mg base 1 "_law_divisor" ["_law_one", "_law_other"] divisorL_) (d_is_numberL_ : Def P w K mg base 1 "_law_is_number" ["_law_thing"] is_numberL_) (m_isinstance : mg "isinstance" = none) (m_tuple : mg "tuple" = none) (m_len : mg "len" = none) (m_abs : mg "abs" = none) : Def P w K mg base 2 "_law_is_fraction" ["_law_thing"] is_fractionL_ :=
  fn_a F sc_is_fractionL_ hb hm (g := is_fractionL_B) fun cdv A outer s H E hg hr => (asq (asi (atw (awo (atn (atv (aisi (by rfl) m_isinstance (by rfl) m_tuple (by decide +kernel) (av 0)))) (awo (atc (op_neA hr.units) oNe (acb call_lenA cLen (by rfl) m_len PySem.boot_len (aac (av 0) aan)) ai (nomark _)) (awo1 (atc (op_neA hr.units) oNe (alc (own := [("_law_one", 1)]) rfl sc_is_fractionL_.nd (ais (av 0)) (blkOk_by (own := [("_law_one", 1)]) (N := sc_is_fractionL_N) (sc := sc_is_fractionL_S) (by decide +kernel)) (by simp [Pat.slots, Pat.slotss]) (fun _ _ _ _ _ => (agn (i := 1) sc_is_fractionL_.nd rfl (.inl rfl))) (fun _ _ _ _ _ => (pts_one (atn (atv (acd d_is_numberL_ hg (hr.mono (by decide)) (by rfl) (aac (av 1) aan)))))) (fun _ _ _ _ _ => (av 1))) (alst aan) (nomark _)))))) (as1 (asr abl)) asn)
    (as1 (asr (aand (acm op_gt oGt (aixA (hu_of hr) (av 0) ai (fun _ _ => rfl) (fun _ _ => rfl)) ai (nomark _)) (ae1 (acm (op_eqA hr.units) oEq (acd d_divisorL_ hg (hr.mono (by decide)) (by rfl) (aac (acb call_abs cAbs (by rfl) m_abs boot_abs (aac (aixA (hu_of hr) (av 0) ai (fun _ _ => rfl) (fun _ _ => rfl)) aan)) (aac (aixA (hu_of hr) (av 0) ai (fun _ _ => rfl) (fun _ _ => rfl)) aan))) ai (nomark _)))))))
def ss_is_wordL_ : {s : Stmt // topS 27 = s} := by
  refine ⟨?l, ?h⟩
  case h =>
    conv => lhs; whnf
abbrev st_is_wordL_ : Stmt := ss_is_wordL_.1
abbrev sc_is_wordL_N : List Str := ["_law_thing", "_law_s"]
abbrev sc_is_wordL_S : Scope := defScope st_is_wordL_
theorem sc_is_wordL_ : FnScope ["_law_thing", "_law_s"] ["_law_thing"] (defScope st_is_wordL_) := ⟨rfl, rfl, rfl, by decide +kernel, rfl, by decide +kernel, by decide +kernel⟩
theorem ok_is_wordL_ {f : Addr} {fd : FuncData} (F : Fun K "_law_is_word" "_law_is_word" st_is_wordL_ f fd) (hb : Binds K fd ["_law_thing"] []) (hm : mg "_law_is_word" = some (.ref f)) (m_isinstance : mg "isinstance" = none) (m_str : mg "str" = none) (m_len : mg "len" = none) : Def P w K mg base 1 "_law_is_word" ["_law_thing"] is_wordL_ :=
  fn_a F sc_is_wordL_ hb hm (g := is_wordL_B) fun cdv A outer s H E hg hr => (as1 (asr (aand (aisi (by rfl) m_isinstance (by rfl) m_str (by decide +kernel) (av 0)) (aand (ach op_lt oLt op_lt oLt ai (acb call_lenA cLen (by rfl) m_len PySem.boot_len (aac (av 0) aan)) ai) (ae1 (acm (op_eqA hr.units) oEq (alc (own := [("_law_s", 1)]) rfl sc_is_wordL_.nd (aichr (av 0)) (blkOk_by (own := [("_law_s", 1)]) (N := sc_is_wordL_N) (sc := sc_is_wordL_S) (by decide +kernel)) (by simp [Pat.slots, Pat.slotss]) (fun _ _ _ _ _ => (agn (i := 1) sc_is_wordL_.nd rfl (.inl rfl))) (fun _ _ _ _ _ => (pts_one (atn (atch op_le_str oLeT op_le_str oLeT astr (av 1) astr)))) (fun _ _ _ _ _ => (av 1))) (alst aan) (nomark _)))))))
def ss_is_houseL_ : {s : Stmt // topS 28 = s} := by
  refine ⟨?l, ?h⟩
  case h =>
    conv => lhs; whnf
abbrev st_is_houseL_ : Stmt := ss_is_houseL_.1
theorem sc_is_houseL_ : FnScope ["_law_thing"] ["_law_thing"] (defScope st_is_houseL_) := ⟨rfl, rfl, rfl, by decide +kernel, rfl, by decide +kernel, by decide +kernel⟩
theorem ok_is_houseL_ {f : Addr} {fd : FuncData} (F : Fun K "_law_is_house" "_law_is_house" st_is_houseL_ f fd) (hb : Binds K fd ["_law_thing"] []) (hm : mg "_law_is_house" = some (.ref f)) (d_is_wordL_ : Def P w K mg base 1 "_law_is_word" ["_law_thing"] is_wordL_) (d_is_fractionL_ : Def P w K mg base 2 "_law_is_fraction" ["_law_thing"] is_fractionL_) (m_isinstance : mg "isinstance" = none) (m_tuple : mg "tuple" = none) (m_len : mg "len" = none) : Def P w K mg base 3 "_law_is_house" ["_law_thing"] is_houseL_ :=
  fn_a F sc_is_houseL_ hb hm (g := is_houseL_B) fun cdv A outer s H E hg hr => (asq (asi (atw (awo (atn (atv (aisi (by rfl) m_isinstance (by rfl) m_tuple (by decide +kernel) (av 0)))) (awo (atc (op_neA hr.units) oNe (acb call_lenA cLen (by rfl) m_len PySem.boot_len (aac (av 0) aan)) ai (nomark _)) (awo1 (atn (atv (acd d_is_wordL_ hg (hr.mono (by decide)) (by rfl) (aac (aixA (hu_of hr) (av 0) ai (fun _ _ => rfl) (fun _ _ => rfl)) aan)))))))) (as1 (asr abl)) asn)
    (asq (asi (atw (awo (atn (atv (acd d_is_fractionL_ hg (hr.mono (by decide)) (by rfl) (aac (aixA (hu_of hr) (av 0) ai (fun _ _ => rfl) (fun _ _ => rfl)) aan)))) (awo1 (atn (atv (acd d_is_fractionL_ hg (hr.mono (by decide)) (by rfl) (aac (aixA (hu_of hr) (av 0) ai (fun _ _ => rfl) (fun _ _ => rfl)) aan))))))) (as1 (asr abl)) asn)
    (as1 (asr (aand (ach op_lt oLt op_le oLe ai (aixA (hu_of hr) (aixA (hu_of hr) (av 0) ai (fun _ _ => rfl) (fun _ _ => rfl)) ai (fun _ _ => rfl) (fun _ _ => rfl)) (aixA (hu_of hr) (aixA (hu_of hr) (av 0) ai (fun _ _ => rfl) (fun _ _ => rfl)) ai (fun _ _ => rfl) (fun _ _ => rfl))) (ae1 (acm op_ge oGe (aixA (hu_of hr) (aixA (hu_of hr) (av 0) ai (fun _ _ => rfl) (fun _ _ => rfl)) ai (fun _ _ => rfl) (fun _ _ => rfl)) (aixA (hu_of hr) (aixA (hu_of hr) (av 0) ai (fun _ _ => rfl) (fun _ _ => rfl)) ai (fun _ _ => rfl) (fun _ _ => rfl)) (nomark _))))))))
def ss_is_linkL_ : {s : Stmt // topS 29 = s} := by
  refine ⟨?l, ?h⟩
  case h =>
    conv => lhs; whnf
abbrev st_is_linkL_ : Stmt := ss_is_linkL_.1
theorem sc_is_linkL_ : FnScope ["_law_thing"] ["_law_thing"] (defScope st_is_linkL_) := ⟨rfl, rfl, rfl, by decide +kernel, rfl, by decide +kernel, by decide +kernel⟩
theorem ok_is_linkL_ {f : Addr} {fd : FuncData} (F : Fun K "_law_is_link" "_law_is_link" st_is_linkL_ f fd) (hb : Binds K fd ["_law_thing"] []) (hm : mg "_law_is_link" = some (.ref f)) (d_is_fractionL_ : Def P w K mg base 2 "_law_is_fraction" ["_law_thing"] is_fractionL_) (d_is_wordL_ : Def P w K mg base 1 "_law_is_word" ["_law_thing"] is_wordL_) (m_isinstance : mg "isinstance" = none) (m_tuple : mg "tuple" = none) (m_len : mg "len" = none) : Def P w K mg base 3 "_law_is_link" ["_law_thing"] is_linkL_ :=
  fn_a F sc_is_linkL_ hb hm (g := is_linkL_B) fun cdv A outer s H E hg hr => (asq (asi (atw (awo (atn (atv (aisi (by rfl) m_isinstance (by rfl) m_tuple (by decide +kernel) (av 0)))) (awo (atc (op_neA hr.units) oNe (acb call_lenA cLen (by rfl) m_len PySem.boot_len (aac (av 0) aan)) ai (nomark _)) (awo (atn (atv (acd d_is_wordL_ hg (hr.mono (by decide)) (by rfl) (aac (aixA (hu_of hr) (av 0) ai (fun _ _ => rfl) (fun _ _ => rfl)) aan)))) (awo1 (atn (atv (acd d_is_wordL_ hg (hr.mono (by decide)) (by rfl) (aac (aixA (hu_of hr) (av 0) ai (fun _ _ => rfl) (fun _ _ => rfl)) aan))))))))) (as1 (asr abl)) asn)
    (asq (asi (atw (awo (atc (op_eqA hr.units) oEq (aixA (hu_of hr) (av 0) ai (fun _ _ => rfl) (fun _ _ => rfl)) (aixA (hu_of hr) (av 0) ai (fun _ _ => rfl) (fun _ _ => rfl)) (nomark _)) (awo (atn (atv (acd d_is_fractionL_ hg (hr.mono (by decide)) (by rfl) (aac (aixA (hu_of hr) (av 0) ai (fun _ _ => rfl) (fun _ _ => rfl)) aan)))) (awo1 (atc op_lt oLt (aixA (hu_of hr) (aixA (hu_of hr) (av 0) ai (fun _ _ => rfl) (fun _ _ => rfl)) ai (fun _ _ => rfl) (fun _ _ => rfl)) ai (nomark _)))))) (as1 (asr abl)) asn)
    (asq (asi (atc op_isN oIs (aixA (hu_of hr) (av 0) ai (fun _ _ => rfl) (fun _ _ => rfl)) an (nomark _)) (as1 (asr abl)) asn)
    (as1 (asr (aand (acd d_is_fractionL_ hg (hr.mono (by decide)) (by rfl) (aac (aixA (hu_of hr) (av 0) ai (fun _ _ => rfl) (fun _ _ => rfl)) aan)) (ae1 (acm op_ge oGe (aop op_mulW oMul (aixA (hu_of hr) (aixA (hu_of hr) (av 0) ai (fun _ _ => rfl) (fun _ _ => rfl)) ai (fun _ _ => rfl) (fun _ _ => rfl)) (aixA (hu_of hr) (aixA (hu_of hr) (av 0) ai (fun _ _ => rfl) (fun _ _ => rfl)) ai (fun _ _ => rfl) (fun _ _ => rfl))) (aop op_mulW oMul (aixA (hu_of hr) (aixA (hu_of hr) (av 0) ai (fun _ _ => rfl) (fun _ _ => rfl)) ai (fun _ _ => rfl) (fun _ _ => rfl)) (aixA (hu_of hr) (aixA (hu_of hr) (av 0) ai (fun _ _ => rfl) (fun _ _ => rfl)) ai (fun _ _ => rfl) (fun _ _ => rfl))) (nomark _)))))))))
def ss_is_fieldL_ : {s : Stmt // topS 30 = s} := by
  refine ⟨?l, ?h⟩
  case h =>
    conv => lhs; whnf
abbrev st_is_fieldL_ : Stmt := ss_is_fieldL_.1
abbrev sc_is_fieldL_N : List Str := ["_law_thing", "_law_names", "_law_houses", "_law_links", "_law_source", "_law_one"]
abbrev sc_is_fieldL_S : Scope := defScope st_is_fieldL_
theorem sc_is_fieldL_ : FnScope ["_law_thing", "_law_names", "_law_houses", "_law_links", "_law_source", "_law_one"] ["_law_thing"] (defScope st_is_fieldL_) := ⟨rfl, rfl, rfl, by decide +kernel, rfl, by decide +kernel, by decide +kernel⟩
theorem ok_is_fieldL_ {f : Addr} {fd : FuncData} (F : Fun K "_law_is_field" "_law_is_field" st_is_fieldL_ f fd) (hb : Binds K fd ["_law_thing"] []) (hm : mg "_law_is_field" = some (.ref f)) (d_is_wordL_ : Def P w K mg base 1 "_law_is_word" ["_law_thing"] is_wordL_) (d_is_houseL_ : Def P w K mg base 3 "_law_is_house" ["_law_thing"] is_houseL_) (d_is_linkL_ : Def P w K mg base 3 "_law_is_link" ["_law_thing"] is_linkL_) (m_isinstance : mg "isinstance" = none) (m_tuple : mg "tuple" = none) (m_len : mg "len" = none) (m_sorted : mg "sorted" = none) (m_set : mg "set" = none) : Def P w K mg base 4 "_law_is_field" ["_law_thing"] is_fieldL_ :=
  fn_a F sc_is_fieldL_ hb hm (g := is_fieldL_B) fun cdv A outer s H E hg hr => (asq (asi (atw (awo (atn (atv (aisi (by rfl) m_isinstance (by rfl) m_tuple (by decide +kernel) (av 0)))) (awo (atc (op_neA hr.units) oNe (acb call_lenA cLen (by rfl) m_len PySem.boot_len (aac (av 0) aan)) ai (nomark _)) (awo1 (atn (atv (acd d_is_wordL_ hg (hr.mono (by decide)) (by rfl) (aac (aixA (hu_of hr) (av 0) ai (fun _ _ => rfl) (fun _ _ => rfl)) aan)))))))) (as1 (asr abl)) asn)
    (asq (asa (av 0) (agt rfl (agl (agn (i := 2) sc_is_fieldL_.nd rfl (.inl rfl)) (agl (agn (i := 3) sc_is_fieldL_.nd rfl (.inl rfl)) (agl (agn (i := 4) sc_is_fieldL_.nd rfl (.inl rfl)) agl0)))))
    (asq (asi (atw (awo (atn (atv (aisi (by rfl) m_isinstance (by rfl) m_tuple (by decide +kernel) (av 2)))) (awo1 (atc (op_neA hr.units) oNe (alc (own := [("_law_one", 5)]) rfl sc_is_fieldL_.nd (ais (av 2)) (blkOk_by (own := [("_law_one", 5)]) (N := sc_is_fieldL_N) (sc := sc_is_fieldL_S) (by decide +kernel)) (by simp [Pat.slots, Pat.slotss]) (fun _ _ _ _ _ => (agn (i := 5) sc_is_fieldL_.nd rfl (.inl rfl))) (fun _ _ _ _ _ => (pts_one (atn (atv (acd d_is_houseL_ hg (hr.mono (by decide)) (by rfl) (aac (av 5) aan)))))) (fun _ _ _ _ _ => (av 5))) (alst aan) (nomark _))))) (as1 (asr abl)) asn)
    (asq (asi (atw (awo (atn (atv (aisi (by rfl) m_isinstance (by rfl) m_tuple (by decide +kernel) (av 3)))) (awo1 (atc (op_neA hr.units) oNe (alc (own := [("_law_one", 5)]) rfl sc_is_fieldL_.nd (ais (av 3)) (blkOk_by (own := [("_law_one", 5)]) (N := sc_is_fieldL_N) (sc := sc_is_fieldL_S) (by decide +kernel)) (by simp [Pat.slots, Pat.slotss]) (fun _ _ _ _ _ => (agn (i := 5) sc_is_fieldL_.nd rfl (.inl rfl))) (fun _ _ _ _ _ => (pts_one (atn (atv (acd d_is_linkL_ hg (hr.mono (by decide)) (by rfl) (aac (av 5) aan)))))) (fun _ _ _ _ _ => (av 5))) (alst aan) (nomark _))))) (as1 (asr abl)) asn)
    (asq (ass (i := 1) sc_is_fieldL_.nd rfl (.inr rfl) (alc (own := [("_law_one", 5)]) rfl sc_is_fieldL_.nd (ais (av 2)) (blkOk_by (own := [("_law_one", 5)]) (N := sc_is_fieldL_N) (sc := sc_is_fieldL_S) (by decide +kernel)) (by simp [Pat.slots, Pat.slotss]) (fun _ _ _ _ _ => (agn (i := 5) sc_is_fieldL_.nd rfl (.inl rfl))) (fun _ _ _ _ _ => ats0) (fun _ _ _ _ _ => (aixA (hu_of hr) (av 5) ai (fun _ _ => rfl) (fun _ _ => rfl)))))
    (asq (asi (atw (awo (atc (op_neA hr.units) oNe (av 1) (asortTx (by rfl) (by rfl) m_sorted m_set (aac (av 1) aan)) (nomark _)) (awo1 (atc (op_ninTD (hu65 hr)) oNInTD (atup (aac (av 4) (aac (atup (aac ai (aac ai aan))) (aac (atup (aac ai (aac ai aan))) aan)))) (av 2) (by rfl))))) (as1 (asr abl)) asn)
    (as1 (asr (acm (op_eqA hr.units) oEq (alc (own := [("_law_one", 5)]) rfl sc_is_fieldL_.nd (ais (av 3)) (blkOk_by (own := [("_law_one", 5)]) (N := sc_is_fieldL_N) (sc := sc_is_fieldL_S) (by decide +kernel)) (by simp [Pat.slots, Pat.slotss]) (fun _ _ _ _ _ => (agn (i := 5) sc_is_fieldL_.nd rfl (.inl rfl))) (fun _ _ _ _ _ => (pts_one (atw (awo (atnin (hu_of hr) (aixA (hu_of hr) (av 5) ai (fun _ _ => rfl) (fun _ _ => rfl)) (av 1)) (awo1 (atnin (hu_of hr) (aixA (hu_of hr) (av 5) ai (fun _ _ => rfl) (fun _ _ => rfl)) (av 1))))))) (fun _ _ _ _ _ => (av 5))) (alst aan) (nomark _))))))))))
def ss_near_partsL_ : {s : Stmt // topS 31 = s} := by
  refine ⟨?l, ?h⟩
  case h =>
    conv => lhs; whnf
abbrev st_near_partsL_ : Stmt := ss_near_partsL_.1
theorem sc_near_partsL_ : FnScope ["_law_found"] [] (defScope st_near_partsL_) := ⟨rfl, rfl, rfl, by decide +kernel, rfl, by decide +kernel, by decide +kernel⟩
theorem ok_near_partsL_ {f : Addr} {fd : FuncData} (F : Fun K "_law_near_parts" "_law_near_parts" st_near_partsL_ f fd) (hb : Binds K fd [] []) (hm : mg "_law_near_parts" = some (.ref f)) : Def P w K mg base 1 "_law_near_parts" [] near_partsL_ :=
  fn_a F sc_near_partsL_ hb hm (g := near_partsL_B) fun cdv A outer s H E hg hr => (asq (ass (i := 0) sc_near_partsL_.nd rfl (.inl rfl) (alst (aac (atup (aac astr (aac (atup (aac ai (aac ai aan))) (aac (atup (aac ai (aac ai aan))) aan)))) (aac (atup (aac astr (aac (atup (aac ai (aac ai aan))) (aac (atup (aac ai (aac ai aan))) aan)))) (aac (atup (aac astr (aac (atup (aac ai (aac ai aan))) (aac (atup (aac ai (aac ai aan))) aan)))) (aac (atup (aac astr (aac (atup (aac (aun un_neg oNeg ai) (aac ai aan))) (aac (atup (aac ai (aac ai aan))) aan)))) aan))))))
    (asq (ass (i := 0) sc_near_partsL_.nd rfl (.inl rfl) (aop op_addA oAdd (av 0) (alst (aac (atup (aac astr (aac (atup (aac ai (aac ai aan))) (aac (atup (aac ai (aac ai aan))) aan)))) (aac (atup (aac astr (aac (atup (aac ai (aac ai aan))) (aac (atup (aac ai (aac ai aan))) aan)))) (aac (atup (aac astr (aac (atup (aac ai (aac ai aan))) (aac (atup (aac ai (aac ai aan))) aan)))) (aac (atup (aac astr (aac (atup (aac ai (aac ai aan))) aan))) aan)))))))
    (asq (ass (i := 0) sc_near_partsL_.nd rfl (.inl rfl) (aop op_addA oAdd (av 0) (alst (aac (atup (aac astr (aac (atup (aac ai (aac ai aan))) (aac (atup (aac ai (aac ai aan))) aan)))) (aac (alst (aac astr (aac (atup (aac ai (aac ai aan))) (aac (atup (aac ai (aac ai aan))) aan)))) aan)))))
    (asq (ass (i := 0) sc_near_partsL_.nd rfl (.inl rfl) (aop op_addA oAdd (av 0) (alst (aac (atup (aac astr (aac ai (aac ai aan)))) (aac (atup (aac astr (aac (atup (aac ai (aac ai aan))) (aac an aan)))) (aac (atup (aac astr (aac (atup (aac ai (aac (aop op_pow oPow ai ai) aan))) (aac (atup (aac (aop op_pow oPow ai ai) (aac ai aan))) aan)))) (aac (atup (aac astr (aac (atup (aac abl (aac ai aan))) (aac (atup (aac ai (aac ai aan))) aan)))) aan)))))))
    (asq (ass (i := 0) sc_near_partsL_.nd rfl (.inl rfl) (aop op_addA oAdd (av 0) (alst (aac (atup (aac astr (aac astr (aac (atup (aac ai (aac ai aan))) (aac an aan))))) (aac (atup (aac astr (aac astr (aac (atup (aac ai (aac ai aan))) (aac (atup (aac ai (aac ai aan))) aan))))) (aac (atup (aac astr (aac astr (aac (atup (aac ai (aac ai aan))) (aac an aan))))) aan))))))
    (asq (ass (i := 0) sc_near_partsL_.nd rfl (.inl rfl) (aop op_addA oAdd (av 0) (alst (aac (atup (aac astr (aac astr (aac (atup (aac (aun un_neg oNeg ai) (aac ai aan))) (aac an aan))))) (aac (atup (aac astr (aac astr (aac (atup (aac ai (aac ai aan))) (aac (atup (aac ai (aac ai aan))) aan))))) (aac (atup (aac astr (aac astr (aac (atup (aac ai (aac ai aan))) (aac (atup (aac ai (aac ai aan))) aan))))) aan))))))
    (asq (ass (i := 0) sc_near_partsL_.nd rfl (.inl rfl) (aop op_addA oAdd (av 0) (alst (aac (atup (aac astr (aac astr (aac an (aac (atup (aac ai (aac ai aan))) aan))))) (aac (atup (aac astr (aac astr (aac (atup (aac ai (aac ai aan))) (aac ai aan))))) aan)))))
    (as1 (asr (aop op_addA oAdd (av 0) (alst (aac (atup (aac astr (aac astr (aac (atup (aac ai (aac ai aan))) (aac an aan))))) (aac (atup (aac astr (aac astr (aac (atup (aac ai (aac ai aan))) aan)))) (aac (atup (aac astr (aac astr (aac (atup (aac ai (aac ai aan))) (aac (atup (aac ai (aac ai aan))) aan))))) (aac (atup (aac astr (aac astr (aac (atup (aac ai (aac ai aan))) (aac (atup (aac ai (aac ai aan))) aan))))) aan)))))))))))))))
def ss_nearL_ : {s : Stmt // topS 32 = s} := by
  refine ⟨?l, ?h⟩
  case h =>
    conv => lhs; whnf
abbrev st_nearL_ : Stmt := ss_nearL_.1
theorem sc_nearL_ : FnScope ["_law_field_here", "_law_own", "_law_found", "_law_one", "_law_link", "_law_houses", "_law_links", "_law_source"] ["_law_field_here"] (defScope st_nearL_) := ⟨rfl, rfl, rfl, by decide +kernel, rfl, by decide +kernel, by decide +kernel⟩
theorem ok_nearL_ {f : Addr} {fd : FuncData} (F : Fun K "_law_near" "_law_near" st_nearL_ f fd) (hb : Binds K fd ["_law_field_here"] []) (hm : mg "_law_near" = some (.ref f)) (m_list : mg "list" = none) : Def P w K mg base 1 "_law_near" ["_law_field_here"] nearL_ :=
  fn_a F sc_nearL_ hb hm (g := nearL_B) fun cdv A outer s H E hg hr => (asq (asa (av 0) (agt rfl (agl (agn (i := 5) sc_nearL_.nd rfl (.inl rfl)) (agl (agn (i := 6) sc_nearL_.nd rfl (.inl rfl)) (agl (agn (i := 7) sc_nearL_.nd rfl (.inl rfl)) agl0)))))
    (asq (ass (i := 1) sc_nearL_.nd rfl (.inl rfl) (aixA (hu_of hr) (av 5) (aun un_neg oNeg ai) (fun _ _ => rfl) (fun _ _ => rfl)))
    (asq (ass (i := 2) sc_nearL_.nd rfl (.inl rfl) (alst (aac (av 0) (aac (act call_list_of cList (by rfl) m_list (by decide +kernel) (aac (av 0) aan)) (aac (asl sl_B oSlA (av 0) aon (aos ai)) (aac (aop op_addT oAddT (av 0) (atup (aac an aan))) (aac (atup (aac (arevT (av 5)) (aac (av 6) (aac (av 7) aan)))) aan)))))))
    (asq (asx (am PySem.F.plainAttrs_list PySem.F.slot_list_append PySem.F.type_list_append mt_append mApp tyL (av 2) (aac (atup (aac (aop op_addT oAddT (av 5) (asl sl_B oSlA (av 5) (aos (aun un_neg oNeg ai)) aon)) (aac (av 6) (aac (av 7) aan)))) aan)))
    (asq (ass (i := 2) sc_nearL_.nd rfl (.inl rfl) (aop op_addA oAdd (av 2) (alst (aac (atup (aac (av 5) (aac (aop op_addT oAddT (av 6) (av 6)) (aac (av 7) aan)))) (aac (atup (aac (av 5) (aac (arevT (av 6)) (aac (av 7) aan)))) (aac (atup (aac (av 5) (aac (act call_list_of cList (by rfl) m_list (by decide +kernel) (aac (av 6) aan)) (aac (av 7) aan)))) aan))))))
    (asq (ass (i := 2) sc_nearL_.nd rfl (.inl rfl) (aop op_addA oAdd (av 2) (alst (aac (atup (aac (av 5) (aac (av 6) (aac astr aan)))) (aac (atup (aac (av 5) (aac (av 6) (aac astr aan)))) (aac (atup (aac (av 5) (aac (av 6) (aac an aan)))) aan))))))
    (asq (ass (i := 2) sc_nearL_.nd rfl (.inl rfl) (aop op_addA oAdd (av 2) (alst (aac (atup (aac (asl sl_B oSlA (av 5) (aos ai) aon) (aac (av 6) (aac (av 7) aan)))) (aac (atup (aac (atup aan) (aac (atup aan) (aac astr aan)))) aan)))))
    (asq (asf PassesOwn.never rfl (ais (av 5)) (agn (i := 3) sc_nearL_.nd rfl (.inl rfl)) (as1 (asx (am PySem.F.plainAttrs_list PySem.F.slot_list_append PySem.F.type_list_append mt_append mApp tyL (av 2) (aac (atup (aac (av 5) (aac (av 6) (aac (aixA (hu_of hr) (av 3) ai (fun _ _ => rfl) (fun _ _ => rfl)) aan)))) aan)))))
    (asq (asx (am PySem.F.plainAttrs_list PySem.F.slot_list_append PySem.F.type_list_append mt_append mApp tyL (av 2) (aac (atup (aac (aop op_addT oAddT (asl sl_B oSlA (av 5) aon (aos (aun un_neg oNeg ai))) (atup (aac (atup (aac (aixA (hu_of hr) (av 1) ai (fun _ _ => rfl) (fun _ _ => rfl)) (aac (atup (aac ai (aac ai aan))) (aac (atup (aac ai (aac ai aan))) aan)))) aan))) (aac (av 6) (aac (aixA (hu_of hr) (av 1) ai (fun _ _ => rfl) (fun _ _ => rfl)) aan)))) aan)))
    (asq (asf PassesOwn.never rfl (ais (atup (aac (atup (aac (aixA (hu_of hr) (av 1) ai (fun _ _ => rfl) (fun _ _ => rfl)) (aac astr (aac (atup (aac ai (aac ai aan))) (aac an aan))))) (aac (atup (aac astr (aac (aixA (hu_of hr) (av 1) ai (fun _ _ => rfl) (fun _ _ => rfl)) (aac (atup (aac ai (aac ai aan))) (aac an aan))))) (aac (atup (aac (aixA (hu_of hr) (av 1) ai (fun _ _ => rfl) (fun _ _ => rfl)) (aac (aixA (hu_of hr) (av 1) ai (fun _ _ => rfl) (fun _ _ => rfl)) (aac (atup (aac ai (aac ai aan))) (aac an aan))))) aan))))) (agn (i := 4) sc_nearL_.nd rfl (.inl rfl)) (as1 (asx (am PySem.F.plainAttrs_list PySem.F.slot_list_append PySem.F.type_list_append mt_append mApp tyL (av 2) (aac (atup (aac (av 5) (aac (aop op_addT oAddT (av 6) (atup (aac (av 4) aan))) (aac (av 7) aan)))) aan)))))
    (as1 (asr (av 2)))))))))))))
def ss_law_ : {s : Stmt // topS 33 = s} := by
  refine ⟨?l, ?h⟩
  case h =>
    conv => lhs; whnf
abbrev st_law_ : Stmt := ss_law_.1
abbrev sc_law_N : List Str := ["_law_script", "_law_feed_here", "_law_field_here", "_law_letters", "_law_many", "_law_great", "_law_menu", "_law_some", "_law_k", "_law_part", "_law_thing", "_law_bent", "_law_kept", "_law_told", "_law_due"]
abbrev sc_law_S : Scope := defScope st_law_
theorem sc_law_ : FnScope ["_law_script", "_law_feed_here", "_law_field_here", "_law_letters", "_law_many", "_law_great", "_law_menu", "_law_some", "_law_k", "_law_part", "_law_thing", "_law_bent", "_law_kept", "_law_told", "_law_due"] ["_law_script"] (defScope st_law_) := ⟨rfl, rfl, rfl, by decide +kernel, rfl, by decide +kernel, by decide +kernel⟩
theorem ok_law_ {f : Addr} {fd : FuncData} (F : Fun K "law" "law" st_law_ f fd) (d_feedL_ : Def P w K mg base 1 "_law_feed" ["_law_script"] feedL_) (d_fieldL_ : Def P w K mg base 3 "_law_field" ["_law_feed_here"] fieldL_) (d_spoiltL_ : Def P w K mg base 10 "_law_spoilt" ["_law_feed_here", "_law_thing", "_law_menu"] spoiltL_) (d_near_partsL_ : Def P w K mg base 1 "_law_near_parts" [] near_partsL_) (d_nearL_ : Def P w K mg base 1 "_law_near" ["_law_field_here"] nearL_) (d_is_house_ : Def P w K mg base 3 "is_house" ["thing"] is_house_) (d_is_link_ : Def P w K mg base 3 "is_link" ["thing"] is_link_) (d_is_field_ : Def P w K mg base 5 "is_field" ["thing"] is_field_) (d_is_houseL_ : Def P w K mg base 3 "_law_is_house" ["_law_thing"] is_houseL_) (d_is_linkL_ : Def P w K mg base 3 "_law_is_link" ["_law_thing"] is_linkL_) (d_is_fieldL_ : Def P w K mg base 4 "_law_is_field" ["_law_thing"] is_fieldL_) (m_tuple : mg "tuple" = none) (m_range : mg "range" = none) (m_list : mg "list" = none) (m_repr : mg "repr" = none) : FnG P w K mg base 11 f fd ["_law_script"] (spA K 1 law_) :=
  fn_aG F sc_law_ (g := law_B) fun cdv A outer s H E hg hr => (asq (ass (i := 1) sc_law_.nd rfl (.inr rfl) (acd d_feedL_ hg (hr.mono (by decide)) (by rfl) (aac (av 0) aan)))
    (asq (ass (i := 2) sc_law_.nd rfl (.inl rfl) (acd d_fieldL_ hg (hr.mono (by decide)) (by rfl) (aac (av 1) aan)))
    (asq (ass (i := 3) sc_law_.nd rfl (.inr rfl) astr)
    (asq (ass (i := 4) sc_law_.nd rfl (.inr rfl) (act call_tuple_of cTuple (by rfl) m_tuple (by decide +kernel) (aac (alc (own := [("_law_k", 8)]) rfl sc_law_.nd (air1 (by rfl) m_range (aac ai aan)) (blkOk_by (own := [("_law_k", 8)]) (N := sc_law_N) (sc := sc_law_S) (by decide +kernel)) (by simp [Pat.slots, Pat.slotss]) (fun _ _ _ _ _ => (agn (i := 8) sc_law_.nd rfl (.inl rfl))) (fun _ _ _ _ _ => ats0) (fun _ _ _ _ _ => (atup (aac (aop op_addT oAddT (aixA (hu_of hr) (av 3) (aop op_fdivW oDiv (av 8) ai) (fun _ _ => rfl) (fun _ _ => rfl)) (aixA (hu_of hr) (av 3) (aop op_modN oMod (av 8) ai) (fun _ _ => rfl) (fun _ _ => rfl))) (aac (atup (aac ai (aac ai aan))) (aac (atup (aac ai (aac ai aan))) aan)))))) aan)))
    (asq (ass (i := 5) sc_law_.nd rfl (.inl rfl) (atup (aac (av 4) (aac (act call_tuple_of cTuple (by rfl) m_tuple (by decide +kernel) (aac (alc (own := [("_law_k", 8)]) rfl sc_law_.nd (air2 (by rfl) m_range (aac ai (aac ai aan))) (blkOk_by (own := [("_law_k", 8)]) (N := sc_law_N) (sc := sc_law_S) (by decide +kernel)) (by simp [Pat.slots, Pat.slotss]) (fun _ _ _ _ _ => (agn (i := 8) sc_law_.nd rfl (.inl rfl))) (fun _ _ _ _ _ => ats0) (fun _ _ _ _ _ => (atup (aac astr (aac (aixA (hu_of hr) (aixA (hu_of hr) (av 4) (av 8) (fun _ _ => rfl) (fun _ _ => rfl)) ai (fun _ _ => rfl) (fun _ _ => rfl)) (aac (atup (aac ai (aac ai aan))) (aac an aan))))))) aan)) (aac astr aan)))))
    (asq (ass (i := 6) sc_law_.nd rfl (.inr rfl) (alst (aac an (aac abl (aac ai (aac ai (aac astr (aac astr (aac astr (aac (atup aan) (aac (alst aan) (aac (atup (aac ai (aac ai aan))) (aac (atup (aac ai (aac ai aan))) (aac (atup (aac ai (aac ai aan))) (aac (aop op_pow oPow ai ai) aan)))))))))))))))
    (asq (ass (i := 7) sc_law_.nd rfl (.inl rfl) (aop op_addA oAdd (aop op_addT oAddT (acd0 d_near_partsL_ hg (hr.mono (by decide)) (by rfl)) (acd d_nearL_ hg (hr.mono (by decide)) (by rfl) (aac (av 2) aan))) (alst (aac (av 5) (aac (atup (aac (aop op_addT oAddT (asl sl_B oSlA (av 4) aon (aos (aun un_neg oNeg ai))) (arevTo (by decide) (av 4))) (aac (atup aan) (aac astr aan)))) aan)))))
    (asq (ass (i := 7) sc_law_.nd rfl (.inl rfl) (aop op_addT oAddT (av 7) (act call_list_of cList (by rfl) m_list (by decide +kernel) (aac (aop op_addT oAddT (aixA (hu_of hr) (av 2) ai (fun _ _ => rfl) (fun _ _ => rfl)) (aixA (hu_of hr) (av 2) ai (fun _ _ => rfl) (fun _ _ => rfl))) aan))))
    (asq (asf PassesOwn.never rfl (air1 (by rfl) m_range (aac ai aan)) (agn (i := 8) sc_law_.nd rfl (.inl rfl)) (asq (ass (i := 11) sc_law_.nd rfl (.inl rfl) (acd d_spoiltL_ hg (hr.mono (by decide)) (by rfl) (aac (av 1) (aac (av 2) (aac (av 6) aan)))))
    (as1 (ass (i := 7) sc_law_.nd rfl (.inl rfl) (aop op_addA oAdd (av 7) (alst (aac (av 11) (aac (acd d_spoiltL_ hg (hr.mono (by decide)) (by rfl) (aac (av 1) (aac (av 11) (aac (av 6) aan)))) aan))))))))
    (asq (asf PassesOwn.never rfl (ais (act call_list_of cList (by rfl) m_list (by decide +kernel) (aac (aop op_addT oAddT (asl sl_B oSlA (aixA (hu_of hr) (av 2) ai (fun _ _ => rfl) (fun _ _ => rfl)) aon (aos ai)) (asl sl_B oSlA (aixA (hu_of hr) (av 2) ai (fun _ _ => rfl) (fun _ _ => rfl)) aon (aos ai))) aan))) (agn (i := 9) sc_law_.nd rfl (.inr rfl)) (as1 (ass (i := 7) sc_law_.nd rfl (.inl rfl) (aop op_addT oAddT (av 7) (alc (own := [("_law_k", 8)]) rfl sc_law_.nd (air1 (by rfl) m_range (aac ai aan)) (blkOk_by (own := [("_law_k", 8)]) (N := sc_law_N) (sc := sc_law_S) (by decide +kernel)) (by simp [Pat.slots, Pat.slotss]) (fun _ _ _ _ _ => (agn (i := 8) sc_law_.nd rfl (.inl rfl))) (fun _ _ _ _ _ => ats0) (fun _ _ _ _ _ => (acd d_spoiltL_ hg (hr.mono (by decide)) (by rfl) (aac (av 1) (aac (av 9) (aac (av 6) aan))))))))))
    (asq (asf PassesOwn.never rfl (ais (aop op_addT oAddT (av 7) (av 6))) (agn (i := 10) sc_law_.nd rfl (.inl rfl)) (asq (ass (i := 12) sc_law_.nd rfl (.inl rfl) (acb (call_reprA hg hr.units) cRepr (by rfl) m_repr boot_repr (aac (av 10) aan)))
    (asq (ass (i := 13) sc_law_.nd rfl (.inl rfl) (alst (aac (acd d_is_house_ hg (hr.mono (by decide)) (by rfl) (aac (av 10) aan)) (aac (acd d_is_link_ hg (hr.mono (by decide)) (by rfl) (aac (av 10) aan)) (aac (acd d_is_field_ hg (hr.mono (by decide)) (by rfl) (aac (av 10) aan)) aan)))))
    (asq (ass (i := 14) sc_law_.nd rfl (.inl rfl) (alst (aac (acd d_is_houseL_ hg (hr.mono (by decide)) (by rfl) (aac (av 10) aan)) (aac (acd d_is_linkL_ hg (hr.mono (by decide)) (by rfl) (aac (av 10) aan)) (aac (acd d_is_fieldL_ hg (hr.mono (by decide)) (by rfl) (aac (av 10) aan)) aan)))))
    (as1 (asi (atw (awo (atc (op_neA hr.units) oNe (acb (call_reprA hg hr.units) cRepr (by rfl) m_repr boot_repr (aac (av 13) aan)) (acb (call_reprA hg hr.units) cRepr (by rfl) m_repr boot_repr (aac (av 14) aan)) (nomark _)) (awo1 (atc (op_neA hr.units) oNe (acb (call_reprA hg hr.units) cRepr (by rfl) m_repr boot_repr (aac (av 10) aan)) (av 12) (nomark _))))) (as1 (asr abl)) asn))))))
    (as1 (asr abl)))))))))))))
end
end K03
namespace Fr

def mk (a b : Int) : Int × Int :=
  if b < 0 then ((-a) / ((Int.gcd a b : Nat) : Int), (-b) / ((Int.gcd a b : Nat) : Int)) else (a / ((Int.gcd a b : Nat) : Int), b / ((Int.gcd a b : Nat) : Int))
theorem gcd_pos {a b : Int} (h : b ≠ 0) : 0 < Int.gcd a b := Int.gcd_pos_of_ne_zero_right a h
theorem core {a b : Int} (h : 0 < b) : ∃ x y : Int, a / ((Int.gcd a b : Nat) : Int) = x ∧ b / ((Int.gcd a b : Nat) : Int) = y ∧ a = x * ((Int.gcd a b : Nat) : Int) ∧ b = y * ((Int.gcd a b : Nat) : Int) ∧ 0 < y ∧ Int.gcd x y = 1 := by
  have g0 : 0 < Int.gcd a b := gcd_pos (by omega)
  have gi : (0 : Int) < ((Int.gcd a b : Nat) : Int) := by omega
  have ea : a / ((Int.gcd a b : Nat) : Int) * ((Int.gcd a b : Nat) : Int) = a := Int.ediv_mul_cancel (Int.gcd_dvd_left ..)
  have eb : b / ((Int.gcd a b : Nat) : Int) * ((Int.gcd a b : Nat) : Int) = b := Int.ediv_mul_cancel (Int.gcd_dvd_right ..)
  refine ⟨_, _, rfl, rfl, ea.symm, eb.symm, ?_, ?_⟩
  · have : 0 < b / ((Int.gcd a b : Nat) : Int) * ((Int.gcd a b : Nat) : Int) := by rw [eb]; exact h
    exact Int.pos_of_mul_pos_left this gi
  · rw [Int.gcd_ediv_gcd_ediv_gcd g0]
theorem mk_all {a b : Int} (h : b ≠ 0) : ∃ x y : Int, mk a b = (x, y) ∧ 0 < y ∧ Int.gcd x y = 1 ∧ x * b = a * y ∧ x.natAbs ≤ a.natAbs ∧ y.natAbs ≤ b.natAbs := by
  have key : ∀ {a b : Int}, 0 < b → ∃ x y : Int, (a / ((Int.gcd a b : Nat) : Int), b / ((Int.gcd a b : Nat) : Int)) = (x, y) ∧ 0 < y ∧ Int.gcd x y = 1 ∧ x * b = a * y ∧ x.natAbs ≤ a.natAbs ∧ y.natAbs ≤ b.natAbs := by
    intro a b h
    obtain ⟨x, y, ex, ey, ea, eb, hy, hg⟩ := core (a := a) h
    have g0 : 0 < Int.gcd a b := gcd_pos (by omega)
    refine ⟨x, y, by rw [ex, ey], hy, hg, ?_, ?_, ?_⟩
    · generalize ((Int.gcd a b : Nat) : Int) = g at *
      subst ea eb
      rw [Int.mul_comm y g, ← Int.mul_assoc]
    · have := congrArg Int.natAbs ea
      rw [Int.natAbs_mul, Int.natAbs_natCast] at this
      rw [this]
      exact Nat.le_mul_of_pos_right _ g0
    · have := congrArg Int.natAbs eb
      rw [Int.natAbs_mul, Int.natAbs_natCast] at this
      rw [this]
      exact Nat.le_mul_of_pos_right _ g0
  unfold mk
  by_cases hb : b < 0
  · rw [if_pos hb]
    obtain ⟨x, y, e, hy, hg, hc, h1, h2⟩ := key (a := -a) (b := -b) (by omega)
    rw [Int.neg_gcd, Int.gcd_neg] at e
    refine ⟨x, y, e, hy, hg, ?_, by simpa using h1, by simpa using h2⟩
    rw [Int.mul_neg, Int.neg_mul] at hc
    exact Int.neg_inj.mp hc
  · rw [if_neg hb]
    exact key (by omega)
theorem uniq {x y u v : Int} (hy : 0 < y) (hv : 0 < v) (g : Int.gcd x y = 1) (g' : Int.gcd u v = 1) (e : x * v = u * y) : (x, y) = (u, v) := by
  have en : x.natAbs * v.natAbs = u.natAbs * y.natAbs := by
    have := congrArg Int.natAbs e
    rwa [Int.natAbs_mul, Int.natAbs_mul] at this
  have c1 : Nat.Coprime y.natAbs x.natAbs := by
    have : Nat.gcd x.natAbs y.natAbs = 1 := g
    exact Nat.Coprime.symm this
  have c2 : Nat.Coprime v.natAbs u.natAbs := by
    have : Nat.gcd u.natAbs v.natAbs = 1 := g'
    exact Nat.Coprime.symm this
  have d1 : y.natAbs ∣ v.natAbs := c1.dvd_of_dvd_mul_left (by rw [en]; exact Nat.dvd_mul_left _ _)
  have d2 : v.natAbs ∣ y.natAbs := c2.dvd_of_dvd_mul_left (by rw [← en]; exact Nat.dvd_mul_left _ _)
  have eyv : y.natAbs = v.natAbs := Nat.dvd_antisymm d1 d2
  have eq : y = v := by omega
  subst eq
  have ex : x = u := Int.eq_of_mul_eq_mul_right (by omega) e
  rw [ex]
theorem mk_eq {a b c d : Int} (hb : b ≠ 0) (hd : d ≠ 0) (e : a * d = c * b) : mk a b = mk c d := by
  obtain ⟨x, y, e1, hy, hg, hc, _, _⟩ := mk_all (a := a) hb
  obtain ⟨u, v, e2, hv, hg', hc', _, _⟩ := mk_all (a := c) hd
  rw [e1, e2]
  refine uniq hy hv hg hg' ?_
  have h1 : (x * v) * (b * d) = (u * y) * (b * d) := by
    calc (x * v) * (b * d) = (x * b) * (v * d) := by ac_rfl
      _ = (a * y) * (v * d) := by rw [hc]
      _ = (a * d) * (y * v) := by ac_rfl
      _ = (c * b) * (y * v) := by rw [e]
      _ = (c * v) * (y * b) := by ac_rfl
      _ = (u * d) * (y * b) := by rw [hc']
      _ = (u * y) * (b * d) := by ac_rfl
  exact Int.eq_of_mul_eq_mul_right (Int.mul_ne_zero hb hd) h1
theorem mk_self {a b : Int} (hb : 0 < b) (g : Int.gcd a b = 1) : mk a b = (a, b) := by
  unfold mk
  rw [if_neg (by omega), g]
  simp

structure Ok (n : Nat) (p : Int × Int) : Prop where
  pos : 0 < p.2
  cop : Int.gcd p.1 p.2 = 1
  b1 : p.1.natAbs < 2 ^ n
  b2 : p.2.natAbs < 2 ^ n
theorem mk_ok {n : Nat} {a b : Int} (h : b ≠ 0) (ha : a.natAbs < 2 ^ n) (hb : b.natAbs < 2 ^ n) : Ok n (mk a b) := by
  obtain ⟨x, y, e, hy, hg, _, h1, h2⟩ := mk_all (a := a) h
  rw [e]
  exact ⟨hy, hg, by show x.natAbs < _; omega, by show y.natAbs < _; omega⟩
theorem mk_cross {a b : Int} (h : b ≠ 0) : (mk a b).1 * b = a * (mk a b).2 := by
  obtain ⟨x, y, e, hy, hg, hc, _, _⟩ := mk_all (a := a) h
  rw [e]
  exact hc
theorem mk_pos {a b : Int} (h : b ≠ 0) : 0 < (mk a b).2 := by
  obtain ⟨x, y, e, hy, _⟩ := mk_all (a := a) h
  rw [e]
  exact hy
theorem Ok.mono {n m : Nat} {p : Int × Int} (h : Ok n p) (hnm : n ≤ m) : Ok m p :=
  ⟨h.pos, h.cop, Nat.lt_of_lt_of_le h.b1 (Nat.pow_le_pow_right (by decide) hnm), Nat.lt_of_lt_of_le h.b2 (Nat.pow_le_pow_right (by decide) hnm)⟩
def add (p q : Int × Int) : Int × Int := mk (p.1 * q.2 + q.1 * p.2) (p.2 * q.2)
def sub (p q : Int × Int) : Int × Int := mk (p.1 * q.2 - q.1 * p.2) (p.2 * q.2)
def div (p q : Int × Int) : Int × Int := mk (p.1 * q.2) (p.2 * q.1)
theorem bmul {n m : Nat} {a b : Int} (ha : a.natAbs < 2 ^ n) (hb : b.natAbs < 2 ^ m) : (a * b).natAbs < 2 ^ (n + m) := by
  rw [Int.natAbs_mul, Nat.pow_add]
  exact Nat.mul_lt_mul'' ha hb
theorem badd {n : Nat} {a b : Int} (ha : a.natAbs < 2 ^ n) (hb : b.natAbs < 2 ^ n) : (a + b).natAbs < 2 ^ (n + 1) := by
  rw [Nat.pow_succ]
  omega
theorem bmono {n m : Nat} {a : Int} (ha : a.natAbs < 2 ^ n) (h : n ≤ m) : a.natAbs < 2 ^ m := Nat.lt_of_lt_of_le ha (Nat.pow_le_pow_right (by decide) h)
theorem add_ok {n m : Nat} {p q : Int × Int} (hp : Ok n p) (hq : Ok m q) : Ok (n + m + 1) (add p q) :=
  mk_ok (Int.mul_ne_zero (by have := hp.pos; omega) (by have := hq.pos; omega)) (badd (bmul hp.b1 hq.b2) (bmono (bmul hq.b1 hp.b2) (by omega))) (bmono (bmul hp.b2 hq.b2) (by omega))
def Is (p : Int × Int) (a b : Int) : Prop := p = mk a b ∧ b ≠ 0
theorem Ok.is {n : Nat} {p : Int × Int} (h : Ok n p) : Is p p.1 p.2 := ⟨(mk_self h.pos h.cop).symm, by have := h.pos; omega⟩
theorem Is.same {p q : Int × Int} {a b c d : Int} (hp : Is p a b) (hq : Is q c d) (e : a * d = c * b) : p = q := by
  rw [hp.1, hq.1]
  exact mk_eq hp.2 hq.2 e
theorem Is.add {p q : Int × Int} {a b c d : Int} (hp : Is p a b) (hq : Is q c d) : Is (add p q) (a * d + c * b) (b * d) := by
  refine ⟨?_, Int.mul_ne_zero hp.2 hq.2⟩
  unfold Fr.add
  have h1 := mk_cross (a := a) hp.2
  have h2 := mk_cross (a := c) hq.2
  rw [← hp.1] at h1
  rw [← hq.1] at h2
  have p0 : p.2 ≠ 0 := by rw [hp.1]; have := mk_pos (a := a) hp.2; omega
  have q0 : q.2 ≠ 0 := by rw [hq.1]; have := mk_pos (a := c) hq.2; omega
  refine mk_eq (Int.mul_ne_zero p0 q0) (Int.mul_ne_zero hp.2 hq.2) ?_
  rw [Int.add_mul, Int.add_mul]
  have e1 : p.1 * q.2 * (b * d) = a * d * (p.2 * q.2) := by
    calc p.1 * q.2 * (b * d) = (p.1 * b) * (q.2 * d) := by ac_rfl
      _ = (a * p.2) * (q.2 * d) := by rw [h1]
      _ = a * d * (p.2 * q.2) := by ac_rfl
  have e2 : q.1 * p.2 * (b * d) = c * b * (p.2 * q.2) := by
    calc q.1 * p.2 * (b * d) = (q.1 * d) * (p.2 * b) := by ac_rfl
      _ = (c * q.2) * (p.2 * b) := by rw [h2]
      _ = c * b * (p.2 * q.2) := by ac_rfl
  rw [e1, e2]
theorem Is.sub {p q : Int × Int} {a b c d : Int} (hp : Is p a b) (hq : Is q c d) : Is (sub p q) (a * d - c * b) (b * d) := by
  refine ⟨?_, Int.mul_ne_zero hp.2 hq.2⟩
  unfold Fr.sub
  have h1 := mk_cross (a := a) hp.2
  have h2 := mk_cross (a := c) hq.2
  rw [← hp.1] at h1
  rw [← hq.1] at h2
  have p0 : p.2 ≠ 0 := by rw [hp.1]; have := mk_pos (a := a) hp.2; omega
  have q0 : q.2 ≠ 0 := by rw [hq.1]; have := mk_pos (a := c) hq.2; omega
  refine mk_eq (Int.mul_ne_zero p0 q0) (Int.mul_ne_zero hp.2 hq.2) ?_
  rw [Int.sub_mul, Int.sub_mul]
  have e1 : p.1 * q.2 * (b * d) = a * d * (p.2 * q.2) := by
    calc p.1 * q.2 * (b * d) = (p.1 * b) * (q.2 * d) := by ac_rfl
      _ = (a * p.2) * (q.2 * d) := by rw [h1]
      _ = a * d * (p.2 * q.2) := by ac_rfl
  have e2 : q.1 * p.2 * (b * d) = c * b * (p.2 * q.2) := by
    calc q.1 * p.2 * (b * d) = (q.1 * d) * (p.2 * b) := by ac_rfl
      _ = (c * q.2) * (p.2 * b) := by rw [h2]
      _ = c * b * (p.2 * q.2) := by ac_rfl
  rw [e1, e2]
theorem Is.div {p q : Int × Int} {a b c d : Int} (hp : Is p a b) (hq : Is q c d) (h0 : c ≠ 0) : Is (div p q) (a * d) (b * c) := by
  refine ⟨?_, Int.mul_ne_zero hp.2 h0⟩
  unfold Fr.div
  have h1 := mk_cross (a := a) hp.2
  have h2 := mk_cross (a := c) hq.2
  rw [← hp.1] at h1
  rw [← hq.1] at h2
  have p0 : p.2 ≠ 0 := by rw [hp.1]; have := mk_pos (a := a) hp.2; omega
  have q0 : q.2 ≠ 0 := by rw [hq.1]; have := mk_pos (a := c) hq.2; omega
  have q1 : q.1 ≠ 0 := by
    intro z
    rw [z, Int.zero_mul] at h2
    exact (Int.mul_ne_zero h0 q0) h2.symm
  refine mk_eq (Int.mul_ne_zero p0 q1) (Int.mul_ne_zero hp.2 h0) ?_
  calc p.1 * q.2 * (b * c) = (p.1 * b) * (c * q.2) := by ac_rfl
    _ = (a * p.2) * (q.1 * d) := by rw [h1, h2]
    _ = a * d * (p.2 * q.1) := by ac_rfl
end Fr
namespace K37
open PySem PySem.Spec PyProof.Rows L2 G Th AL
abbrev Fq := Int × Int
def frV (x : Fq) : Val := .tup [.int x.1, .int x.2]
structure Bd (x : Int × Int) : Prop where
  pos : 0 < x.2
  b1 : x.1.natAbs < 2 ^ 900
  b2 : x.2.natAbs < 2 ^ 900
theorem mw {i j : Int} (hi : i.natAbs < 2 ^ 900) (hj : j.natAbs < 2 ^ 900) : CMulW i j := wide_mul hi hj (by decide) (by decide) (by decide)
theorem gMul_eq {a b : Int} {S : Sto} (h : CMulW a b) : gMul (.int a) (.int b) S = some (.int (a * b), S) := if_pos h
theorem gMod_eq {a b : Int} {S : Sto} (h : b ≠ 0) : gMod (.int a) (.int b) S = some (.int (a.fmod b), S) := if_pos h
theorem at0 {α : Type} {x : α} {xs : List α} : atI (x :: xs) 0 = some x := atI_nat (j := 0) rfl
theorem at1 {α : Type} {x y : α} {xs : List α} : atI (x :: y :: xs) 1 = some y := atI_nat (j := 1) rfl
theorem at2 {α : Type} {x y z : α} {xs : List α} : atI (x :: y :: z :: xs) 2 = some z := atI_nat (j := 2) rfl
theorem at3 {α : Type} {x y z w : α} {xs : List α} : atI (x :: y :: z :: w :: xs) 3 = some w := atI_nat (j := 3) rfl
theorem fmod_lt {a b : Int} (h : 0 < b) : 0 ≤ a.fmod b ∧ a.fmod b < b := by
  rw [Int.fmod_eq_emod_of_nonneg a (by omega)]
  exact ⟨Int.emod_nonneg a (by omega), Int.emod_lt_of_pos a h⟩
theorem gcd_step {a b : Int} (hb : 0 < b) : Int.gcd b (a.fmod b) = Int.gcd a b := by
  rw [Int.fmod_eq_emod_of_nonneg a (by omega), Int.emod_def, Int.gcd_sub_mul_left_right, Int.gcd_comm]
theorem g_div {a b : Int} {x : Int} (h : b ≠ 0) (hb : b.natAbs < 2 ^ 2000) : CDivW x ((Int.gcd a b : Nat) : Int) := by
  have g0 := Fr.gcd_pos (a := a) h
  refine wide_div (b := 2000) (by omega) ?_ (by decide) (by decide)
  rw [Int.natAbs_natCast]
  exact Nat.lt_of_le_of_lt (Int.gcd_le_natAbs_right _ h) hb
theorem cd_loop : ∀ (n : Nat) (a b : Int) (S : Sto), 0 ≤ b → b.toNat < n → ∃ a', whR (eT (eB gNe (eV 1) (eC (.int 0)))) (sPar [0, 1] (aCons (eV 1) (aCons (eB gMod (eV 0) (eV 1)) aNil))) n [some (.int a), some (.int b)] S = .nx [some (.int a'), some (.int 0)] S ∧ a'.natAbs = Int.gcd a b
  | 0, _, _, _, _, h => by omega
  | n + 1, a, b, S, h0, h => by
    by_cases hb : b = 0
    · subst hb
      refine ⟨a, ?_, by simp⟩
      rw [whR]
      simp only [eV, eC, eB, eT, eU, eIf, eCh, eAnd, eOr, eNot, bAnd, bOr, bNot, bYes, aNil, aCons, eTup, eLst, eCall, eDef, eMt, eMt0, eSl, oN, oS, sNil, sSeq, sExpr, sRet, sIf, sAsg, sPar, sSub, runF, Pat.bind, Pat.binds, gI, gNeg, gAdd, gIs, gIsN, gLen, gAbs, gTuple, gList, gApp, isL, gSet, gSetA, gIxA, gIx, gEq, gNe, eqA, eqS, AL.keyOf, eGet1, eGet2, eDic, gIn, List.getElem?_cons_zero, List.getElem?_cons_succ, List.getElem?_nil, List.set_cons_zero, List.set_cons_succ, List.map_cons, List.map_nil, List.append_eq, List.cons_append, List.nil_append, List.replicate_succ, List.replicate_zero, List.length_cons, List.length_nil, Option.bind_some, Option.bind_none, Option.map_some, Nat.reduceAdd, Nat.reduceSub, Nat.reduceLeDiff, if_true, ite_true, if_false, Bool.false_eq_true, reduceIte, decide_true, Bool.not_true]
    · obtain ⟨m1, m2⟩ := fmod_lt (a := a) (b := b) (by omega)
      obtain ⟨a', e, g⟩ := cd_loop n b (a.fmod b) S m1 (by omega)
      refine ⟨a', ?_, by rw [g, gcd_step (by omega)]⟩
      rw [whR]
      simp only [eV, eC, eB, eT, eU, eIf, eCh, eAnd, eOr, eNot, bAnd, bOr, bNot, bYes, aNil, aCons, eTup, eLst, eCall, eDef, eMt, eMt0, eSl, oN, oS, sNil, sSeq, sExpr, sRet, sIf, sAsg, sPar, sSub, runF, Pat.bind, Pat.binds, gI, gNeg, gAdd, gIs, gIsN, gLen, gAbs, gTuple, gList, gApp, isL, gSet, gSetA, gIxA, gIx, gEq, gNe, eqA, eqS, AL.keyOf, eGet1, eGet2, eDic, gIn, List.getElem?_cons_zero, List.getElem?_cons_succ, List.getElem?_nil, List.set_cons_zero, List.set_cons_succ, List.map_cons, List.map_nil, List.append_eq, List.cons_append, List.nil_append, List.replicate_succ, List.replicate_zero, List.length_cons, List.length_nil, Option.bind_some, Option.bind_none, Option.map_some, Nat.reduceAdd, Nat.reduceSub, Nat.reduceLeDiff, if_true, ite_true, if_false, Bool.false_eq_true, reduceIte, gMod_eq hb, decide_eq_false hb, Bool.not_false]
      exact e
theorem cd_eq {a b : Int} {S : Sto} (h : 0 ≤ b) : common_divisor_ [.int a, .int b] S = some (.int (Int.gcd a b : Nat), S) := by
  obtain ⟨a', e, g⟩ := cd_loop (b.toNat + 1) a b S h (by omega)
  have e2 := sWhile_eq e (by intro z; cases z)
  simp only [common_divisor_, common_divisor_B, eV, eC, eB, eT, eU, eIf, eCh, eAnd, eOr, eNot, bAnd, bOr, bNot, bYes, aNil, aCons, eTup, eLst, eCall, eDef, eMt, eMt0, eSl, oN, oS, sNil, sSeq, sExpr, sRet, sIf, sAsg, sPar, sSub, runF, Pat.bind, Pat.binds, gI, gNeg, gAdd, gIs, gIsN, gLen, gAbs, gTuple, gList, gApp, isL, gSet, gSetA, gIxA, gIx, gEq, gNe, eqA, eqS, AL.keyOf, eGet1, eGet2, eDic, gIn, List.getElem?_cons_zero, List.getElem?_cons_succ, List.getElem?_nil, List.set_cons_zero, List.set_cons_succ, List.map_cons, List.map_nil, List.append_eq, List.cons_append, List.nil_append, List.replicate_succ, List.replicate_zero, List.length_cons, List.length_nil, Option.bind_some, Option.bind_none, Option.map_some, Nat.reduceAdd, Nat.reduceSub, Nat.reduceLeDiff, if_true, ite_true, if_false, Bool.false_eq_true, reduceIte, e2]
  rw [← g]
  split
  · rw [show -a' = (a'.natAbs : Int) by omega]
  · rw [show a' = (a'.natAbs : Int) by omega, Int.natAbs_natCast]
theorem is_below_eq {x y : Fq} {S : Sto} (hx : Bd x) (hy : Bd y) : is_below_ [frV x, frV y] S = some (.bl (decide (x.1 * y.2 < y.1 * x.2)), S) := by
  have h1 := gMul_eq (S := S) (mw hx.b1 hy.b2)
  have h2 := gMul_eq (S := S) (mw hy.b1 hx.b2)
  simp only [is_below_, is_below_B, frV, eV, eC, eB, eT, eU, eIf, eCh, eAnd, eOr, eNot, bAnd, bOr, bNot, bYes, aNil, aCons, eTup, eLst, eCall, eDef, eMt, eMt0, eSl, oN, oS, sNil, sSeq, sExpr, sRet, sIf, sAsg, sPar, sSub, runF, Pat.bind, Pat.binds, gI, gNeg, gAdd, gIs, gIsN, gLen, gAbs, gTuple, gList, gApp, isL, gSet, gSetA, gIxA, gIx, gEq, gNe, eqA, eqS, AL.keyOf, eGet1, eGet2, eDic, gIn, List.getElem?_cons_zero, List.getElem?_cons_succ, List.getElem?_nil, List.set_cons_zero, List.set_cons_succ, List.map_cons, List.map_nil, List.append_eq, List.cons_append, List.nil_append, List.replicate_succ, List.replicate_zero, List.length_cons, List.length_nil, Option.bind_some, Option.bind_none, Option.map_some, Nat.reduceAdd, Nat.reduceSub, Nat.reduceLeDiff, if_true, ite_true, if_false, Bool.false_eq_true, reduceIte, at0, at1, h1, h2]
end K37
namespace K37
open PySem PySem.Spec PyProof.Rows L2 G Th AL
theorem ss {S : Sto} {n : Nat} {o o' : Ob} (h : S[n]? = some o) : (S.set n o')[n]? = some o' := List.getElem?_set_self (List.getElem?_eq_some_iff.mp h).1
theorem sn {S : Sto} {k n : Nat} {o : Ob} (h : n ≠ k) : (S.set n o)[k]? = S[k]? := List.getElem?_set_ne h
theorem sa {S T : Sto} {n : Nat} {o : Ob} (h : S[n]? = some o) : (S ++ T)[n]? = some o := by
  rw [List.getElem?_append_left (List.getElem?_eq_some_iff.mp h).1]
  exact h
theorem sl {S : Sto} {o : Ob} : (S ++ [o])[S.length]? = some o := by simp

def Fr1 (S S' : Sto) : Prop := ∀ (k : Nat) (o : Ob), k ≠ 1 → S[k]? = some o → S'[k]? = some o
theorem Fr1.refl (S : Sto) : Fr1 S S := fun _ _ _ h => h
theorem Fr1.trans {S S1 S2 : Sto} (a : Fr1 S S1) (b : Fr1 S1 S2) : Fr1 S S2 := fun k o n h => b k o n (a k o n h)
theorem Fr1.app (S T : Sto) : Fr1 S (S ++ T) := fun _ _ _ h => sa h
structure Tp (S : Sto) (B : Int) : Prop where
  ex : ∃ (ns : List Int) (i q n : Int), S[0]? = some (.lst (ns.map .int)) ∧ S[1]? = some (.lst [.ref 0, .int i, .int q, .int n]) ∧ 0 ≤ i ∧ 0 ≤ q ∧ 0 ≤ n ∧ n ≤ B ∧ ns.length ≤ 63
theorem Tp.mono {S : Sto} {B B' : Int} (h : Tp S B) (hb : B ≤ B') : Tp S B' := by
  obtain ⟨ns, i, q, n, h0, h1, a, b, c, d, e⟩ := h.ex
  exact ⟨ns, i, q, n, h0, h1, a, b, c, by omega, e⟩
theorem Tp.app {S T : Sto} {B : Int} (h : Tp S B) : Tp (S ++ T) B := by
  obtain ⟨ns, i, q, n, h0, h1, r⟩ := h.ex
  exact ⟨ns, i, q, n, sa h0, sa h1, r⟩
theorem Tp.set {S : Sto} {B : Int} {k : Nat} {o : Ob} (h : Tp S B) (hk : 2 ≤ k) : Tp (S.set k o) B := by
  obtain ⟨ns, i, q, n, h0, h1, r⟩ := h.ex
  exact ⟨ns, i, q, n, by rw [sn (by omega)]; exact h0, by rw [sn (by omega)]; exact h1, r⟩
theorem Tp.two {S : Sto} {B : Int} (h : Tp S B) : 2 ≤ S.length := by
  obtain ⟨ns, i, q, n, h0, h1, r⟩ := h.ex
  exact (List.getElem?_eq_some_iff.mp h1).1
theorem mapO_ints {S : Sto} {k : Nat} : ∀ ns : List Int, mapO (toD S (k + 1)) (ns.map Val.int) = some (ns.map PyData.int)
  | [] => rfl
  | n :: r => by
    rw [List.map_cons, mapO, mapO_ints r]
    rfl
theorem lay_ints : ∀ ns : List Int, PyData.canLayAll0 (ns.map PyData.int) = true
  | [] => rfl
  | n :: r => by
    simp only [List.map_cons, PyData.canLayAll0, PyData.canLay0, Bool.true_and]
    exact lay_ints r
theorem depth_ints : ∀ ns : List Int, PyData.depthAll (ns.map PyData.int) ≤ 1
  | [] => by simp [PyData.depthAll]
  | n :: r => by
    have h := depth_ints r
    simp only [List.map_cons, PyData.depthAll, PyData.depth]
    omega
theorem shaped_ints (ns : List Int) : SeqAt.shaped (.list (ns.map PyData.int)) = true := by
  have h1 := depth_ints ns
  show (PyData.canLay0 (.list (ns.map PyData.int)) && decide (PyData.depth (.list (ns.map PyData.int)) ≤ 64)) = true
  rw [Bool.and_eq_true]
  refine ⟨by simp only [PyData.canLay0]; exact lay_ints ns, decide_eq_true ?_⟩
  simp only [PyData.depth]
  omega

theorem ne_nil {S : Sto} {a b : Nat} {ns : List Int} (h0 : S[a]? = some (.lst (ns.map .int))) (h1 : S[b]? = some (.lst [])) : gNe (.ref a) (.ref b) S = some (.bl (!ns.isEmpty), S) := by
  have d0 : toD S 40 (.ref a) = some (.list (ns.map PyData.int)) := by
    rw [show (40 : Nat) = 38 + 1 + 1 from rfl, toD]
    simp only [h0, mapO_ints, Option.map_some]
  have d1 : toD S 40 (.ref b) = some (.list []) := by
    rw [show (40 : Nat) = 38 + 1 + 1 from rfl, toD]
    simp only [h1, mapO, Option.map_some]
  unfold gNe eqA
  simp only [eqS, d0, d1, shaped_ints ns, show SeqAt.shaped (.list []) = true from by decide, and_self, if_true, Option.map_some]
  cases ns <;> rfl
theorem small_pow {x : Int} (h0 : 0 ≤ x) (h1 : x < 2 ^ 63) : CPow x 5 := ⟨by decide, by decide, by have : (2 : Int) ^ 63 = 9223372036854775808 := rfl; have : (2 : Nat) ^ 64 = 18446744073709551616 := rfl; omega⟩
theorem pow18 : CPow 10 18 := ⟨by decide, by decide, by decide⟩
theorem at_ints {L : List Int} {d : Int} (h0 : 0 ≤ d) (h1 : d < (L.length : Int)) : ∃ v, atI (L.map Val.int) d = some (.int v) ∧ v ∈ L := by
  obtain ⟨n, rfl⟩ := Int.eq_ofNat_of_zero_le h0
  have hn : n < L.length := by omega
  refine ⟨L[n], atI_nat (j := n) ?_, List.getElem_mem hn⟩
  rw [List.getElem?_map, List.getElem?_eq_getElem hn]
  rfl

end K37
namespace K37
open PySem PySem.Spec PyProof.Rows L2 G Th AL
structure Hs where
  name : Str
  slow : Fq
  fast : Fq
structure Lk where
  fr : Str
  to : Str
  least : Fq
  most : Option Fq
structure Fl where
  hs : List Hs
  ls : List Lk
  src : Str
inductive Dd where
  | mark | send (l : Nat) | hear (k : Nat)
structure Ev where
  name : Str
  stamp : Fq
  deed : Dd
abbrev Pr := Option Fq × Option Fq
structure Mv where
  x : Nat
  lo : Fq
  hi : Option Fq
def oV : Option Fq → Val
  | none => .non
  | some x => frV x
def prV (p : Pr) : Val := .tup [oV p.1, oV p.2]
def hsV (h : Hs) : Val := .tup [.str h.name, frV h.slow, frV h.fast]
def lkV (l : Lk) : Val := .tup [.str l.fr, .str l.to, frV l.least, oV l.most]
def flV (f : Fl) : Val := .tup [.tup (f.hs.map hsV), .tup (f.ls.map lkV), .str f.src]
def ddV : Dd → Val
  | .mark => .tup [.str "mark"]
  | .send l => .tup [.str "send", .int (l : Nat)]
  | .hear k => .tup [.str "hear", .int (k : Nat)]
def evV (e : Ev) : Val := .tup [.str e.name, frV e.stamp, ddV e.deed]
def hiV (f : Fl) (es : List Ev) : Val := .tup [flV f, .tup (es.map evV)]
def addO : Option Fq → Option Fq → Option Fq
  | some a, some b => some (Fr.add a b)
  | _, _ => none
def BdO (o : Option Fq) : Prop := ∀ x, o = some x → Bd x
def sel (b : Bool) (p : Pr) : Option Fq := if b then p.2 else p.1
theorem at_nat {α : Type} {xs : List α} {j : Nat} {v : α} (h : xs[j]? = some v) : atI xs (j : Int) = some v := atI_nat h
theorem map_get {α β : Type} {f : α → β} {xs : List α} {j : Nat} {v : α} (h : xs[j]? = some v) : (xs.map f)[j]? = some (f v) := by rw [List.getElem?_map, h]; rfl
def endOf (ps : List Pr) (b : Bool) (m : Mv) : Option Fq := addO (sel b (ps.getD m.x (none, none))) (sel b (some m.lo, m.hi))
end K37
namespace K37
open PySem PySem.Spec PyProof.Rows L2 G Th AL
def leastO (acc : Option Fq) (x : Fq) : Option Fq := match acc with
  | none => some x
  | some g => if x.1 * g.2 < g.1 * x.2 then some x else some g
def least (qs : List Fq) : Option Fq := qs.foldl leastO none
def greatestO (acc : Option Fq) (x : Fq) : Option Fq := match acc with
  | none => some x
  | some g => if g.1 * x.2 < x.1 * g.2 then some x else some g
def greatest (qs : List Fq) : Option Fq := qs.foldl greatestO none
def driftOf (fl : Fl) (n : Str) : Option Hs := fl.hs.find? fun h => decide (h.name = n)
end K37
namespace K37
open PySem PySem.Spec PyProof.Rows L2 G Th AL
theorem seq {g1 g2 : SF} {ρ ρ1 : Rho} {S S1 : Sto} (h : g1 ρ S = .nx ρ1 S1) : sSeq g1 g2 ρ S = g2 ρ1 S1 := by
  unfold sSeq
  rw [h]
def dEv : Ev := ⟨"a", (0, 1), .mark⟩
def linkAt (fl : Fl) (es : List Ev) (k : Nat) : Option Lk := match (es.getD k dEv).deed with
  | .send l => fl.ls[l]?
  | _ => none
def mv1 (fl : Fl) (es : List Ev) (last : Option Nat) (e : Ev) : List Mv := match last, driftOf fl e.name with
  | some j, some h => [⟨j, Fr.div (Fr.sub e.stamp (es.getD j dEv).stamp) h.fast, some (Fr.div (Fr.sub e.stamp (es.getD j dEv).stamp) h.slow)⟩]
  | _, _ => []
def mv2 (fl : Fl) (es : List Ev) : Dd → List Mv
  | .hear k => match linkAt fl es k with
    | some l => [⟨k, l.least, l.most⟩]
    | none => []
  | _ => []
def movesInto (fl : Fl) (es : List Ev) (last : Option Nat) (e : Ev) : List Mv := mv1 fl es last e ++ mv2 fl es e.deed
structure LastOk (fl : Fl) (es : List Ev) (e : Ev) (j : Nat) : Prop where
  lt : j < es.length
  h : ∃ h, driftOf fl e.name = some h ∧ 0 < h.fast.1 ∧ 0 < h.slow.1 ∧ Bd h.fast ∧ Bd h.slow
  st : Bd e.stamp
  so : Bd (es.getD j dEv).stamp
  go : Bd (Fr.sub e.stamp (es.getD j dEv).stamp)
structure HearOk (fl : Fl) (es : List Ev) (k : Nat) : Prop where
  lt : k < es.length
  h : ∃ l lk, (es.getD k dEv).deed = .send l ∧ fl.ls[l]? = some lk
end K37
namespace K37
open PySem PySem.Spec PyProof.Rows L2 G Th AL
def lastAt (es : List Ev) : Nat → Str → Option Nat
  | 0, _ => none
  | i + 1, n => if (es.getD i dEv).name = n then some i else lastAt es i n
theorem lastAt_lt {es : List Ev} {n : Str} : ∀ {i j : Nat}, lastAt es i n = some j → j < i
  | 0, _, h => by cases h
  | i + 1, j, h => by
    unfold lastAt at h
    split at h
    · cases h; omega
    · have := lastAt_lt h; omega
def row (fl : Fl) (es : List Ev) (i : Nat) : List Mv := movesInto fl es (lastAt es i (es.getD i dEv).name) (es.getD i dEv)
structure RowOk (fl : Fl) (es : List Ev) (i : Nat) : Prop where
  l : ∀ j, lastAt es i (es.getD i dEv).name = some j → LastOk fl es (es.getD i dEv) j
  d : ∀ k, (es.getD i dEv).deed = .hear k → HearOk fl es k ∧ k < i
end K37
local macro_rules | `(tactic| array_mem_dec) => `(tactic| first | assumption | (refine AL.Kn.at (by assumption) ?_; array_mem_dec) | (refine AL.Kx.at (by assumption) (by omega) ?_; array_mem_dec))
local macro_rules | `(tactic| sizeOf_list_dec) => `(tactic| ((with_reducible refine AL.brF ?_ ?_); exact rfl))
local macro_rules | `(tactic| sizeOf_list_dec) => `(tactic| ((with_reducible refine AL.brT ?_ ?_); exact rfl))
local macro_rules | `(tactic| sizeOf_list_dec) => `(tactic| ((with_reducible refine AL.sd ?_ ?_); first | exact rfl | exact of_decide_eq_true rfl | exact AL.isL_of (by array_mem_dec) | exact ⟨rfl, rfl⟩))
local macro_rules | `(tactic| sizeOf_list_dec) => `(tactic| ((with_reducible apply AL.bn); rfl; try dsimp only [List.set_cons_zero, List.set_cons_succ]))
local macro_rules | `(tactic| sizeOf_list_dec) => `(tactic| ((with_reducible apply AL.ti); rfl))
local macro_rules | `(tactic| sizeOf_list_dec) => `(tactic| ((with_reducible apply AL.tb); rfl))
local macro_rules | `(tactic| sizeOf_list_dec) => `(tactic| ((with_reducible apply AL.vIxL); rfl; rfl; array_mem_dec; rfl))
local macro_rules | `(tactic| sizeOf_list_dec) => `(tactic| ((with_reducible apply AL.vTupL); rfl; array_mem_dec))
local macro_rules | `(tactic| sizeOf_list_dec) => `(tactic| ((with_reducible apply AL.vLenL); rfl; array_mem_dec))
local macro_rules | `(tactic| sizeOf_list_dec) => `(tactic| ((with_reducible apply AL.vLenT); rfl))
local macro_rules | `(tactic| sizeOf_list_dec) => `(tactic| ((with_reducible apply AL.vMod); rfl; rfl))
local macro_rules | `(tactic| sizeOf_list_dec) => `(tactic| ((with_reducible apply AL.vDiv); rfl; rfl))
local macro_rules | `(tactic| sizeOf_list_dec) => `(tactic| ((with_reducible apply AL.vMul); rfl; rfl))
local macro_rules | `(tactic| sizeOf_list_dec) => `(tactic| ((with_reducible apply AL.vAbs); rfl))
local macro_rules | `(tactic| sizeOf_list_dec) => `(tactic| ((with_reducible apply AL.vNeg); rfl))
local macro_rules | `(tactic| sizeOf_list_dec) => `(tactic| ((with_reducible apply AL.vNe); rfl))
local macro_rules | `(tactic| sizeOf_list_dec) => `(tactic| ((with_reducible apply AL.vEq); rfl))
local macro_rules | `(tactic| sizeOf_list_dec) => `(tactic| ((with_reducible apply AL.vIsN); rfl))
local macro_rules | `(tactic| sizeOf_list_dec) => `(tactic| ((with_reducible apply AL.vIsi); rfl; first | exact AL.kit_int_int | exact AL.kit_int_bool | exact AL.kit_tuple_tuple | exact AL.kit_str_str | exact AL.kit_bool_bool | exact AL.kit_NoneType_tuple | exact AL.kit_NoneType_int | exact AL.kit_int_tuple | exact AL.kit_str_int | exact AL.kit_tuple_int))
local macro_rules | `(tactic| sizeOf_list_dec) => `(tactic| ((with_reducible apply AL.vIsNT); rfl; rfl))
local macro_rules | `(tactic| sizeOf_list_dec) => `(tactic| ((with_reducible apply AL.vIsT); rfl; rfl))
local macro_rules | `(tactic| sizeOf_list_dec) => `(tactic| ((with_reducible apply AL.vIs); rfl))
local macro_rules | `(tactic| sizeOf_list_dec) => `(tactic| ((with_reducible apply AL.vAdd); rfl; rfl))
local macro_rules | `(tactic| sizeOf_list_dec) => `(tactic| ((with_reducible apply AL.vI); rfl; rfl))
local macro_rules | `(tactic| sizeOf_list_dec) => `(tactic| ((with_reducible apply AL.vIxT); rfl; rfl; rfl))
local macro_rules | `(tactic| sizeOf_list_dec) => `(tactic| with_reducible refine AL.wiT ?_)
local macro_rules | `(tactic| sizeOf_list_dec) => `(tactic| with_reducible refine AL.wiE ?_)
local macro_rules | `(tactic| sizeOf_list_dec) => `(tactic| with_reducible refine AL.wiR2 ?_)
local macro_rules | `(tactic| sizeOf_list_dec) => `(tactic| with_reducible refine AL.wiR ?_)
local macro_rules | `(tactic| sizeOf_list_dec) => `(tactic| with_reducible refine AL.vGet2 ?_)
local macro_rules | `(tactic| sizeOf_list_dec) => `(tactic| with_reducible refine AL.vGet1 ?_)
local macro_rules | `(tactic| sizeOf_list_dec) => `(tactic| with_reducible refine AL.woS ?_)
local macro_rules | `(tactic| sizeOf_list_dec) => `(tactic| with_reducible refine AL.woN ?_)
local macro_rules | `(tactic| sizeOf_list_dec) => `(tactic| with_reducible refine AL.wSl ?_)
local macro_rules | `(tactic| sizeOf_list_dec) => `(tactic| with_reducible refine AL.wLc ?_)
local macro_rules | `(tactic| sizeOf_list_dec) => `(tactic| with_reducible refine AL.wDic ?_)
local macro_rules | `(tactic| sizeOf_list_dec) => `(tactic| with_reducible refine AL.wU ?_)
local macro_rules | `(tactic| sizeOf_list_dec) => `(tactic| with_reducible refine AL.weCh ?_)
local macro_rules | `(tactic| sizeOf_list_dec) => `(tactic| with_reducible refine AL.weI ?_)
local macro_rules | `(tactic| sizeOf_list_dec) => `(tactic| with_reducible refine AL.weN ?_)
local macro_rules | `(tactic| sizeOf_list_dec) => `(tactic| with_reducible refine AL.weO ?_)
local macro_rules | `(tactic| sizeOf_list_dec) => `(tactic| with_reducible refine AL.weA ?_)
local macro_rules | `(tactic| sizeOf_list_dec) => `(tactic| with_reducible refine AL.wbY ?_)
local macro_rules | `(tactic| sizeOf_list_dec) => `(tactic| with_reducible refine AL.wbN ?_)
local macro_rules | `(tactic| sizeOf_list_dec) => `(tactic| with_reducible refine AL.wbO ?_)
local macro_rules | `(tactic| sizeOf_list_dec) => `(tactic| with_reducible refine AL.wbA ?_)
local macro_rules | `(tactic| sizeOf_list_dec) => `(tactic| with_reducible refine AL.ws_nil ?_)
local macro_rules | `(tactic| sizeOf_list_dec) => `(tactic| with_reducible refine AL.ws_for ?_)
local macro_rules | `(tactic| sizeOf_list_dec) => `(tactic| with_reducible refine AL.ws_sub ?_)
local macro_rules | `(tactic| sizeOf_list_dec) => `(tactic| with_reducible refine AL.ws_par ?_)
local macro_rules | `(tactic| sizeOf_list_dec) => `(tactic| with_reducible refine AL.ws_expr ?_)
local macro_rules | `(tactic| sizeOf_list_dec) => `(tactic| with_reducible refine AL.wMt ?_)
local macro_rules | `(tactic| sizeOf_list_dec) => `(tactic| with_reducible refine AL.wLst ?_)
local macro_rules | `(tactic| sizeOf_list_dec) => `(tactic| with_reducible refine AL.wTup ?_)
local macro_rules | `(tactic| sizeOf_list_dec) => `(tactic| with_reducible refine AL.wiZ ?_)
local macro_rules | `(tactic| sizeOf_list_dec) => `(tactic| with_reducible refine AL.wDefK ?_)
local macro_rules | `(tactic| sizeOf_list_dec) => `(tactic| with_reducible refine AL.wCall ?_)
local macro_rules | `(tactic| sizeOf_list_dec) => `(tactic| with_reducible refine AL.wDef ?_)
local macro_rules | `(tactic| sizeOf_list_dec) => `(tactic| with_reducible refine AL.wT ?_)
local macro_rules | `(tactic| sizeOf_list_dec) => `(tactic| with_reducible refine AL.ws_ret ?_)
local macro_rules | `(tactic| sizeOf_list_dec) => `(tactic| with_reducible refine AL.ws_if ?_)
local macro_rules | `(tactic| sizeOf_list_dec) => `(tactic| with_reducible refine AL.ws_asg ?_)
local macro_rules | `(tactic| sizeOf_list_dec) => `(tactic| with_reducible refine AL.wa0 ?_)
local macro_rules | `(tactic| sizeOf_list_dec) => `(tactic| with_reducible refine AL.wa1 ?_)
local macro_rules | `(tactic| sizeOf_list_dec) => `(tactic| with_reducible refine AL.wc ?_)
local macro_rules | `(tactic| sizeOf_list_dec) => `(tactic| with_reducible refine AL.wB ?_)
local macro_rules | `(tactic| sizeOf_list_dec) => `(tactic| ((with_reducible apply AL.wv); rfl))
local macro_rules | `(tactic| sizeOf_list_dec) => `(tactic| with_reducible refine AL.ws_seq ?_)
local macro_rules | `(tactic| array_get_dec) => `(tactic| repeat sizeOf_list_dec)
namespace K37
open PySem PySem.Spec PyProof.Rows L2 G Th AL
def keptOf (fl : Fl) (e : Ev) (ms : List Mv) (ps : List Pr) : Pr := if e.name = fl.src then (some e.stamp, some e.stamp) else (greatest (ms.filterMap (endOf ps false)), least (ms.filterMap (endOf ps true)))
def pairsUp (fl : Fl) (es : List Ev) : Nat → List Pr
  | 0 => []
  | i + 1 => pairsUp fl es i ++ [keptOf fl (es.getD i dEv) (row fl es i) (pairsUp fl es i)]
end K37
namespace K37
open PySem PySem.Spec PyProof.Rows L2 G Th AL
def l1 (fl : Fl) (es : List Ev) (ps : List Pr) (b : Bool) (i : Nat) : Option Fq := ((mv1 fl es (lastAt es i (es.getD i dEv).name) (es.getD i dEv)).filterMap (endOf ps b)).head?
end K37
namespace K37
open PySem PySem.Spec PyProof.Rows L2 G Th AL
def a1 (fl : Fl) (es : List Ev) (i : Nat) (b : Bool) : Option Fq := match lastAt es i (es.getD i dEv).name, driftOf fl (es.getD i dEv).name with
  | some j, some h => endOf (pairsUp fl es i) b ⟨j, Fr.div (Fr.sub (es.getD i dEv).stamp (es.getD j dEv).stamp) h.fast, some (Fr.div (Fr.sub (es.getD i dEv).stamp (es.getD j dEv).stamp) h.slow)⟩
  | _, _ => none
def a2 (fl : Fl) (es : List Ev) (i : Nat) (b : Bool) : Option Fq := match (es.getD i dEv).deed with
  | .hear k => match linkAt fl es k with
    | some l => endOf (pairsUp fl es i) b ⟨k, l.least, l.most⟩
    | none => none
  | _ => none
section
variable {fl : Fl} {es : List Ev} {i : Nat} {A B C : Nat} {T : Sto} {h : Hs} {d : List (Key × Val)}
end
end K37
namespace K37
open PySem PySem.Spec PyProof.Rows L2 G Th AL
section
variable {fl : Fl} {es : List Ev} {i : Nat} {A B C : Nat} {T : Sto} {h : Hs} {d : List (Key × Val)}
end
end K37
namespace K37
open PySem PySem.Spec PyProof.Rows L2 G Th AL
end K37
namespace K37
open PySem PySem.Spec PyProof.Rows L2 G Th AL
def slows : List Fq := [(1, 1), (1, 2), (3, 4)]
def fasts : List Fq := [(1, 1), (5, 4), (3, 2), (2, 1)]
def TxOk (x : Str) : Prop := PyData.strOk x = true ∧ x.cps.size ≤ 8
def leasts : List Fq := [(0, 1), (1, 2), (1, 1), (2, 1)]
def mores : List (Option Fq) := [none, some (0, 1), some (1, 1), some (3, 1)]

def LkS (l : Lk) : Prop := (l.least ∈ leasts ∧ l.fr ≠ l.to) ∧ ∀ m, l.most = some m → ∃ x, some x ∈ mores ∧ m = Fr.add l.least x
structure FlOk (fl : Fl) : Prop where
  nd : (fl.hs.map Hs.name).Nodup
  ne : 0 < fl.hs.length
  few : fl.hs.length ≤ 6
  rate : ∀ h ∈ fl.hs, h.slow ∈ slows ∧ h.fast ∈ fasts
  lk : ∀ l ∈ fl.ls, Fr.Ok 4 l.least ∧ ∀ m, l.most = some m → Fr.Ok 10 m
  lfew : fl.ls.length ≤ 8
  tx : (∀ h ∈ fl.hs, TxOk h.name) ∧ (∀ l ∈ fl.ls, TxOk l.fr ∧ TxOk l.to) ∧ TxOk fl.src
  one : ∀ h ∈ fl.hs, h.name = fl.src → h.slow = (1, 1) ∧ h.fast = (1, 1)
  lks : ∀ l ∈ fl.ls, LkS l
def StOk (x : Fq) : Prop := ∃ k : Int, x = Fr.mk k 4 ∧ k.natAbs ≤ 1000
structure EvOk (fl : Fl) (es : List Ev) (i : Nat) : Prop where
  name : (es.getD i dEv).name ∈ fl.hs.map Hs.name
  st : StOk (es.getD i dEv).stamp
  send : ∀ l, (es.getD i dEv).deed = .send l → l < fl.ls.length
  hear : ∀ k, (es.getD i dEv).deed = .hear k → k < i ∧ ∃ l, (es.getD k dEv).deed = .send l
structure HV (fl : Fl) (es : List Ev) : Prop where
  len : es.length ≤ 30
  ev : ∀ i, i < es.length → EvOk fl es i
theorem StOk.ok {x : Fq} (h : StOk x) : Fr.Ok 10 x := by
  obtain ⟨k, rfl, hk⟩ := h
  exact Fr.mk_ok (by decide) (Nat.lt_of_le_of_lt hk (by decide)) (by decide)
theorem Bd.of {n : Nat} {x : Fq} (h : Fr.Ok n x) (hn : n ≤ 900) : Bd x := ⟨h.pos, Fr.bmono h.b1 hn, Fr.bmono h.b2 hn⟩
theorem slow_ok {x : Fq} (h : x ∈ slows) : Fr.Ok 3 x ∧ 0 < x.1 := by
  simp only [slows, List.mem_cons, List.not_mem_nil, or_false] at h
  rcases h with rfl | rfl | rfl <;> exact ⟨⟨by decide, by decide, by decide, by decide⟩, by decide⟩
theorem fast_ok {x : Fq} (h : x ∈ fasts) : Fr.Ok 3 x ∧ 0 < x.1 := by
  simp only [fasts, List.mem_cons, List.not_mem_nil, or_false] at h
  rcases h with rfl | rfl | rfl | rfl <;> exact ⟨⟨by decide, by decide, by decide, by decide⟩, by decide⟩
theorem drift_some {fl : Fl} {n : Str} (h : n ∈ fl.hs.map Hs.name) : ∃ x, driftOf fl n = some x ∧ x ∈ fl.hs := by
  obtain ⟨y, hy, rfl⟩ := List.mem_map.mp h
  unfold driftOf
  cases e : fl.hs.find? (fun z => decide (z.name = y.name)) with
  | none =>
    rw [List.find?_eq_none] at e
    exact absurd (decide_eq_true rfl) (e y hy)
  | some x => exact ⟨x, rfl, List.mem_of_find?_eq_some e⟩
section
variable {fl : Fl} {es : List Ev}
def POk (n : Nat) (p : Pr) : Prop := ∀ b x, sel b p = some x → Fr.Ok n x
end
end K37
namespace K37
open PySem PySem.Spec PyProof.Rows L2 G Th AL
theorem Tp.fr {S S' : Sto} {B : Int} (h : Tp S B) (k : Kn S S') : Tp S' B := by
  obtain ⟨ns, i, q, n, h0, h1, r⟩ := h.ex
  exact ⟨ns, i, q, n, k _ _ h0, k _ _ h1, r⟩
theorem Fr1.len {S S' : Sto} (h : Fr1 S S') (h2 : 2 < S.length) : S.length ≤ S'.length := by
  have l : S.length - 1 < S.length := by omega
  have := h (S.length - 1) _ (by omega) (List.getElem?_eq_getElem l)
  have := (List.getElem?_eq_some_iff.mp this).1
  omega

end K37
namespace K37
open PySem PySem.Spec PyProof.Rows L2 G Th AL
theorem p40 : (2 : Int) ^ 40 = 1099511627776 := by decide
theorem p60 : (2 : Int) ^ 60 = 1152921504606846976 := by decide
theorem p62 : (2 : Int) ^ 62 = 4611686018427387904 := by decide
section
variable {ρ : Rho} {T : Sto} {B : Int}
end
section
variable {T : Sto} {B : Int} {P N Hh L : Nat} {sr : Str} {nm : List Str} {y3 y4 y8 y9 y10 y11 y12 y13 : Option Val}
end
end K37
namespace K37
open PySem PySem.Spec PyProof.Rows L2 G Th AL
end K37
namespace K37
open PySem PySem.Spec PyProof.Rows L2 G Th AL
def natV (k : Nat) : Val := .int ((k : Nat) : Int)
end K37
namespace K37
open PySem PySem.Spec PyProof.Rows L2 G Th AL
def Qk (x : Fq) (n : Nat) : Prop := ∃ k : Int, x = Fr.mk k 4 ∧ k.natAbs ≤ n
theorem Qk.ok {x : Fq} {n : Nat} (h : Qk x n) (hn : n ≤ 1000) : Fr.Ok 10 x := by
  obtain ⟨k, rfl, hk⟩ := h
  exact Fr.mk_ok (by decide) (Nat.lt_of_le_of_lt (Nat.le_trans hk hn) (by decide)) (by decide)
theorem Qk.mono {x : Fq} {n m : Nat} (h : Qk x n) (hn : n ≤ m) : Qk x m := by
  obtain ⟨k, e, hk⟩ := h
  exact ⟨k, e, by omega⟩
theorem mk_int (x : Int) : Fr.mk (x * 4) 4 = (x, 1) := by
  rw [Fr.mk_eq (c := x) (d := 1) (by decide) (by decide) (by omega)]
  exact Fr.mk_self (by decide) (by simp)
theorem Qk.int {x : Int} {n : Nat} (h : x.natAbs * 4 ≤ n) : Qk (x, 1) n := ⟨x * 4, (mk_int x).symm, by rw [Int.natAbs_mul]; exact h⟩
theorem Qk.add {x y : Fq} {n m : Nat} (hx : Qk x n) (hy : Qk y m) : Qk (Fr.add x y) (n + m) := by
  obtain ⟨k, rfl, hk⟩ := hx
  obtain ⟨l, rfl, hl⟩ := hy
  refine ⟨k + l, ?_, by omega⟩
  have i1 : Fr.Is (Fr.mk k 4) k 4 := ⟨rfl, by decide⟩
  have i2 : Fr.Is (Fr.mk l 4) l 4 := ⟨rfl, by decide⟩
  exact (i1.add i2).same ⟨rfl, by decide⟩ (by omega)
theorem getD_l {es : List Ev} {e : Ev} {j : Nat} (h : j < es.length) : (es ++ [e]).getD j dEv = es.getD j dEv := by
  simp [List.getD, List.getElem?_append_left h]
theorem getD_r {es : List Ev} {e : Ev} : (es ++ [e]).getD es.length dEv = e := by
  simp [List.getD]
end K37
namespace K37
open PySem PySem.Spec PyProof.Rows L2 G Th AL
end K37
namespace Fr
def q (p : Int × Int) : Rat := (p.1 : Rat) / (p.2 : Rat)
variable {p r : Int × Int} {a b : Int}
theorem c0 (h : b ≠ 0) : (b : Rat) ≠ 0 := fun z => h (Rat.intCast_eq_zero_iff.mp z)
theorem div_eq {a b c d : Int} (hb : b ≠ 0) (hd : d ≠ 0) (e : a * d = c * b) : (a : Rat) / (b : Rat) = (c : Rat) / (d : Rat) := by
  have h1 := c0 hb
  have h2 := c0 hd
  have h3 : (a : Rat) * (d : Rat) = (c : Rat) * (b : Rat) := by
    rw [← Rat.intCast_mul, ← Rat.intCast_mul, e]
  grind
theorem q_mk (h : b ≠ 0) : q (mk a b) = (a : Rat) / (b : Rat) := div_eq (by have := mk_pos (a := a) h; omega) h (mk_cross h)
theorem q_int (a : Int) : q (a, 1) = (a : Rat) := by
  unfold q
  show (a : Rat) / ((1 : Int) : Rat) = _
  rw [Rat.intCast_one]
  grind
end Fr
namespace KL
open PySem PySem.Spec PyProof.Rows L2 G Th AL K37 Fr
theorem _root_.K37.Tp.kx {S T : Sto} {B : Int} {n : Nat} (h : Tp S B) (k : Kx n S T) (hn : 2 ≤ n) : Tp T B := by
  obtain ⟨ns, i, q, n, h0, h1, r⟩ := h.ex
  exact ⟨ns, i, q, n, k _ _ (by omega) h0, k _ _ (by omega) h1, r⟩
def Can (fl : Fl) (es : List Ev) (hrs : List Int) (t : Int) (k : Nat) : Prop := k < es.length ∧ ∃ l lk, (es.getD k dEv).deed = .send l ∧ fl.ls[l]? = some lk ∧ q lk.least ≤ ((t - hrs.getD k 0 : Int) : Rat) ∧ ∀ m, lk.most = some m → ((t - hrs.getD k 0 : Int) : Rat) ≤ q m
end KL
namespace KL
open PySem PySem.Spec PyProof.Rows L2 G Th AL K37 Fr

structure Tru (fl : Fl) (es : List Ev) (bg : Int) (hrs : List Int) : Prop where
  len : hrs.length = es.length
  src : ∀ j, j < es.length → (es.getD j dEv).name = fl.src → q (es.getD j dEv).stamp = ((bg + hrs.getD j 0 : Int) : Rat)
  go : ∀ j i h, j < es.length → lastAt es j (es.getD j dEv).name = some i → driftOf fl (es.getD j dEv).name = some h →
    q h.slow * ((hrs.getD j 0 - hrs.getD i 0 : Int) : Rat) ≤ q (es.getD j dEv).stamp - q (es.getD i dEv).stamp ∧ q (es.getD j dEv).stamp - q (es.getD i dEv).stamp ≤ q h.fast * ((hrs.getD j 0 - hrs.getD i 0 : Int) : Rat) ∧ hrs.getD i 0 ≤ hrs.getD j 0
  hear : ∀ j k, j < es.length → (es.getD j dEv).deed = .hear k → Can fl (es.take j) hrs (hrs.getD j 0) k

theorem lastAt_app {es : List Ev} {e : Ev} {n : Str} : ∀ j, j ≤ es.length → lastAt (es ++ [e]) j n = lastAt es j n
  | 0, _ => rfl
  | j + 1, h => by
    rw [lastAt, lastAt, getD_l (by omega), lastAt_app j (by omega)]
theorem hget_l {hrs : List Int} {x : Int} {j : Nat} (h : j < hrs.length) : (hrs ++ [x]).getD j 0 = hrs.getD j 0 := by
  simp [List.getD, List.getElem?_append_left h]
theorem hget_r {hrs : List Int} {x : Int} : (hrs ++ [x]).getD hrs.length 0 = x := by
  simp [List.getD]
theorem Can.app {fl : Fl} {es es' : List Ev} {hrs hrs' : List Int} {t : Int} {k : Nat} (h : Can fl es hrs t k) (h1 : ∀ k, k < es.length → es'.getD k dEv = es.getD k dEv ∧ hrs'.getD k 0 = hrs.getD k 0) (h2 : es.length ≤ es'.length) : Can fl es' hrs' t k := by
  obtain ⟨hk, l, lk, a, b, c, d⟩ := h
  obtain ⟨e1, e2⟩ := h1 k hk
  exact ⟨by omega, l, lk, by rw [e1]; exact a, b, by rw [e2]; exact c, by rw [e2]; exact d⟩
theorem Tru.snoc {fl : Fl} {es : List Ev} {bg : Int} {hrs : List Int} {e : Ev} {x : Int} (T : Tru fl es bg hrs) (h1 : e.name = fl.src → q e.stamp = ((bg + x : Int) : Rat))
    (h2 : ∀ i h, lastAt es es.length e.name = some i → driftOf fl e.name = some h → q h.slow * ((x - hrs.getD i 0 : Int) : Rat) ≤ q e.stamp - q (es.getD i dEv).stamp ∧ q e.stamp - q (es.getD i dEv).stamp ≤ q h.fast * ((x - hrs.getD i 0 : Int) : Rat) ∧ hrs.getD i 0 ≤ x)
    (h3 : ∀ k, e.deed = .hear k → Can fl es hrs x k) : Tru fl (es ++ [e]) bg (hrs ++ [x]) := by
  have hl := T.len
  refine ⟨by simp [hl], fun j hj hn => ?_, fun j i h hj hi hd => ?_, fun j k hj hd => ?_⟩
  · by_cases z : j < es.length
    · rw [getD_l z] at hn ⊢
      rw [hget_l (by omega)]
      exact T.src j z hn
    · have : j = es.length := by simp at hj; omega
      subst this
      rw [getD_r] at hn ⊢
      rw [← hl, hget_r]
      exact h1 hn
  · by_cases z : j < es.length
    · rw [getD_l z] at hi hd ⊢
      rw [lastAt_app _ (by omega)] at hi
      have := lastAt_lt hi
      rw [hget_l (by omega), hget_l (by omega), getD_l (by omega)]
      exact T.go j i h z hi hd
    · have : j = es.length := by simp at hj; omega
      subst this
      rw [getD_r] at hi hd ⊢
      rw [lastAt_app _ (Nat.le_refl _)] at hi
      have := lastAt_lt hi
      rw [getD_l (by omega), hget_l (j := i) (by omega), ← hl, hget_r]
      exact h2 i h hi hd
  · by_cases z : j < es.length
    · rw [getD_l z] at hd
      rw [hget_l (by omega), List.take_append_of_le_length (by omega)]
      refine (T.hear j k z hd).app (fun k hk => ⟨rfl, hget_l ?_⟩) (Nat.le_refl _)
      rw [List.length_take] at hk
      omega
    · have : j = es.length := by simp at hj; omega
      subst this
      rw [getD_r] at hd
      rw [← hl, hget_r, hl, List.take_append_of_le_length (Nat.le_refl _), List.take_length]
      exact (h3 k hd).app (fun k hk => ⟨rfl, hget_l (by omega)⟩) (Nat.le_refl _)
theorem q11 : q ((1, 1) : Fq) = 1 := by rw [q_int]; rfl
theorem slow_le {x : Fq} (h : x ∈ slows) : q x ≤ 1 ∧ 0 < q x := by
  simp only [slows, List.mem_cons, List.not_mem_nil, or_false] at h
  rcases h with rfl | rfl | rfl <;> exact ⟨by decide +kernel, by decide +kernel⟩
end KL
namespace K37
open PySem PySem.Spec PyProof.Rows L2 G Th AL
end K37
namespace K37
open PySem PySem.Spec PyProof.Rows L2 G Th AL
end K37
namespace K37
open PySem PySem.Spec PyProof.Rows L2 G Th AL
end K37
namespace K37
open PySem PySem.Spec PyProof.Rows L2 G Th AL

def Sh (n w : Nat) (v : Val) : Prop := ∃ d : PyData, okD d = true ∧ d.weight ≤ w ∧ d.depth ≤ n ∧ ∀ (S : Sto) (k : Nat), n < k → toD S k v = some d
def ShL (n w : Nat) (vs : List Val) : Prop := ∃ ds : List PyData, okAll ds = true ∧ PyData.weightAll ds ≤ w ∧ PyData.depthAll ds ≤ n ∧ ∀ (S : Sto) (k : Nat), n < k → mapO (toD S k) vs = some ds
theorem Sh.mono {n w n' w' : Nat} {v : Val} (h : Sh n w v) (hn : n ≤ n') (hw : w ≤ w') : Sh n' w' v := by
  obtain ⟨d, h1, h2, h3, h4⟩ := h
  exact ⟨d, h1, by omega, by omega, fun S k hk => h4 S k (by omega)⟩
theorem ShL.nil {n w : Nat} : ShL n w [] := ⟨[], rfl, by simp [PyData.weightAll], by simp [PyData.depthAll], fun S k hk => rfl⟩
theorem ShL.cons {n w w' : Nat} {v : Val} {vs : List Val} (h : Sh n w v) (hs : ShL n w' vs) : ShL n (w + 1 + w') (v :: vs) := by
  obtain ⟨d, h1, h2, h3, h4⟩ := h
  obtain ⟨ds, g1, g2, g3, g4⟩ := hs
  refine ⟨d :: ds, ?_, ?_, ?_, fun S k hk => ?_⟩
  · show (okD d && okAll ds) = true
    rw [h1, g1]
    rfl
  · show d.weight + 1 + PyData.weightAll ds ≤ _
    omega
  · simp only [PyData.depthAll]
    omega
  · unfold mapO
    rw [h4 S k hk, g4 S k hk]
    rfl
theorem ShL.snoc {n w' : Nat} {v : Val} : ∀ {vs : List Val} {w : Nat}, ShL n w vs → Sh n w' v → ShL n (w + (w' + 1)) (vs ++ [v]) := by
  intro vs w hs h
  obtain ⟨d, h1, h2, h3, h4⟩ := h
  obtain ⟨ds, g1, g2, g3, g4⟩ := hs
  refine ⟨ds ++ [d], ?_, ?_, ?_, fun S k hk => ?_⟩
  · rw [okAll_iff] at g1 ⊢
    intro x hx
    rcases List.mem_append.mp hx with hx | hx
    · exact g1 x hx
    · simp only [List.mem_singleton] at hx
      rw [hx]
      exact h1
  · have : ∀ xs : List PyData, PyData.weightAll (xs ++ [d]) = PyData.weightAll xs + (d.weight + 1) := by
      intro xs
      induction xs with
      | nil => simp [PyData.weightAll]
      | cons x xs ih =>
        simp only [List.cons_append, PyData.weightAll, ih]
        omega
    rw [this]
    omega
  · have : ∀ xs : List PyData, PyData.depthAll xs ≤ n → PyData.depthAll (xs ++ [d]) ≤ n := by
      intro xs
      induction xs with
      | nil =>
        intro _
        simp only [List.nil_append, PyData.depthAll]
        omega
      | cons x xs ih =>
        intro hx
        simp only [List.cons_append, PyData.depthAll] at hx ⊢
        have := ih (by omega)
        omega
    exact this ds g3
  · have : ∀ (us : List Val) (es : List PyData), mapO (toD S k) us = some es → mapO (toD S k) (us ++ [v]) = some (es ++ [d]) := by
      intro us
      induction us with
      | nil =>
        intro es he
        cases he
        simp only [List.nil_append, mapO, h4 S k hk, Option.bind_some]
      | cons u us ih =>
        intro es he
        simp only [mapO] at he
        obtain ⟨b, e1, e2⟩ := Option.bind_eq_some_iff.mp he
        obtain ⟨bs, e3, e4⟩ := Option.bind_eq_some_iff.mp e2
        cases e4
        simp only [List.cons_append, mapO, e1, ih bs e3, Option.bind_some]
    exact this vs ds (g4 S k hk)
theorem ShL.mono {n w n' w' : Nat} {vs : List Val} (h : ShL n w vs) (hn : n ≤ n') (hw : w ≤ w') : ShL n' w' vs := by
  obtain ⟨d, h1, h2, h3, h4⟩ := h
  exact ⟨d, h1, by omega, by omega, fun S k hk => h4 S k (by omega)⟩
theorem ShL.map {α : Type} {n w : Nat} {f : α → Val} : ∀ xs : List α, (∀ x ∈ xs, Sh n w (f x)) → ShL n ((w + 1) * xs.length) (xs.map f)
  | [], _ => ShL.nil
  | x :: xs, h => by
    have := ShL.cons (h x (by simp)) (ShL.map xs fun y hy => h y (by simp [hy]))
    refine this.mono (Nat.le_refl _) ?_
    rw [List.length_cons, Nat.mul_succ]
    omega
theorem ShL.tup {n w : Nat} {vs : List Val} (h : ShL n w vs) : Sh (n + 1) w (.tup vs) := by
  obtain ⟨ds, g1, g2, g3, g4⟩ := h
  refine ⟨.tuple ds, g1, ?_, ?_, fun S k hk => ?_⟩
  · show PyData.weightAll ds ≤ w
    exact g2
  · simp only [PyData.depth]
    omega
  · obtain ⟨k, rfl⟩ : ∃ j, k = j + 1 := ⟨k - 1, by omega⟩
    show (mapO (toD S k) vs).map PyData.tuple = _
    rw [g4 S k (by omega)]
    rfl
theorem Sh.int {i : Int} {b : Nat} (h : i.natAbs < 2 ^ b) (hb : b ≤ 900) : Sh 0 b (.int i) := by
  have h9 : i.natAbs < 2 ^ 900 := Nat.lt_of_lt_of_le h (Nat.pow_le_pow_right (by decide) hb)
  refine ⟨.int i, decide_eq_true h9, ?_, by simp [PyData.depth], fun S k hk => ?_⟩
  · unfold PyData.weight
    split
    · omega
    · next e =>
      have h0 : i.natAbs ≠ 0 := by
        intro z
        apply e
        rw [Int.natAbs_eq_zero.mp z]
        rfl
      have := (Nat.log2_lt h0).mpr h
      omega
  · obtain ⟨k, rfl⟩ : ∃ j, k = j + 1 := ⟨k - 1, by omega⟩
    rfl
theorem Sh.non {n w : Nat} : Sh n w .non := by
  refine ⟨.none, rfl, by simp [PyData.weight], by simp [PyData.depth], fun S k hk => ?_⟩
  obtain ⟨k, rfl⟩ : ∃ j, k = j + 1 := ⟨k - 1, by omega⟩
  rfl
theorem Sh.str {x : Str} (h : TxOk x) : Sh 0 8 (.str x) := by
  refine ⟨.str x, h.1, by simp only [PyData.weight]; exact h.2, by simp [PyData.depth], fun S k hk => ?_⟩
  obtain ⟨k, rfl⟩ : ∃ j, k = j + 1 := ⟨k - 1, by omega⟩
  rfl
theorem Sh.fr {x : Fq} {n : Nat} (h : Fr.Ok n x) (hn : n ≤ 900) : Sh 1 (2 * n + 2) (frV x) := by
  have := (ShL.cons (Sh.int h.b1 hn) (ShL.cons (Sh.int h.b2 hn) (ShL.nil (w := 0)))).tup
  exact this.mono (by omega) (by omega)
theorem Sh.o {x : Option Fq} {n : Nat} (h : ∀ q, x = some q → Fr.Ok n q) (hn : n ≤ 900) : Sh 1 (2 * n + 2) (oV x) := by
  cases x with
  | none => exact Sh.non
  | some q => exact Sh.fr (h q rfl) hn
theorem Sh.pr {p : Pr} {n : Nat} (h : POk n p) (hn : n ≤ 900) : Sh 2 (4 * n + 6) (prV p) := by
  have a : Sh 1 (2 * n + 2) (oV p.1) := Sh.o (fun q hq => h false q hq) hn
  have b : Sh 1 (2 * n + 2) (oV p.2) := Sh.o (fun q hq => h true q hq) hn
  have := (ShL.cons a (ShL.cons b (ShL.nil (w := 0)))).tup
  exact this.mono (by omega) (by omega)
theorem Sh.hs {h : Hs} (t : TxOk h.name) (a : h.slow ∈ slows) (b : h.fast ∈ fasts) : Sh 2 40 (hsV h) := by
  have := (ShL.cons (Sh.str t |>.mono (n' := 1) (by omega) (Nat.le_refl _)) (ShL.cons (Sh.fr (slow_ok a).1 (by decide)) (ShL.cons (Sh.fr (fast_ok b).1 (by decide)) (ShL.nil (w := 0))))).tup
  exact this.mono (by omega) (by omega)
theorem Sh.lk {l : Lk} (t : TxOk l.fr) (t2 : TxOk l.to) (a : Fr.Ok 4 l.least) (b : ∀ m, l.most = some m → Fr.Ok 10 m) : Sh 2 100 (lkV l) := by
  have := (ShL.cons (Sh.str t |>.mono (n' := 1) (by omega) (Nat.le_refl _)) (ShL.cons (Sh.str t2 |>.mono (n' := 1) (by omega) (Nat.le_refl _)) (ShL.cons (Sh.fr a (by decide)) (ShL.cons (Sh.o b (by decide)) (ShL.nil (w := 0)))))).tup
  exact this.mono (by omega) (by omega)
theorem Sh.fl {fl : Fl} (fo : FlOk fl) : Sh 4 2000 (flV fl) := by
  have h1 := (ShL.map (f := hsV) fl.hs fun h hh => Sh.hs (fo.tx.1 h hh) (fo.rate h hh).1 (fo.rate h hh).2).tup
  have h2 := (ShL.map (f := lkV) fl.ls fun l hl => Sh.lk (fo.tx.2.1 l hl).1 (fo.tx.2.1 l hl).2 (fo.lk l hl).1 (fo.lk l hl).2).tup
  have h3 := Sh.str fo.tx.2.2
  have a := fo.few
  have b := fo.lfew
  have := (ShL.cons h1 (ShL.cons h2 (ShL.cons (h3.mono (n' := 3) (by omega) (Nat.le_refl _)) (ShL.nil (w := 0))))).tup
  exact this.mono (by omega) (by omega)
theorem Sh.dd {d : Dd} (h : ∀ l, d = .send l → l < 8) (h2 : ∀ k, d = .hear k → k < 30) : Sh 1 20 (ddV d) := by
  have k1 : TxOk (Str.ofString "mark") := ⟨by decide +kernel, by decide +kernel⟩
  have k2 : TxOk (Str.ofString "send") := ⟨by decide +kernel, by decide +kernel⟩
  have k3 : TxOk (Str.ofString "hear") := ⟨by decide +kernel, by decide +kernel⟩
  cases d with
  | mark => exact (ShL.cons (Sh.str k1) (ShL.nil (w := 0))).tup.mono (by omega) (by omega)
  | send l =>
    have := h l rfl
    have i : Sh 0 5 (.int ((l : Nat) : Int)) := Sh.int (by have : (2 : Nat) ^ 5 = 32 := rfl; omega) (by decide)
    exact (ShL.cons (Sh.str k2) (ShL.cons i (ShL.nil (w := 0)))).tup.mono (by omega) (by omega)
  | hear k =>
    have := h2 k rfl
    have i : Sh 0 5 (.int ((k : Nat) : Int)) := Sh.int (by have : (2 : Nat) ^ 5 = 32 := rfl; omega) (by decide)
    exact (ShL.cons (Sh.str k3) (ShL.cons i (ShL.nil (w := 0)))).tup.mono (by omega) (by omega)
theorem Sh.hi {fl : Fl} {es : List Ev} (fo : FlOk fl) (hv : HV fl es) : Sh 5 5000 (hiV fl es) := by
  have l30 := hv.len
  have ev : ∀ e ∈ es, Sh 2 60 (evV e) := by
    intro e he
    obtain ⟨i, hi, rfl⟩ := List.getElem_of_mem he
    have g : es.getD i dEv = es[i] := by simp [List.getD, List.getElem?_eq_getElem hi]
    have ok := hv.ev i hi
    have nm := ok.name
    rw [g] at nm
    obtain ⟨h, hh, e1⟩ := List.mem_map.mp nm
    have tx : TxOk es[i].name := by rw [← e1]; exact fo.tx.1 h hh
    have st := ok.st.ok
    rw [g] at st
    have d := Sh.dd (d := es[i].deed) (fun l hl => by have := ok.send l (by rw [g]; exact hl); have := fo.lfew; omega) (fun k hk => by have := (ok.hear k (by rw [g]; exact hk)).1; omega)
    have := (ShL.cons ((Sh.str tx).mono (n' := 1) (by omega) (Nat.le_refl _)) (ShL.cons (Sh.fr st (by decide)) (ShL.cons d (ShL.nil (w := 0))))).tup
    exact this.mono (by omega) (by omega)
  have h2 := (ShL.map (f := evV) es ev).tup
  have := (ShL.cons (Sh.fl fo) (ShL.cons (h2.mono (n' := 4) (w' := 1900) (by omega) (by omega)) (ShL.nil (w := 0)))).tup
  exact this.mono (by omega) (by omega)

end K37
namespace KL
open PySem PySem.Spec PyProof.Rows L2 G Th AL K37 Fr
section
variable {fl : Fl} {es : List Ev} {bg : Int} {hrs : List Int}
theorem div_le {a b d : Rat} (hb : 0 < b) (h : a ≤ b * d) : a / b ≤ d := by
  apply Rat.not_lt.mp
  intro z
  rw [Rat.lt_div_iff' hb] at z
  exact absurd h (Rat.not_le.mpr z)
theorem le_div {a b d : Rat} (hb : 0 < b) (h : b * d ≤ a) : d ≤ a / b := by
  apply Rat.not_lt.mp
  intro z
  rw [Rat.div_lt_iff' hb] at z
  exact absurd h (Rat.not_le.mpr z)
end

theorem lastAt_congr {es es' : List Ev} {n : Str} : ∀ i, (∀ j, j < i → (es'.getD j dEv).name = (es.getD j dEv).name) → lastAt es' i n = lastAt es i n
  | 0, _ => rfl
  | i + 1, h => by
    rw [lastAt, lastAt, h i (by omega), lastAt_congr i fun j hj => h j (by omega)]

structure Mk (es es' : List Ev) (a : Nat) : Prop where
  len : es'.length = es.length
  hear : ∃ k, (es.getD a dEv).deed = .hear k
  at_ : es'.getD a dEv = ⟨(es.getD a dEv).name, (es.getD a dEv).stamp, .mark⟩
  off : ∀ j, j ≠ a → es'.getD j dEv = es.getD j dEv
section
variable {fl : Fl} {es es' : List Ev} {a : Nat}
theorem Mk.name (M : Mk es es' a) (j : Nat) : (es'.getD j dEv).name = (es.getD j dEv).name ∧ (es'.getD j dEv).stamp = (es.getD j dEv).stamp := by
  by_cases z : j = a
  · subst z
    rw [M.at_]
    exact ⟨rfl, rfl⟩
  · rw [M.off j z]
    exact ⟨rfl, rfl⟩
theorem Mk.send (M : Mk es es' a) {k l : Nat} (h : (es.getD k dEv).deed = .send l) : (es'.getD k dEv).deed = .send l := by
  rw [M.off k fun z => ?_]
  · exact h
  · obtain ⟨k', hk'⟩ := M.hear
    rw [z, hk'] at h
    cases h
theorem Mk.hv (M : Mk es es' a) (hv : HV fl es) : HV fl es' := by
  refine ⟨by rw [M.len]; exact hv.len, fun i hi => ?_⟩
  have e := hv.ev i (by rw [← M.len]; exact hi)
  obtain ⟨n1, n2⟩ := M.name i
  refine ⟨by rw [n1]; exact e.name, by rw [n2]; exact e.st, fun l hl => ?_, fun k hk => ?_⟩
  · by_cases z : i = a
    · rw [z, M.at_] at hl
      cases hl
    · rw [M.off i z] at hl
      exact e.send l hl
  · by_cases z : i = a
    · rw [z, M.at_] at hk
      cases hk
    · rw [M.off i z] at hk
      obtain ⟨h1, l, h2⟩ := e.hear k hk
      exact ⟨h1, l, M.send h2⟩
theorem Mk.row (M : Mk es es' a) (hv : HV fl es) {i : Nat} (hi : i < es.length) {m : Mv} (hm : m ∈ K37.row fl es' i) : m ∈ K37.row fl es i := by
  obtain ⟨n1, n2⟩ := M.name i
  unfold K37.row movesInto at hm ⊢
  rw [n1] at hm
  have e0 : lastAt es' i (es.getD i dEv).name = lastAt es i (es.getD i dEv).name := lastAt_congr i fun j hj => (M.name j).1
  rw [e0] at hm
  rcases List.mem_append.mp hm with hm | hm
  · refine List.mem_append_left _ ?_
    unfold mv1 at hm ⊢
    rw [n1] at hm
    cases hl : lastAt es i (es.getD i dEv).name with
    | none => rw [hl] at hm; simp at hm
    | some j =>
      rw [hl] at hm
      cases hd : driftOf fl (es.getD i dEv).name with
      | none => rw [hd] at hm; simp at hm
      | some d =>
        rw [hd] at hm
        simp only [n2, (M.name j).2] at hm
        exact hm
  · refine List.mem_append_right _ ?_
    by_cases z : i = a
    · rw [z, M.at_] at hm
      simp [mv2] at hm
    · rw [M.off i z] at hm
      cases hd : (es.getD i dEv).deed with
      | mark => rw [hd] at hm; simp [mv2] at hm
      | send l => rw [hd] at hm; simp [mv2] at hm
      | hear k =>
        rw [hd] at hm
        obtain ⟨h1, l, h2⟩ := (hv.ev i hi).hear k hd
        have h3 := M.send h2
        simp only [mv2, linkAt, h3] at hm
        simp only [mv2, linkAt, h2]
        exact hm
end
end KL
namespace KL
open PySem PySem.Spec PyProof.Rows L2 G Th AL K37 Fr
section
variable {S : Sto} {Q : Val → Sto → Prop} {x y : Val} {vs ws : List Val}
theorem vNeNil {a b : Nat} {ns : List Int} (hx : x = .ref a) (hy : y = .ref b) (h0 : S[a]? = some (.lst (ns.map .int))) (h1 : S[b]? = some (.lst [])) (q : Q (.bl (!ns.isEmpty)) S) : Wp (gNe x y S) Q := by
  subst hx hy
  exact ⟨_, _, ne_nil h0 h1, q⟩
theorem vCatT (hx : x = .tup vs) (hy : y = .tup ws) (hv : vs ≠ []) (hl : vs.length + ws.length ≤ 1000000) (q : Q (.tup (vs ++ ws)) S) : Wp (gAdd x y S) Q := by
  subst hx hy
  cases vs with
  | nil => exact absurd rfl hv
  | cons a as =>
    refine ⟨_, _, ?_, q⟩
    simp only [gAdd]
    rw [if_pos (mill (by simpa using hl))]
end
end KL
namespace K08
open PySem PySem.Spec PyProof.Rows L2 G Th AL K37 KL Fr
theorem wm {a b : Int} (h : a.natAbs < 2 ^ 64) (h2 : b.natAbs < 2 ^ 64) : CMulW a b := wide_mul h h2 (by decide) (by decide) (by decide)
theorem wd {a b : Int} (h0 : 0 < b) (h : b < 2 ^ 60) : CDivW a b := by
  have h60 := p60
  have n64 : (2 : Nat) ^ 64 = 18446744073709551616 := by decide
  exact wide_div (b := 64) h0 (by omega) (by decide) (by decide)
theorem ws_cut {r : Res} {N N' : Rho → Sto → Prop} {R : Val → Sto → Prop} (h : Ws r N' R) (i : ∀ ρ S, N' ρ S → N ρ S) : Ws r N R := by
  obtain ⟨h⟩ := h
  constructor
  cases r with
  | nx ρ S => exact i ρ S h
  | rt v S => exact h
  | stuck => exact h
  | bk _ _ => exact h
  | ct _ _ => exact h
theorem draw_wp {S : Sto} {B m : Int} (T : Tp S B) (m0 : 0 < m) (m1 : m < 2 ^ 60) (hB : B < 2 ^ 40) : Wp (K08.drawL_ [.ref 1, .int m] S) fun v S' => ∃ d, v = .int d ∧ 0 ≤ d ∧ d < m ∧ Tp S' (B + 1) ∧ Kx 1 S S' := by
  have h60 := p60
  have h40 := p40
  have h63 : (2 : Int) ^ 63 = 9223372036854775808 := by decide
  have n64 : (2 : Nat) ^ 64 = 18446744073709551616 := by decide
  obtain ⟨ns, i, q, n, h0, h1, i0, q0, n0, nB, nl⟩ := T.ex
  have fm : ∀ a : Int, 0 ≤ a.fmod m ∧ a.fmod m < m := fun a => fmod_lt m0
  refine AL.wf ?_; simp only [List.map_cons, List.map_nil, List.length_cons, List.length_nil, Nat.reduceAdd, Nat.reduceSub, List.replicate_succ, List.replicate_zero, List.cons_append, List.nil_append]; unfold drawL_B; array_get_dec
  refine vPutL h1 (j := 3) rfl ?_
  intro S1 l_S1 g_S1 k_S1
  have h01 : S1[0]? = some (.lst (ns.map .int)) := by array_mem_dec
  have g1 : S1[1]? = some (.lst [.ref 0, .int i, .int q, .int (n + 1)]) := g_S1
  have tp1 : ∀ (T' : Sto) (i' q' : Int), T'[0]? = some (.lst (ns.map .int)) → T'[1]? = some (.lst [.ref 0, .int i', .int q', .int (n + 1)]) → 0 ≤ i' → 0 ≤ q' → Tp T' (B + 1) := fun T' i' q' a b c d => ⟨ns, i', q', n + 1, a, b, c, d, by omega, by omega, nl⟩
  array_get_dec
  by_cases hq : 0 < q
  · refine brT (decide_eq_true hq) ?_
    array_get_dec
    · refine vPutL g1 (j := 2) rfl ?_
      intro S2 l_S2 g_S2 k_S2
      array_get_dec
      exact ⟨_, rfl, (fm q).1, (fm q).2, tp1 S2 i (q / m) (by array_mem_dec) g_S2 i0 (Int.ediv_nonneg q0 (by omega)), k_S1.trans k_S2⟩
    · exact wd m0 m1
    · omega
  · refine brF (decide_eq_false hq) (ws_nil (ws_seq (ws_asg (wc (bn rfl (ws_seq (ws_cut (N' := fun ρ T => ∃ c : Int, ρ = [some (.ref 1), some (.int m), some (.int c), none, none] ∧ Kn S1 T) ?_ ?_)))))))
    · array_get_dec
      intro S2 r2 e_r2 l_S2 g_r2 k_S2
      array_get_dec
      have h02 : S2[0]? = some (.lst (ns.map .int)) := by array_mem_dec
      have g2 : S2[1]? = some (.lst [.ref 0, .int i, .int q, .int (n + 1)]) := by array_mem_dec
      refine vNeNil rfl rfl h02 g_r2 ?_
      array_get_dec
      cases hns : ns with
      | nil => exact brF rfl (ws_nil ⟨_, rfl, k_S2⟩)
      | cons y ys =>
        rw [hns] at h02
        refine brT rfl ?_
        array_get_dec
        · obtain ⟨a, b⟩ := fmod_lt (a := i) (b := ((y :: ys).length : Int)) (by simp)
          obtain ⟨v, hv, _⟩ := at_ints (L := y :: ys) a b
          refine vIxL rfl rfl h02 (by rw [List.length_map]; exact hv) ?_
          array_get_dec
          exact ⟨_, rfl, k_S2⟩
        · simp
          omega
    · rintro _ S2 ⟨c, rfl, k2⟩
      have g2 : S2[1]? = some (.lst [.ref 0, .int i, .int q, .int (n + 1)]) := by array_mem_dec
      have h02 : S2[0]? = some (.lst (ns.map .int)) := by array_mem_dec
      have k02 : Kx 1 S S2 := k_S1.trans (k2.kx 1)
      array_get_dec
      refine vPutL g2 (j := 1) rfl ?_
      intro S3 l_S3 g_S3 k_S3
      have g3 : S3[1]? = some (.lst [.ref 0, .int (i + 1), .int q, .int (n + 1)]) := g_S3
      have h03 : S3[0]? = some (.lst (ns.map .int)) := by array_mem_dec
      have k03 : Kx 1 S S3 := k02.trans k_S3
      refine ws_seq (ws_cut (N' := fun ρ T => ρ = [some (.ref 1), some (.int m), some (.int c), none, none] ∧ T = S3) ?_ ?_)
      · array_get_dec
        refine vPow rfl rfl ?_ pow18
        array_get_dec
        refine Br.of (fun c1 => ?_) (fun c1 => ?_)
        · have c1 : (10 : Int) ^ (18 : Int).toNat ≤ c := of_decide_eq_true c1
          array_get_dec
          refine Br.of (fun c2 => ?_) (fun c2 => ?_)
          · array_get_dec
            · refine vPutL g3 (j := 2) rfl ?_
              intro S4 l_S4 g_S4 k_S4
              array_get_dec
              · exact ⟨_, rfl, (fm c).1, (fm c).2, tp1 S4 (i + 1) (c / m) (by array_mem_dec) g_S4 (by omega) (Int.ediv_nonneg (Int.le_trans (by decide) c1) (by omega)), k03.trans k_S4⟩
              · omega
            · exact wd m0 m1
          · array_get_dec
            exact ⟨rfl, rfl⟩
        · array_get_dec
          exact ⟨rfl, rfl⟩
      · rintro _ _ ⟨rfl, rfl⟩
        have cm := fmod_lt (a := c) (b := 2147483629) (by decide)
        have p1 := small_pow (x := c.fmod 2147483629 + 7919 * (n + 1) + 1) (by omega) (by omega)
        have r1 := fmod_lt (a := (c.fmod 2147483629 + 7919 * (n + 1) + 1) ^ (5 : Int).toNat) (b := 2147483647) (by decide)
        have p2 := small_pow (x := ((c.fmod 2147483629 + 7919 * (n + 1) + 1) ^ (5 : Int).toNat).fmod 2147483647 + 104729 * (n + 1)) (by omega) (by omega)
        array_get_dec
        all_goals first | refine vPow rfl rfl ?_ p1 | decide | exact wm (by omega) (by omega) | skip
        array_get_dec
        all_goals first | refine vPow rfl rfl ?_ p2 | decide | exact wm (by omega) (by omega) | skip
        array_get_dec
        all_goals first | exact ⟨_, rfl, (fm _).1, (fm _).2, tp1 _ (i + 1) q h03 g3 (by omega) q0, k03⟩ | exact wd (by decide) (by decide) | omega | decide
end K08
namespace K08
open PySem PySem.Spec PyProof.Rows L2 G Th AL K37 KL Fr
theorem divisor_wp {S : Sto} {a b : Int} (ha : 0 ≤ a) (hb : 0 ≤ b) : Wp (divisorL_ [.int a, .int b] S) fun v T => v = .int (Int.gcd a b : Nat) ∧ S = T := by
  refine wf ?_
  unfold divisorL_B
  refine ws_seq (ws_while (fun ρ _ => match ρ with | [_, some (.int y)] => y.toNat | _ => 0) (fun ρ T => ∃ x y : Int, ρ = [some (.int x), some (.int y)] ∧ 0 ≤ x ∧ 0 ≤ y ∧ Int.gcd x y = Int.gcd a b ∧ S = T) ⟨a, b, rfl, ha, hb, rfl, rfl⟩ ?_)
  rintro _ _ ⟨x, y, rfl, hx, hy, hg, rfl⟩
  array_get_dec
  refine Br.of (fun c => ?_) (fun c => ?_)
  · have c : 0 < y := of_decide_eq_true c
    obtain ⟨m1, m2⟩ := fmod_lt (a := x) (b := y) c
    array_get_dec
    · exact ⟨⟨_, _, rfl, hy, m1, by rw [gcd_step c, hg], rfl⟩, by show (x.fmod y).toNat < y.toNat; omega⟩
    · omega
  · have c : ¬ 0 < y := of_decide_eq_false c
    have : y = 0 := by omega
    subst this
    array_get_dec
    rw [← hg]
    simp
    omega
theorem made_wp {a b : Int} {S : Sto} (hb : 0 < b) (hB : b.natAbs < 2 ^ 2000) : Wp (madeL_ [.int a, .int b] S) fun v T => v = frV (Fr.mk a b) ∧ S = T := by
  refine AL.wf ?_; simp only [List.map_cons, List.map_nil, List.length_cons, List.length_nil, Nat.reduceAdd, Nat.reduceSub, List.replicate_succ, List.replicate_zero, List.cons_append, List.nil_append]; unfold madeL_B; array_get_dec
  have ab : Int.gcd (if a < 0 then -a else a) b = Int.gcd a b := by
    split
    · rw [Int.neg_gcd]
    · rfl
  refine (divisor_wp (by split <;> omega) (by omega)).imp ?_
  rintro _ _ ⟨rfl, rfl⟩
  rw [ab]
  array_get_dec
  · constructor
    · unfold Fr.mk frV
      rw [if_neg (by omega)]
    · rfl
  · exact g_div (by omega) hB
  · exact g_div (by omega) hB
end K08
namespace K08
open PySem PySem.Spec PyProof.Rows L2 G Th AL K37 KL Fr
def pool8 : List Str := ["a", "ab", "b", "h", "hh", "x", "zz", "zzzzzzzz"]
def gaits : List (Fq × Fq) := [((1, 1), (1, 1)), ((1, 2), (2, 1)), ((3, 4), (5, 4)), ((1, 1), (3, 2)), ((1, 2), (1, 1))]
def gV (g : Fq × Fq) : Val := .tup [frV g.1, frV g.2]
def least8 : List Fq := [(0, 1), (1, 2), (1, 1), (3, 1)]
structure L8 (nm : List Str) (l : Lk) : Prop where
  fr : l.fr ∈ nm
  to : l.to ∈ nm
  ne : l.fr ≠ l.to
  least : l.least ∈ least8
  most : ∀ m, l.most = some m → m = l.least ∨ m = Fr.mk (l.least.1 + l.least.2) l.least.2 ∨ m = Fr.mk (l.least.1 + 9 * l.least.2) l.least.2
structure F8 (fl : Fl) : Prop where
  sub : (fl.hs.map Hs.name).Sublist pool8
  ne : 0 < fl.hs.length
  few : fl.hs.length ≤ 6
  gait : ∀ h ∈ fl.hs, (h.slow, h.fast) ∈ gaits
  one : ∀ h ∈ fl.hs, h.name = fl.src → h.slow = (1, 1) ∧ h.fast = (1, 1)
  src : fl.src ∈ fl.hs.map Hs.name
  lk : ∀ l ∈ fl.ls, L8 (fl.hs.map Hs.name) l
  lfew : fl.ls.length ≤ 8
theorem at_map {α : Type} {f : α → Val} {xs : List α} {d : Int} (h0 : 0 ≤ d) (h1 : d < (xs.length : Nat)) : ∃ x, atI (xs.map f) d = some (f x) ∧ x ∈ xs ∧ xs[d.toNat]? = some x := by
  have hl : d.toNat < xs.length := by omega
  refine ⟨xs[d.toNat], ?_, List.getElem_mem hl, List.getElem?_eq_getElem hl⟩
  have e : d = ((d.toNat : Nat) : Int) := by omega
  have z := at_nat (map_get (f := f) (List.getElem?_eq_getElem hl))
  rw [← e] at z
  exact z
theorem nd_ne {pl : List Str} {i j : Nat} {x y : Str} (nd : pl.Nodup) (h1 : pl[i]? = some x) (h2 : pl[j]? = some y) (h : i ≠ j) : x ≠ y := by
  rintro rfl
  exact h ((List.getElem?_inj (List.getElem?_eq_some_iff.mp h1).1 nd).mp (h1.trans h2.symm))
theorem other_ne {a b : Int} {sz : Nat} (h1 : 1 < sz) (h6 : sz ≤ 6) (a0 : 0 ≤ a) (a1 : a < sz) (b0 : 0 ≤ b) (b1 : b < (sz : Int) - 1) : (a + 1 + b).fmod sz ≠ a ∧ 0 ≤ (a + 1 + b).fmod sz ∧ (a + 1 + b).fmod sz < sz := by
  rw [Int.fmod_eq_emod_of_nonneg _ (by omega)]
  have : sz = 2 ∨ sz = 3 ∨ sz = 4 ∨ sz = 5 ∨ sz = 6 := by omega
  rcases this with rfl | rfl | rfl | rfl | rfl <;> omega
theorem least_ok {x : Fq} (h : x ∈ least8) : Fr.Ok 4 x := by
  simp only [least8, List.mem_cons, List.not_mem_nil, or_false] at h
  rcases h with rfl | rfl | rfl | rfl <;> exact ⟨by decide, by decide, by decide, by decide⟩
def mosts (x : Fq) : List (Option Fq) := [none, some x, some (Fr.mk (x.1 + x.2) x.2), some (Fr.mk (x.1 + 9 * x.2) x.2)]
theorem nd8 : pool8.Nodup := by decide
theorem field_wp {S : Sto} {B : Int} (TT : Tp S B) (hB : B < 2 ^ 38) : Wp (fieldL_ [.ref 1] S) fun v T => ∃ fl, v = flV fl ∧ F8 fl ∧ Tp T (B + 60) ∧ Kx 1 S T := by
  have h38 : (2 : Int) ^ 38 = 274877906944 := by decide
  have h40 := p40
  have h62 := p62
  have two := TT.two
  refine AL.wf ?_; simp only [List.map_cons, List.map_nil, List.length_cons, List.length_nil, Nat.reduceAdd, Nat.reduceSub, List.replicate_succ, List.replicate_zero, List.cons_append, List.nil_append]; unfold fieldL_B; array_get_dec
  intro S1 P e_P l_S1 g_P k_S1
  array_get_dec
  intro S2 r2 e_r2 l_S2 g_r2 k_S2
  array_get_dec
  refine (draw_wp ((TT.fr k_S1).fr k_S2) (by decide) (by decide) (by omega)).imp ?_
  rintro _ S3 ⟨d, rfl, d0, d1, t3, k3⟩
  array_get_dec
  obtain ⟨v, hv, hm⟩ := atI_mem (vs := [.int 3, .int 2, .int 1, .int 4, .int 6, .int 5]) d0 d1
  refine vIxL rfl rfl (by array_mem_dec) hv ?_
  obtain ⟨sz, rfl, s1, s6⟩ : ∃ sz : Nat, v = .int (sz : Nat) ∧ 1 ≤ sz ∧ sz ≤ 6 := by
    simp only [List.mem_cons, List.not_mem_nil, or_false] at hm
    rcases hm with rfl | rfl | rfl | rfl | rfl | rfl <;> exact ⟨_, rfl, by decide, by decide⟩
  array_get_dec
  intro S4 F e_F l_S4 g_F k_S4
  array_get_dec
  intro S5 L e_L l_S5 g_L k_S5
  array_get_dec
  intro S6 Gt e_Gt l_S6 g_Gt k_S6
  have gP : S6[P]? = some (.lst (pool8.map Val.str)) := by array_mem_dec
  have gF : S6[F]? = some (.lst []) := by array_mem_dec
  have gL : S6[L]? = some (.lst []) := by array_mem_dec
  have gG : S6[Gt]? = some (.lst (gaits.map gV)) := by array_mem_dec
  have t6 : Tp S6 (B + 1) := ((t3.fr k_S4).fr k_S5).fr k_S6
  have k06 : Kx 1 S S6 := ((((((k_S1.trans k_S2).kx 1).trans k3).trans (k_S4.kx 1)).trans (k_S5.kx 1)).trans (k_S6.kx 1))
  have l3 := k3.len
  have ord : 2 ≤ P ∧ S.length = P ∧ P < F ∧ F < L ∧ L < Gt := by omega
  clear e_P e_F e_L e_Gt e_r2 l_S1 l_S2 l_S4 l_S5 l_S6 g_P g_F g_L g_Gt g_r2 k_S1 k_S2 k_S4 k_S5 k_S6 t3 k3 l3
  have pl8 : pool8.length = 8 := rfl
  array_get_dec
  refine ws_while (fun _ T => match T[P]? with | some (.lst vs) => vs.length | _ => 0) (fun ρ T => ρ = [some (.ref 1), some (.ref P), some (.ref Gt), none, none, none, some (.int (sz : Nat)), some (.ref F), some (.ref L), none, none, none, none] ∧ (∃ pl : List Str, T[P]? = some (.lst (pl.map Val.str)) ∧ pl.Sublist pool8 ∧ sz ≤ pl.length ∧ Tp T (B + 1 + (8 - pl.length : Int))) ∧ T[F]? = some (.lst []) ∧ T[L]? = some (.lst []) ∧ T[Gt]? = some (.lst (gaits.map gV)) ∧ Kx 1 S T)
    ⟨rfl, ⟨pool8, gP, List.Sublist.refl _, by omega, t6.mono (by omega)⟩, gF, gL, gG, k06⟩ ?_
  clear gP gF gL gG t6 k06
  rintro _ T ⟨rfl, ⟨pl, hP, sub, ls, tt⟩, hF, hL, hG, kk⟩
  have l8 := sub.length_le
  rw [pl8] at l8
  have lP := lt_of_at hP
  array_get_dec
  refine Br.of (fun c => ?_) (fun c => ?_)
  · have c : (sz : Int) < (pl.map Val.str).length := of_decide_eq_true c
    rw [List.length_map] at c
    array_get_dec
    rw [List.length_map]
    refine (draw_wp tt (by omega) (by omega) (by omega)).imp ?_
    rintro _ T1 ⟨x, rfl, x0, x1, t1, k1⟩
    have hP1 : T1[P]? = some (.lst (pl.map Val.str)) := by array_mem_dec
    obtain ⟨y, _, _, hy⟩ := at_map (f := Val.str) (xs := pl) x0 x1
    array_get_dec
    refine vPop rfl hP1 (k := x.toNat) (by omega) (map_get hy) (by rw [List.length_map]; omega) ?_
    intro T2 l_T2 g_T2 k_T2
    have el : (pl.eraseIdx x.toNat).length = pl.length - 1 := List.length_eraseIdx_of_lt (by omega)
    have em : (pl.map Val.str).eraseIdx x.toNat = (pl.eraseIdx x.toNat).map Val.str := by simp [List.eraseIdx_eq_take_drop_succ, List.map_take, List.map_drop]
    rw [em] at g_T2
    refine ⟨⟨rfl, ⟨_, g_T2, (List.eraseIdx_sublist _ _).trans sub, by omega, (t1.kx k_T2 (by omega)).mono (by rw [el]; omega)⟩, by array_mem_dec, by array_mem_dec, by array_mem_dec, fun k o hk ho => ?_⟩, ?_⟩
    · have := lt_of_at ho
      exact k_T2 k o (by omega) (k1 k o hk (kk k o hk ho))
    · simp only [g_T2, hP, List.length_map, el]
      omega
  · have c : ¬ (sz : Int) < (pl.map Val.str).length := of_decide_eq_false c
    rw [List.length_map] at c
    have ls : pl.length = sz := by omega
    have nd : pl.Nodup := nd8.sublist sub
    replace tt : Tp T (B + 8) := tt.mono (by omega)
    array_get_dec
    refine (draw_wp tt (by omega) (by omega) (by omega)).imp ?_
    rintro _ T1 ⟨x, rfl, x0, x1, t1, k1⟩
    have hP1 : T1[P]? = some (.lst (pl.map Val.str)) := by array_mem_dec
    have hF1 : T1[F]? = some (.lst []) := by array_mem_dec
    have hL1 : T1[L]? = some (.lst []) := by array_mem_dec
    have hG1 : T1[Gt]? = some (.lst (gaits.map gV)) := by array_mem_dec
    have kk1 := kk.trans k1
    obtain ⟨src, hs1, hs2, _⟩ := at_map (f := Val.str) (xs := pl) x0 (by omega)
    clear hP hF hL hG tt kk k1 lP
    array_get_dec
    refine vIxL rfl rfl hP1 hs1 ?_
    array_get_dec
    refine .inr ⟨P, _, rfl, hP1, ?_⟩
    refine ws_loop (fun i ρ T => (∃ z4, ρ = [some (.ref 1), some (.ref P), some (.ref Gt), some (.str src), z4, none, some (.int (sz : Nat)), some (.ref F), some (.ref L), none, none, none, none]) ∧ (∃ hs : List Hs, T[F]? = some (.lst (hs.map hsV)) ∧ hs.map Hs.name = pl.take i ∧ (∀ h ∈ hs, (h.slow, h.fast) ∈ gaits) ∧ ∀ h ∈ hs, h.name = src → h.slow = (1, 1) ∧ h.fast = (1, 1)) ∧ T[P]? = some (.lst (pl.map Val.str)) ∧ T[L]? = some (.lst []) ∧ T[Gt]? = some (.lst (gaits.map gV)) ∧ Tp T (B + 9 + i) ∧ Kx 1 S T)
      ⟨⟨_, rfl⟩, ⟨[], hF1, rfl, fun _ z => by simp at z, fun _ z => by simp at z⟩, hP1, hL1, hG1, t1.mono (by omega), kk1⟩ (fun i ρ T _ h => h.2.2.1) ?_ ?_
    · clear hP1 hF1 hL1 hG1 t1 kk1
      rintro i v ρ T hv ⟨⟨z4, rfl⟩, ⟨hs, hF, hn, hg, h1⟩, hP, hL, hG, tt, kk⟩
      rw [List.getElem?_map] at hv
      obtain ⟨n, hn', rfl⟩ := Option.map_eq_some_iff.mp hv
      have li : i < pl.length := (List.getElem?_eq_some_iff.mp hn').1
      have hl : hs.length = i := by
        have := congrArg List.length hn
        rw [List.length_map, List.length_take] at this
        omega
      have fin : ∀ (d : Int) (T1 : Sto), 0 ≤ d → d < 5 → (n = src → d = 0) → Tp T1 (B + 9 + i + 1) → Kx 1 T T1 → Wp (gIxA (.ref Gt) (.int d) T1) fun y S2 => Wp (gAdd (.tup [.str n]) y S2) fun w S3 => Wp (gApp (.ref F) [w] S3) fun _ T2 =>
          (∃ hs : List Hs, T2[F]? = some (.lst (hs.map hsV)) ∧ hs.map Hs.name = pl.take (i + 1) ∧ (∀ h ∈ hs, (h.slow, h.fast) ∈ gaits) ∧ ∀ h ∈ hs, h.name = src → h.slow = (1, 1) ∧ h.fast = (1, 1)) ∧ T2[P]? = some (.lst (pl.map Val.str)) ∧ T2[L]? = some (.lst []) ∧ T2[Gt]? = some (.lst (gaits.map gV)) ∧ Tp T2 (B + 9 + (i + 1 : Nat)) ∧ Kx 1 S T2 := by
        intro d T1 d0 d5 ds t1 k1
        obtain ⟨g, g1, g2, g3⟩ := at_map (f := gV) (xs := gaits) d0 (show d < 5 by omega)
        refine vIxL rfl rfl (by array_mem_dec) g1 ?_
        refine vCatT rfl rfl (by simp) (by simp) ?_
        refine vApp rfl (show T1[F]? = _ by array_mem_dec) ?_ (small (by rw [List.length_map]; omega))
        intro T2 l_T2 g_T2 k_T2
        refine ⟨⟨hs ++ [⟨n, g.1, g.2⟩], ?_, ?_, ?_, ?_⟩, by array_mem_dec, by array_mem_dec, by array_mem_dec, (t1.kx k_T2 (by omega)).mono (by push_cast; omega), fun k o hk ho => ?_⟩
        · rw [List.map_append]
          exact g_T2
        · rw [List.map_append, hn, List.take_add_one, hn']
          rfl
        · intro h hh
          rcases List.mem_append.mp hh with hh | hh
          · exact hg h hh
          · simp only [List.mem_singleton] at hh
            subst hh
            exact g2
        · intro h hh
          rcases List.mem_append.mp hh with hh | hh
          · exact h1 h hh
          · simp only [List.mem_singleton] at hh
            subst hh
            intro z
            have := ds z
            subst this
            cases g3
            exact ⟨rfl, rfl⟩
        · have := lt_of_at ho
          exact k_T2 k o (by omega) (k1 k o hk (kk k o hk ho))
      array_get_dec
      refine Br.of (fun c => ?_) (fun c => ?_)
      · have c : n ≠ src := by simpa using c
        array_get_dec
        refine (draw_wp tt (by decide) (by decide) (by omega)).imp ?_
        rintro _ T1 ⟨d, rfl, d0, d1, t1, k1⟩
        exact (fin d T1 d0 d1 (fun z => absurd z c) t1 k1).imp fun y S2 h => h.imp fun w S3 h => wa0 (h.imp fun _ T2 h => ⟨⟨_, rfl⟩, h⟩)
      · have c : n = src := by simpa using c
        exact wc <| (fin 0 T (by decide) (by decide) (fun _ => rfl) (tt.mono (by omega)) (Kx.refl _ _)).imp fun y S2 h => h.imp fun w S3 h => wa0 (h.imp fun _ T2 h => ⟨⟨_, rfl⟩, h⟩)
    · clear hP1 hF1 hL1 hG1 t1 kk1
      rintro ρ T ⟨⟨z4, rfl⟩, ⟨hs, hF, hn, hg, h1⟩, hP, hL, hG, tt, kk⟩
      rw [List.length_map, List.take_length] at hn
      rw [List.length_map] at tt
      array_get_dec
      refine (draw_wp tt (by decide) (by decide) (by omega)).imp ?_
      rintro _ T1 ⟨d, rfl, d0, d1, t1, k1⟩
      array_get_dec
      have fd : ∀ b : Bool, 0 ≤ d * (if b then 1 else 0) ∧ d * (if b then 1 else 0) ≤ 8 := fun b => by cases b <;> simp <;> omega
      refine vIntB rfl ?_
      array_get_dec
      · refine ⟨_, rfl, ?_, by have := fd (decide (1 < (sz : Int))); omega, by have := fd (decide (1 < (sz : Int))); omega⟩
        have jl : (d * (if decide (1 < (sz : Int)) then 1 else 0)).toNat ≤ 8 := by have := fd (decide (1 < (sz : Int))); omega
        have jz : 0 < (d * (if decide (1 < (sz : Int)) then 1 else 0)).toNat → 1 < sz := by
          intro z
          by_cases c : 1 < (sz : Int)
          · omega
          · rw [decide_eq_false c] at z
            simp at z
        generalize (d * (if decide (1 < (sz : Int)) then 1 else 0)).toNat = J at jl jz
        refine ws_loop (fun i ρ T => (∃ z4 z5 z9 z10 z11 z12, ρ = [some (.ref 1), some (.ref P), some (.ref Gt), some (.str src), z4, z5, some (.int (sz : Nat)), some (.ref F), some (.ref L), z9, z10, z11, z12]) ∧ (∃ lls : List Lk, T[L]? = some (.lst (lls.map lkV)) ∧ lls.length = i ∧ ∀ l ∈ lls, L8 pl l) ∧ T[P]? = some (.lst (pl.map Val.str)) ∧ T[F]? = some (.lst (hs.map hsV)) ∧ Tp T (B + 16 + 4 * i) ∧ Kx 1 S T)
          ⟨⟨_, _, _, _, _, _, rfl⟩, ⟨[], by array_mem_dec, rfl, fun _ z => by simp at z⟩, by array_mem_dec, by array_mem_dec, t1.mono (by omega), kk.trans k1⟩ (fun _ _ _ _ _ => trivial) ?_ ?_
        · clear hP hF hL hG tt kk t1 k1
          rintro i v ρ T hv ⟨⟨z4, z5, z9, z10, z11, z12, rfl⟩, ⟨lls, hL, ll, lok⟩, hP, hF, tt, kk⟩
          obtain ⟨rfl, hi⟩ := rangeV_get hv
          have s2 := jz (by omega)
          array_get_dec
          refine (draw_wp tt (by omega) (by omega) (by omega)).imp ?_
          rintro _ T1 ⟨a, rfl, a0, a1, t1, k1⟩
          array_get_dec
          · refine (draw_wp t1 (by omega) (by omega) (by omega)).imp ?_
            rintro _ T2 ⟨b, rfl, b0, b1, t2, k2⟩
            have lp0 := lt_of_at hP
            have lT1 := k1.len
            have lT2 := k2.len
            array_get_dec
            · intro T3 r3 e_r3 l_T3 g_r3 k_T3
              array_get_dec
              refine (draw_wp (t2.fr k_T3) (by decide) (by decide) (by omega)).imp ?_
              rintro _ T4 ⟨e, rfl, e0, e1, t4, k4⟩
              have lT4 := k4.len
              obtain ⟨o1, o2, o3⟩ := other_ne s2 s6 a0 a1 b0 b1
              generalize (a + 1 + b).fmod sz = o at o1 o2 o3
              obtain ⟨le, le1, le2, _⟩ := at_map (f := frV) (xs := least8) e0 (show e < 4 by omega)
              have g3 : T4[r3]? = some (.lst (least8.map frV)) := by array_mem_dec
              array_get_dec
              refine vIxL rfl rfl g3 le1 ?_
              have lk := least_ok le2
              have bl := lk.b2
              have lp := lk.pos
              array_get_dec
              refine (made_wp lp (Nat.lt_trans bl (by decide))).imp ?_
              rintro _ _ ⟨rfl, rfl⟩
              array_get_dec
              · refine (made_wp lp (Nat.lt_trans bl (by decide))).imp ?_
                rintro _ _ ⟨rfl, rfl⟩
                array_get_dec
                intro T5 r5 e_r5 l_T5 g_r5 k_T5
                have g5 : T5[r5]? = some (.lst ((mosts le).map oV)) := g_r5
                obtain ⟨n1, q1, q2, q3⟩ := at_map (f := Val.str) (xs := pl) a0 (by omega)
                obtain ⟨n2, q4, q5, q6⟩ := at_map (f := Val.str) (xs := pl) o2 (by omega)
                array_get_dec
                refine vIxL rfl rfl (by array_mem_dec) q1 ?_
                array_get_dec
                refine vIxL rfl rfl (by array_mem_dec) q4 ?_
                array_get_dec
                have ne : n1 ≠ n2 := nd_ne nd q3 q6 (by omega)
                refine (draw_wp (t4.fr k_T5) (by decide) (by decide) (by omega)).imp ?_
                rintro _ T6 ⟨f, rfl, f0, f1, t6, k6⟩
                obtain ⟨mo, m1, m2, _⟩ := at_map (f := oV) (xs := mosts le) f0 (show f < 4 by omega)
                array_get_dec
                refine vIxL rfl rfl (by array_mem_dec) m1 ?_
                array_get_dec
                refine vApp rfl (show T6[L]? = _ by array_mem_dec) ?_ (small (by rw [List.length_map]; omega))
                intro T7 l_T7 g_T7 k_T7
                refine ⟨⟨_, _, _, _, _, _, rfl⟩, ⟨lls ++ [⟨n1, n2, le, mo⟩], ?_, by rw [List.length_append, ll]; rfl, ?_⟩, by array_mem_dec, by array_mem_dec, (t6.kx k_T7 (by omega)).mono (by push_cast; omega), fun k o hk ho => ?_⟩
                · rw [List.map_append]
                  exact g_T7
                · intro l hl
                  rcases List.mem_append.mp hl with hl | hl
                  · exact lok l hl
                  · simp only [List.mem_singleton] at hl
                    subst hl
                    refine ⟨q2, q5, ne, le2, fun m hm => ?_⟩
                    subst hm
                    simpa [mosts] using m2
                · have := lt_of_at ho
                  exact k_T7 k o (by omega) (k6 k o hk (k_T5 k o (k4 k o hk (k_T3 k o (k2 k o hk (k1 k o hk (kk k o hk ho)))))))
              · exact wm (by decide) (Nat.lt_trans bl (by decide))
            · omega
          all_goals omega
        · clear hP hF hL hG tt kk t1 k1
          rintro ρ T ⟨⟨z4, z5, z9, z10, z11, z12, rfl⟩, ⟨lls, hL, ll, lok⟩, hP, hF, tt, kk⟩
          rw [rangeV_len] at ll tt
          array_get_dec
          refine ⟨⟨hs, lls, src⟩, rfl, ⟨?_, ?_, ?_, hg, h1, ?_, ?_, ?_⟩, tt.mono (by omega), kk⟩
          · show (hs.map Hs.name).Sublist pool8
            rw [hn]
            exact sub
          · have := congrArg List.length hn
            rw [List.length_map] at this
            show 0 < hs.length
            omega
          · have := congrArg List.length hn
            rw [List.length_map] at this
            show hs.length ≤ 6
            omega
          · show src ∈ hs.map Hs.name
            rw [hn]
            exact hs2
          · show ∀ l ∈ lls, L8 (hs.map Hs.name) l
            rw [hn]
            exact lok
          · show lls.length ≤ 8
            omega
      · have : (if decide (1 < (sz : Int)) = true then 1 else 0 : Int).natAbs ≤ 1 := by split <;> decide
        exact wm (by omega) (by omega)
end K08
namespace K08
open PySem PySem.Spec PyProof.Rows L2 G Th AL K37 KL Fr
def Fits (l : Lk) (s n : Fq) : Prop := q l.least ≤ q n - q s ∧ ∀ m, l.most = some m → q n - q s ≤ q m
theorem most_ok {nm : List Str} {l : Lk} (h : L8 nm l) : Fr.Ok 4 l.least ∧ ∀ m, l.most = some m → Fr.Ok 10 m := by
  refine ⟨least_ok h.least, fun m hm => ?_⟩
  have lo := least_ok h.least
  have h1 := lo.b1
  have h2 := lo.b2
  have p := lo.pos
  have e4 : (2 : Nat) ^ 4 = 16 := rfl
  have e10 : (2 : Nat) ^ 10 = 1024 := rfl
  rcases h.most m hm with rfl | rfl | rfl
  · exact lo.mono (by decide)
  · exact mk_ok (by omega) (by omega) (by omega)
  · exact mk_ok (by omega) (by omega) (by omega)
def DdOk (fl : Fl) (es : List Ev) (ws : List Fq) (house : Str) (now : Fq) : Dd → Prop
  | .mark => True
  | .send l => ∃ lk, fl.ls[l]? = some lk ∧ lk.fr = house
  | .hear k => k < es.length ∧ ∃ l lk, (es.getD k dEv).deed = .send l ∧ fl.ls[l]? = some lk ∧ lk.to = house ∧ Fits lk (ws.getD k (0, 1)) now
end K08
namespace KL
open PySem PySem.Spec PyProof.Rows L2 G Th AL K37 Fr
def QN (N : Int) (M : Nat) (x : Fq) : Prop := ∃ k : Int, Is x k N ∧ k.natAbs ≤ M
section
variable {N : Int} {M M' : Nat} {x y : Fq}
theorem QN.mono (h : QN N M x) (hm : M ≤ M') : QN N M' x := by
  obtain ⟨k, h1, h2⟩ := h
  exact ⟨k, h1, by omega⟩
theorem QN.ok {n : Nat} (h : QN N M x) (hM : M < 2 ^ n) (hN : N.natAbs < 2 ^ n) : Fr.Ok n x := by
  obtain ⟨k, h1, h2⟩ := h
  rw [h1.1]
  exact mk_ok h1.2 (by omega) hN
theorem QN.add (h : QN N M x) (h' : QN N M' y) : QN N (M + M') (Fr.add x y) := by
  obtain ⟨k, h1, h2⟩ := h
  obtain ⟨k', h3, h4⟩ := h'
  have a := h1.add h3
  refine ⟨k + k', ⟨?_, h1.2⟩, by omega⟩
  rw [a.1]
  exact mk_eq a.2 h1.2 (by grind)
theorem QN.sub (h : QN N M x) (h' : QN N M' y) : QN N (M + M') (Fr.sub x y) := by
  obtain ⟨k, h1, h2⟩ := h
  obtain ⟨k', h3, h4⟩ := h'
  have a := h1.sub h3
  refine ⟨k - k', ⟨?_, h1.2⟩, by omega⟩
  rw [a.1]
  exact mk_eq a.2 h1.2 (by grind)
theorem QN.up {c : Int} (h : QN N M x) (hc : 0 < c) : QN (N * c) (M * c.natAbs) x := by
  obtain ⟨k, h1, h2⟩ := h
  refine ⟨k * c, ⟨?_, Int.mul_ne_zero h1.2 (by omega)⟩, ?_⟩
  · rw [h1.1]
    exact mk_eq h1.2 (Int.mul_ne_zero h1.2 (by omega)) (by grind)
  · rw [Int.natAbs_mul]
    exact Nat.mul_le_mul_right _ h2
theorem QN.rate (h : QN 4 M x) {r : Fq} (hr : r ∈ slows ∨ r ∈ fasts) : QN 120 (M * 60) (Fr.div x r) := by
  obtain ⟨k, h1, h2⟩ := h
  have go : ∀ (a b c : Int), Is r a b → a ≠ 0 → c.natAbs ≤ 60 → 120 * b = c * (4 * a) → QN 120 (M * 60) (Fr.div x r) := by
    intro a b c hi ha hc e
    have d := h1.div hi ha
    refine ⟨k * c, ⟨?_, by decide⟩, ?_⟩
    · rw [d.1]
      refine mk_eq d.2 (by decide) ?_
      grind
    · rw [Int.natAbs_mul]
      exact Nat.mul_le_mul h2 hc
  simp only [slows, fasts, List.mem_cons, List.not_mem_nil, or_false] at hr
  rcases hr with (rfl | rfl | rfl) | (rfl | rfl | rfl | rfl)
  · exact go 1 1 30 ⟨by decide +kernel, by decide⟩ (by decide) (by decide) (by decide)
  · exact go 1 2 60 ⟨by decide +kernel, by decide⟩ (by decide) (by decide) (by decide)
  · exact go 3 4 40 ⟨by decide +kernel, by decide⟩ (by decide) (by decide) (by decide)
  · exact go 1 1 30 ⟨by decide +kernel, by decide⟩ (by decide) (by decide) (by decide)
  · exact go 5 4 24 ⟨by decide +kernel, by decide⟩ (by decide) (by decide) (by decide)
  · exact go 3 2 20 ⟨by decide +kernel, by decide⟩ (by decide) (by decide) (by decide)
  · exact go 2 1 15 ⟨by decide +kernel, by decide⟩ (by decide) (by decide) (by decide)
theorem _root_.K37.StOk.qn (h : StOk x) : QN 4 1000 x := by
  obtain ⟨k, e, b⟩ := h
  exact ⟨k, ⟨e, by decide⟩, b⟩
end
section
variable {fl : Fl} {es : List Ev}
theorem least_qn {x : Fq} (h : x ∈ leasts) : QN 2 4 x := by
  simp only [leasts, List.mem_cons, List.not_mem_nil, or_false] at h
  rcases h with rfl | rfl | rfl | rfl
  · exact ⟨0, ⟨by decide +kernel, by decide⟩, by decide⟩
  · exact ⟨1, ⟨by decide +kernel, by decide⟩, by decide⟩
  · exact ⟨2, ⟨by decide +kernel, by decide⟩, by decide⟩
  · exact ⟨4, ⟨by decide +kernel, by decide⟩, by decide⟩
theorem more_qn {x : Fq} (h : some x ∈ mores) : QN 2 6 x := by
  simp only [mores, List.mem_cons, List.not_mem_nil, or_false, Option.some.injEq, reduceCtorEq, false_or] at h
  rcases h with rfl | rfl | rfl
  · exact ⟨0, ⟨by decide +kernel, by decide⟩, by decide⟩
  · exact ⟨2, ⟨by decide +kernel, by decide⟩, by decide⟩
  · exact ⟨6, ⟨by decide +kernel, by decide⟩, by decide⟩
theorem _root_.K37.LkS.qn {l : Lk} (h : LkS l) : QN 120 600 l.least ∧ ∀ m, l.most = some m → QN 120 600 m := by
  have a := least_qn h.1.1
  refine ⟨(a.up (c := 60) (by decide)).mono (by decide), fun m hm => ?_⟩
  obtain ⟨x, hx, rfl⟩ := h.2 m hm
  exact ((a.add (more_qn hx)).up (c := 60) (by decide)).mono (by decide)
end

def Rise (es : List Ev) : Prop := ∀ j i, j < es.length → lastAt es j (es.getD j dEv).name = some i → q (es.getD i dEv).stamp ≤ q (es.getD j dEv).stamp
theorem Rise.nil : Rise [] := fun j i h => by simp at h
theorem Rise.snoc {es : List Ev} {e : Ev} (h : Rise es) (h1 : ∀ i, lastAt es es.length e.name = some i → q (es.getD i dEv).stamp ≤ q e.stamp) : Rise (es ++ [e]) := by
  intro j i hj hi
  by_cases z : j < es.length
  · rw [getD_l z] at hi ⊢
    rw [lastAt_app _ (by omega)] at hi
    have := lastAt_lt hi
    rw [getD_l (by omega)]
    exact h j i z hi
  · have : j = es.length := by simp at hj; omega
    subst this
    rw [getD_r] at hi ⊢
    rw [lastAt_app _ (Nat.le_refl _)] at hi
    have := lastAt_lt hi
    rw [getD_l (by omega)]
    exact h1 i hi
theorem Tru.rise {fl : Fl} {es : List Ev} {bg : Int} {hrs : List Int} (T : Tru fl es bg hrs) (fo : FlOk fl) (hv : HV fl es) : Rise es := by
  intro j i hj hi
  obtain ⟨h, hh, hm⟩ := drift_some (hv.ev j hj).name
  obtain ⟨t1, t2, t3⟩ := T.go j i h hj hi hh
  have nn : (0 : Rat) ≤ ((hrs.getD j 0 - hrs.getD i 0 : Int) : Rat) := Rat.intCast_nonneg.mpr (by omega)
  have := Rat.mul_nonneg (Rat.le_of_lt (slow_le (fo.rate h hm).1).2) nn
  grind

end KL
namespace K08
open PySem PySem.Spec PyProof.Rows L2 G Th AL K37 KL Fr
abbrev wAt (ws : List Fq) (i : Nat) : Fq := ws.getD i (0, 1)
structure Sc (fl : Fl) (es : List Ev) (ws : List Fq) : Prop where
  len : ws.length = es.length
  nm : ∀ i, i < es.length → (es.getD i dEv).name ∈ fl.hs.map Hs.name
  tm : ∀ i, i < es.length → QN 2 60 (wAt ws i) ∧ 0 ≤ q (wAt ws i)
  st : ∀ i, i < es.length → QN 8 (80 + 960 * (i + 1)) (es.getD i dEv).stamp
  rise : ∀ i j, i ≤ j → j < es.length → q (wAt ws i) ≤ q (wAt ws j)
  dd : ∀ i, i < es.length → DdOk fl (es.take i) ws (es.getD i dEv).name (wAt ws i) (es.getD i dEv).deed
  go : ∀ j i h, j < es.length → lastAt es j (es.getD j dEv).name = some i → driftOf fl (es.getD j dEv).name = some h →
    q h.slow * (q (wAt ws j) - q (wAt ws i)) ≤ q (es.getD j dEv).stamp - q (es.getD i dEv).stamp ∧ q (es.getD j dEv).stamp - q (es.getD i dEv).stamp ≤ q h.fast * (q (wAt ws j) - q (wAt ws i))
  src : ∀ i j, i < es.length → j < es.length → (es.getD i dEv).name = fl.src → (es.getD j dEv).name = fl.src → q (es.getD i dEv).stamp - q (wAt ws i) = q (es.getD j dEv).stamp - q (wAt ws j)
theorem wget_l {ws : List Fq} {x : Fq} {j : Nat} (h : j < ws.length) : wAt (ws ++ [x]) j = wAt ws j := by
  simp [wAt, List.getD, List.getElem?_append_left h]
theorem wget_r {ws : List Fq} {x : Fq} : wAt (ws ++ [x]) ws.length = x := by
  simp [wAt, List.getD]
theorem DdOk.ext {fl : Fl} {es es' : List Ev} {ws ws' : List Fq} {n : Str} {w : Fq} {d : Dd} (h : DdOk fl es ws n w d) (h1 : ∀ k, k < es.length → es'.getD k dEv = es.getD k dEv ∧ wAt ws' k = wAt ws k) (h2 : es.length ≤ es'.length) : DdOk fl es' ws' n w d := by
  cases d with
  | mark => trivial
  | send l => exact h
  | hear k =>
    obtain ⟨hk, l, lk, a, b, c, d⟩ := h
    obtain ⟨e1, e2⟩ := h1 k hk
    refine ⟨by omega, l, lk, by rw [e1]; exact a, b, c, ?_⟩
    show Fits lk (wAt ws' k) w
    rw [e2]
    exact d
theorem Sc.snoc {fl : Fl} {es : List Ev} {ws : List Fq} (H : Sc fl es ws) {e : Ev} {w : Fq} (nm : e.name ∈ fl.hs.map Hs.name) (tm : QN 2 60 w ∧ 0 ≤ q w) (st : QN 8 (80 + 960 * (es.length + 1)) e.stamp) (rise : ∀ i, i < es.length → q (wAt ws i) ≤ q w) (dd : DdOk fl es ws e.name w e.deed)
    (go : ∀ i h, lastAt es es.length e.name = some i → driftOf fl e.name = some h → q h.slow * (q w - q (wAt ws i)) ≤ q e.stamp - q (es.getD i dEv).stamp ∧ q e.stamp - q (es.getD i dEv).stamp ≤ q h.fast * (q w - q (wAt ws i)))
    (src : ∀ i, i < es.length → e.name = fl.src → (es.getD i dEv).name = fl.src → q (es.getD i dEv).stamp - q (wAt ws i) = q e.stamp - q w) : Sc fl (es ++ [e]) (ws ++ [w]) := by
  have hl := H.len
  have el : ∀ i, i < (es ++ [e]).length → i < es.length ∨ i = es.length := fun i hi => by simp at hi; omega
  have wr : wAt (ws ++ [w]) es.length = w := by rw [← hl]; exact wget_r
  have wl : ∀ i, i < es.length → wAt (ws ++ [w]) i = wAt ws i := fun i hi => wget_l (by omega)
  have gl : ∀ i, i < es.length → (es ++ [e]).getD i dEv = es.getD i dEv := fun i hi => getD_l hi
  have gr : (es ++ [e]).getD es.length dEv = e := getD_r
  refine ⟨by simp [hl], fun i hi => ?_, fun i hi => ?_, fun i hi => ?_, fun i j ij hj => ?_, fun i hi => ?_, fun j i h hj hi hd => ?_, fun i j hi hj ni nj => ?_⟩
  · rcases el i hi with z | rfl
    · rw [gl i z]; exact H.nm i z
    · rw [gr]; exact nm
  · rcases el i hi with z | rfl
    · rw [wl i z]; exact H.tm i z
    · rw [wr]; exact tm
  · rcases el i hi with z | rfl
    · rw [gl i z]; exact H.st i z
    · rw [gr]; exact st
  · rcases el j hj with z | rfl
    · rw [wl i (by omega), wl j z]; exact H.rise i j ij z
    · rcases Nat.lt_or_ge i es.length with z | z
      · rw [wl i z, wr]; exact rise i z
      · have : i = es.length := by omega
        subst this
        exact Rat.le_refl
  · rcases el i hi with z | rfl
    · rw [gl i z, wl i z, List.take_append_of_le_length (by omega)]
      refine (H.dd i z).ext (fun k hk => ⟨rfl, wl k ?_⟩) (Nat.le_refl _)
      rw [List.length_take] at hk
      omega
    · rw [gr, wr, List.take_append_of_le_length (Nat.le_refl _), List.take_length]
      exact dd.ext (fun k hk => ⟨rfl, wl k hk⟩) (Nat.le_refl _)
  · rcases el j hj with z | rfl
    · rw [gl j z] at hi hd ⊢
      rw [lastAt_app _ (by omega)] at hi
      have := lastAt_lt hi
      rw [wl j z, wl i (by omega), gl i (by omega)]
      exact H.go j i h z hi hd
    · rw [gr] at hi hd ⊢
      rw [lastAt_app _ (Nat.le_refl _)] at hi
      have := lastAt_lt hi
      rw [wr, wl i (by omega), gl i (by omega)]
      exact go i h hi hd
  · rcases el i hi with z | rfl
    · rw [gl i z] at ni ⊢
      rw [wl i z]
      rcases el j hj with z' | rfl
      · rw [gl j z'] at nj ⊢
        rw [wl j z']
        exact H.src i j z z' ni nj
      · rw [gr] at nj ⊢
        rw [wr]
        exact src i z nj ni
    · rw [gr] at ni ⊢
      rw [wr]
      rcases el j hj with z' | rfl
      · rw [gl j z'] at nj ⊢
        rw [wl j z']
        exact (src j z' ni nj).symm
      · rw [gr, wr]
theorem Sc.nil (fl : Fl) : Sc fl [] [] := ⟨rfl, fun i hi => by simp at hi, fun i hi => by simp at hi, fun i hi => by simp at hi, fun i j _ hi => by simp at hi, fun i hi => by simp at hi, fun j i h hi => by simp at hi, fun i j hi => by simp at hi⟩
theorem gait_q {a b : Fq} (h : (a, b) ∈ gaits) : (QN 4 8 a ∧ Fr.Ok 3 a) ∧ (QN 4 8 b ∧ Fr.Ok 3 b) ∧ 0 < q a ∧ q a ≤ 1 ∧ 1 ≤ q b := by
  have go : ∀ (x : Fq) (k : Int), x = mk k 4 → k.natAbs ≤ 8 → QN 4 8 x := fun x k e h => ⟨k, ⟨e, by decide⟩, h⟩
  simp only [gaits, List.mem_cons, List.not_mem_nil, or_false, Prod.mk.injEq] at h
  rcases h with ⟨rfl, rfl⟩ | ⟨rfl, rfl⟩ | ⟨rfl, rfl⟩ | ⟨rfl, rfl⟩ | ⟨rfl, rfl⟩
  · exact ⟨⟨go _ 4 (by decide +kernel) (by decide), by decide, by decide, by decide, by decide⟩, ⟨go _ 4 (by decide +kernel) (by decide), by decide, by decide, by decide, by decide⟩, by decide +kernel, by decide +kernel, by decide +kernel⟩
  · exact ⟨⟨go _ 2 (by decide +kernel) (by decide), by decide, by decide, by decide, by decide⟩, ⟨go _ 8 (by decide +kernel) (by decide), by decide, by decide, by decide, by decide⟩, by decide +kernel, by decide +kernel, by decide +kernel⟩
  · exact ⟨⟨go _ 3 (by decide +kernel) (by decide), by decide, by decide, by decide, by decide⟩, ⟨go _ 5 (by decide +kernel) (by decide), by decide, by decide, by decide, by decide⟩, by decide +kernel, by decide +kernel, by decide +kernel⟩
  · exact ⟨⟨go _ 4 (by decide +kernel) (by decide), by decide, by decide, by decide, by decide⟩, ⟨go _ 6 (by decide +kernel) (by decide), by decide, by decide, by decide, by decide⟩, by decide +kernel, by decide +kernel, by decide +kernel⟩
  · exact ⟨⟨go _ 2 (by decide +kernel) (by decide), by decide, by decide, by decide, by decide⟩, ⟨go _ 4 (by decide +kernel) (by decide), by decide, by decide, by decide, by decide⟩, by decide +kernel, by decide +kernel, by decide +kernel⟩
end K08
namespace K08
open PySem PySem.Spec PyProof.Rows L2 G Th AL K37 KL Fr
end K08
namespace K08
open PySem PySem.Spec PyProof.Rows L2 G Th AL K37 KL Fr
theorem feed_wp (ns : List Int) (h : ns.length ≤ 63) : Wp (feedL_ [.scr ns] []) fun v S => v = .ref 1 ∧ Tp S 0 := by
  refine ⟨.ref 1, [.lst (cutL (ns.map Val.int) none (some 63)), .lst [.ref 0, .int 0, .int 0, .int 0]], ?_, rfl, ?_⟩
  · rfl
  · refine ⟨(ns.drop (HT.sIx ns.length 0 none)).take (HT.sIx ns.length ns.length (some 63) - HT.sIx ns.length 0 none), 0, 0, 0, ?_, rfl, by omega, by omega, by omega, by omega, ?_⟩
    · show some (Ob.lst (cutL (ns.map Val.int) none (some 63))) = _
      unfold cutL
      rw [List.length_map, ← List.map_drop, ← List.map_take]
    · rw [List.length_take, List.length_drop]
      omega
structure Own (es : List Ev) (n : Str) (ks : List Nat) (i : Nat) : Prop where
  len : ks.length ≤ i
  is : ∀ k ∈ ks, k < i ∧ (es.getD k dEv).name = n
  all : ∀ k, k < i → (es.getD k dEv).name = n → k ∈ ks
theorem Own.nil {es : List Ev} {n : Str} : Own es n [] 0 := ⟨Nat.le_refl _, fun _ z => by simp at z, fun _ z => by omega⟩
theorem Own.skip {es : List Ev} {n : Str} {ks : List Nat} {i : Nat} (h : Own es n ks i) (e : (es.getD i dEv).name ≠ n) : Own es n ks (i + 1) := by
  have := h.len
  refine ⟨by omega, fun k hk => ?_, fun k hk hn => ?_⟩
  · have := h.is k hk
    exact ⟨by omega, this.2⟩
  · rcases Nat.lt_or_ge k i with z | z
    · exact h.all k z hn
    · have : k = i := by omega
      subst this
      exact absurd hn e
end K08
namespace K13
open PySem PySem.Spec PyProof.Rows L2 G Th AL K37 KL Fr
open K08 (F8 Sc wAt gait_q)
theorem at_last {xs : List Val} {v : Val} : atI (xs ++ [v]) (-1) = some v := by
  have e : ixN (xs ++ [v]).length (-1) = some xs.length := by
    unfold ixN
    simp
    omega
  unfold atI
  rw [e]
  simp
def Stp (es : List Ev) (a b : Nat) : Prop := (es.getD b dEv).deed = .hear a ∨ lastAt es b (es.getD b dEv).name = some a
inductive Rch (es : List Ev) (x : Nat) : Nat → Prop
  | refl : Rch es x x
  | step {a b : Nat} : Rch es x a → Stp es a b → Rch es x b
section
variable {fl : Fl} {es : List Ev} {ws : List Fq} {x a b k : Nat}
theorem stp_lt (ok : ∀ i, i < es.length → RowOk fl es i) (hb : b < es.length) (h : Stp es a b) : a < b := by
  rcases h with h | h
  · exact ((ok b hb).d a h).2
  · exact lastAt_lt h
theorem stp_row (ok : RowOk fl es b) (h : Stp es a b) : ∃ m ∈ row fl es b, m.x = a := by
  unfold row movesInto
  rcases h with h | h
  · obtain ⟨⟨kl, l, lk, h1, h2⟩, _⟩ := ok.d a h
    have e : linkAt fl es a = some lk := by unfold linkAt; rw [h1]; exact h2
    refine ⟨⟨a, lk.least, lk.most⟩, List.mem_append_right _ ?_, rfl⟩
    rw [h, mv2, e]
    simp
  · obtain ⟨_, ⟨hs, hd, _⟩, _⟩ := ok.l a h
    refine ⟨⟨a, Fr.div (Fr.sub (es.getD b dEv).stamp (es.getD a dEv).stamp) hs.fast, some (Fr.div (Fr.sub (es.getD b dEv).stamp (es.getD a dEv).stamp) hs.slow)⟩, List.mem_append_left _ ?_, rfl⟩
    unfold mv1
    rw [h, hd]
    simp
theorem rch_ge (ok : ∀ i, i < es.length → RowOk fl es i) : ∀ {b}, b < es.length → Rch es x b → x ≤ b ∧ (b = x ∨ ∃ a, Rch es x a ∧ Stp es a b ∧ a < b ∧ x ≤ a) := by
  intro b hb h
  induction h with
  | refl => exact ⟨Nat.le_refl _, .inl rfl⟩
  | step h1 h2 ih =>
    have lt := stp_lt ok hb h2
    have := (ih (by omega)).1
    exact ⟨by omega, .inr ⟨_, h1, h2, lt, this⟩⟩
end
end K13
namespace K13
open PySem PySem.Spec PyProof.Rows L2 G Th AL K37 KL Fr
open K08 (F8 Sc wAt)
abbrev at_ (d : List (Key × Val)) (b : Nat) : Option Val := valA d (.inl (b : Int))
structure Cf (es : List Ev) (x i : Nat) (d : List (Key × Val)) : Prop where
  sz : d.length ≤ 1 + i
  self : at_ d x = some .non
  out : ∀ b v, b ≠ x → at_ d b = some v → ∃ a : Nat, v = .int (a : Int) ∧ Stp es a b ∧ (at_ d a).isSome ∧ b < i ∧ Rch es x b ∧ x < b
  inn : ∀ b, b < i → Rch es x b → (at_ d b).isSome
section
variable {fl : Fl} {es : List Ev} {ws : List Fq} {x i : Nat} {d : List (Key × Val)}
theorem Cf.skip (ok : ∀ i, i < es.length → RowOk fl es i) (h : Cf es x i d) (hi : i < es.length) (no : ∀ m ∈ row fl es i, at_ d m.x = none) : Cf es x (i + 1) d := by
  refine ⟨by have := h.sz; omega, h.self, fun b v hb hv => ?_, fun b hb r => ?_⟩
  · obtain ⟨a, h1, h2, h3, h4, h5⟩ := h.out b v hb hv
    exact ⟨a, h1, h2, h3, by omega, h5⟩
  · rcases Nat.lt_or_ge b i with z | z
    · exact h.inn b z r
    · have : b = i := by omega
      subst this
      obtain ⟨_, rfl | ⟨a, ra, sa, al, _⟩⟩ := rch_ge ok hi r
      · rw [h.self]; rfl
      · obtain ⟨m, hm, rfl⟩ := stp_row (ok b hi) sa
        have := h.inn _ al ra
        rw [no m hm] at this
        cases this
theorem Cf.nil : Cf es x 0 [(.inl (x : Int), .non)] := by
  have e : ∀ b : Nat, at_ [(.inl (x : Int), Val.non)] b = if b = x then some .non else none := fun b => by
    unfold at_ valA
    by_cases c : b = x
    · subst c
      simp
    · have : ¬ (x : Int) = b := by omega
      simp [c, this]
  refine ⟨by simp, by rw [e, if_pos rfl], fun b v hb hv => ?_, fun b hb => by omega⟩
  rw [e, if_neg hb] at hv
  cases hv
end
end K13
namespace K10
open PySem PySem.Spec PyProof.Rows L2 G Th AL K37 KL Fr
structure St (f : Int → Bool) (k : Nat) (g : Nat → Bool) : Prop where
  is : ∀ j : Int, f j = true ↔ ∃ n : Nat, j = (n : Int) ∧ g n = true
  sm : ∀ n, g n = true → n < 64
  ct : k = (List.range 64).countP g
def mem (g : Nat → Bool) : List Nat := (List.range 64).filter g
theorem mem_iff {g : Nat → Bool} (h : ∀ n, g n = true → n < 64) {n : Nat} : n ∈ mem g ↔ g n = true := by
  unfold mem
  rw [List.mem_filter, List.mem_range]
  exact ⟨fun z => z.2, fun z => ⟨h n z, z⟩⟩
theorem mem_rise (g : Nat → Bool) : (mem g).Pairwise (· < ·) := List.pairwise_lt_range.filter g
theorem St.mem {f : Int → Bool} {k : Nat} {g : Nat → Bool} (h : St f k g) : Mem f k ((mem g).map fun n : Nat => (n : Int)) := by
  refine ⟨?_, fun i => ?_, ?_⟩
  · exact List.pairwise_map.mpr ((mem_rise g).imp fun h => by omega)
  · rw [h.is, List.mem_map]
    constructor
    · rintro ⟨n, hn, rfl⟩
      exact ⟨n, rfl, (mem_iff h.sm).mp hn⟩
    · rintro ⟨n, rfl, hn⟩
      exact ⟨n, (mem_iff h.sm).mpr hn, rfl⟩
  · rw [List.length_map, h.ct, List.countP_eq_length_filter]
    rfl
theorem count_add {g : Nat → Bool} {n : Nat} (hg : g n = false) : ∀ {l : List Nat}, l.Nodup → l.countP (fun j => g j || decide (j = n)) = l.countP g + (if n ∈ l then 1 else 0)
  | [], _ => rfl
  | a :: l, h => by
    obtain ⟨h1, h2⟩ := List.nodup_cons.mp h
    have ih := count_add hg h2
    rw [List.countP_cons, List.countP_cons, ih]
    by_cases c : a = n
    · subst c
      simp [hg, h1]
    · have : (n ∈ a :: l) ↔ n ∈ l := by
        rw [List.mem_cons]
        exact ⟨fun z => z.elim (fun z => absurd z.symm c) id, .inr⟩
      simp only [this, decide_eq_false c, Bool.or_false]
      omega
theorem St.add {f : Int → Bool} {k : Nat} {g : Nat → Bool} (h : St f k g) {n : Nat} (hn : n < 64) : St (fun j => f j || decide (j = (n : Int))) (if f (n : Int) = true then k else k + 1) (fun j => g j || decide (j = n)) := by
  have e : f (n : Int) = g n := by
    rw [Bool.eq_iff_iff, h.is]
    exact ⟨fun ⟨m, hm, hg⟩ => by have : n = m := by omega
                                 rw [this]; exact hg, fun hg => ⟨n, rfl, hg⟩⟩
  refine ⟨fun j => ?_, fun m hm => ?_, ?_⟩
  · rw [Bool.or_eq_true, h.is, decide_eq_true_eq]
    constructor
    · rintro (⟨m, rfl, hm⟩ | rfl)
      · exact ⟨m, rfl, by rw [hm]; rfl⟩
      · exact ⟨n, rfl, by simp⟩
    · rintro ⟨m, rfl, hm⟩
      rcases Bool.or_eq_true _ _ ▸ hm with z | z
      · exact .inl ⟨m, rfl, z⟩
      · exact .inr (by have := of_decide_eq_true z; omega)
  · rcases Bool.or_eq_true _ _ ▸ hm with z | z
    · exact h.sm m z
    · have := of_decide_eq_true z
      omega
  · rw [e, h.ct]
    by_cases c : g n = true
    · rw [if_pos c]
      congr 1
      funext j
      by_cases z : j = n
      · subst z
        simp [c]
      · simp [z]
    · rw [if_neg c, count_add (by simpa using c) List.nodup_range, if_pos (List.mem_range.mpr hn)]
theorem St.zero : St (fun _ => false) 0 fun _ => false := ⟨fun j => by simp, fun n h => (by simp at h), by simp⟩
theorem St.lt {f : Int → Bool} {k : Nat} {g : Nat → Bool} (h : St f k g) : k ≤ 64 := by
  rw [h.ct]
  have := List.countP_le_length (p := g) (l := List.range 64)
  rwa [List.length_range] at this
theorem St.few {f : Int → Bool} {k m : Nat} {g : Nat → Bool} (h : St f k g) (hm : m ≤ 64) (hg : ∀ n, g n = true → n < m) : k ≤ m := by
  rw [h.ct, List.countP_eq_length_filter]
  have s : ((List.range 64).filter g).Sublist (List.range 64) := List.filter_sublist
  have e : (List.range 64).filter g = (List.range m).filter g := by
    have : List.range 64 = List.range m ++ (List.range (64 - m)).map (m + ·) := by
      rw [← List.range_add]
      congr 1
      omega
    rw [this, List.filter_append]
    have : ((List.range (64 - m)).map (m + ·)).filter g = [] := by
      rw [List.filter_eq_nil_iff]
      intro a ha z
      obtain ⟨b, _, rfl⟩ := List.mem_map.mp ha
      have := hg _ z
      omega
    rw [this, List.append_nil]
  rw [e]
  have := List.length_filter_le g (List.range m)
  rwa [List.length_range] at this
section
variable {fl : Fl} {es : List Ev} {S : Sto} {x : Nat}

def hr (e : Ev) : List Nat := match e.deed with
  | .hear k => [k]
  | _ => []
def el (es : List Ev) (i : Nat) : List Nat := (lastAt es i (es.getD i dEv).name).toList
def nb (es : List Ev) (i : Nat) : List Nat := el es i ++ hr (es.getD i dEv)
def Hs (es : List Ev) (x : Nat) : Nat → Nat → Bool
  | 0, j => decide (j = x)
  | i + 1, j => Hs es x i j || (Hs es x i (x - i) && decide (j ∈ nb es (x - i)))
end
end K10
namespace K47
open PySem PySem.Spec PyProof.Rows L2 G Th AL
open K37 (common_divisor_ common_divisor_B is_below_ is_below_B)
end K47
namespace K47
open PySem PySem.Spec PyProof.Rows L2 G Th AL K37 KL Fr
def lowOk (p : Pr) (x : Fq) : Bool := match p.1 with
  | none => true
  | some l => !decide (x.1 * l.2 < l.1 * x.2)
def highOk (p : Pr) (x : Fq) : Bool := match p.2 with
  | none => true
  | some h => !decide (h.1 * x.2 < x.1 * h.2)
def isIn (p : Pr) (x : Fq) : Bool := lowOk p x && highOk p x
structure SpOk (p : Pr) : Prop where
  lo : ∀ l, p.1 = some l → Bd l
  hi : ∀ h, p.2 = some h → Bd h
def count (ps : List Pr) (x : Fq) : Nat := (ps.filter fun p => isIn p x).length
def opens (b : Bool) (ps : List Pr) : Nat := (ps.filter fun p => (sel b p).isNone).length
def most (ps : List Pr) : Int := maxI (opens false ps : Nat) ((ps.filterMap (sel false)).map fun e => (count ps e : Int))
end K47
namespace K47
open PySem PySem.Spec PyProof.Rows L2 G Th AL K37 KL Fr
section
variable {ps ts ls : List Pr} {x : Fq} {need : Int}
end
section
variable {S : Sto} {Q : Val → Sto → Prop}
end
end K47
namespace K47
open PySem PySem.Spec PyProof.Rows L2 G Th AL K37 KL Fr
theorem qn_bd {x : Fq} {M : Nat} (h : QN 6 M x) (hM : M < 2 ^ 20) : Bd x := Bd.of (h.ok (n := 20) hM (by decide)) (by decide)
theorem b3 {b : Int} (hb : b = 1 ∨ b = 2 ∨ b = 3) : 0 < b ∧ b.natAbs < 2 ^ 2000 := by
  rcases hb with rfl | rfl | rfl <;> exact ⟨by decide, by decide⟩
def Sp6 (p : Pr) : Prop := ∀ b x, sel b p = some x → QN 6 200 x
theorem Sp6.ok {p : Pr} (h : Sp6 p) : SpOk p := ⟨fun l e => qn_bd (h false l e) (by decide), fun l e => qn_bd (h true l e) (by decide)⟩
theorem Sp6.bd {p : Pr} (h : Sp6 p) : ∀ b, BdO (sel b p) := fun b x e => qn_bd (h b x e) (by decide)
end K47
namespace AL
theorem vListT {S : Sto} {Q : Val → Sto → Prop} {x : Val} {vs : List Val} (hx : x = .tup vs) (q : Nw S (.lst vs) Q) : Wp (gList [x] S) Q := by
  subst hx
  exact ⟨_, _, rfl, q.use⟩
end AL
namespace K47
open PySem PySem.Spec PyProof.Rows L2 G Th AL K37 KL Fr
def g0 : Val → Val := fun v => match v with
  | .tup (a :: _) => a
  | _ => .non
def g1 : Val → Val := fun v => match v with
  | .tup (_ :: a :: _) => a
  | _ => .non
end K47
namespace K19
open PySem PySem.Spec PyProof.Rows L2 G Th AL K37 KL Fr
open K08 (wm wd ws_cut)
structure Tq (S : Sto) (B : Int) : Prop where
  ex : ∃ (ns : List Int) (n q i : Int), S[1]? = some (.lst (ns.map .int)) ∧ S[2]? = some (.lst [.ref 1, .int n, .int q, .int i]) ∧ 0 ≤ n ∧ n ≤ B ∧ 0 ≤ q ∧ 0 ≤ i ∧ ns.length ≤ 63
theorem Tq.mono {S : Sto} {B B' : Int} (h : Tq S B) (hb : B ≤ B') : Tq S B' := by
  obtain ⟨ns, n, q, i, h0, h1, a, b, c, d, e⟩ := h.ex
  exact ⟨ns, n, q, i, h0, h1, a, by omega, c, d, e⟩
theorem Tq.kx {S T : Sto} {B : Int} {m : Nat} (h : Tq S B) (k : Kx m S T) (hn : 3 ≤ m) : Tq T B := by
  obtain ⟨ns, n, q, i, h0, h1, r⟩ := h.ex
  exact ⟨ns, n, q, i, k _ _ (by omega) h0, k _ _ (by omega) h1, r⟩
theorem Tq.fr {S T : Sto} {B : Int} (h : Tq S B) (k : Kn S T) : Tq T B := h.kx (k.kx 3) (by omega)
end K19
namespace K19
open PySem PySem.Spec PyProof.Rows L2 G Th AL K37 KL Fr
open K08 (wm wd ws_cut)
structure L9 (c : Int) (l : Lk) : Prop where
  a : ∃ n : Int, l.least = Fr.mk n 2 ∧ 0 ≤ n ∧ n ≤ c
  b : ∀ m, l.most = some m → ∃ n : Int, m = Fr.mk n 2 ∧ 0 ≤ n ∧ n ≤ 200
  tx : TxOk l.fr ∧ TxOk l.to
structure F9 (c : Int) (fl : Fl) : Prop where
  nd : (fl.hs.map Hs.name).Nodup
  ne : 0 < fl.hs.length
  few : fl.hs.length ≤ 6
  rate : ∀ h ∈ fl.hs, h.slow ∈ slows ∧ h.fast ∈ fasts
  lk : ∀ l ∈ fl.ls, L9 c l
  lfew : fl.ls.length ≤ 8
  tx : (∀ h ∈ fl.hs, TxOk h.name) ∧ TxOk fl.src
  so : ∀ h ∈ fl.hs, h.name = fl.src → h.slow = (1, 1) ∧ h.fast = (1, 1)
theorem perm_erase {α : Type} : ∀ {l : List α} {k : Nat} {x : α}, l[k]? = some x → (x :: l.eraseIdx k).Perm l
  | [], k, x, h => by simp at h
  | y :: l, 0, x, h => by
    simp at h
    subst h
    exact List.Perm.refl _
  | y :: l, k + 1, x, h => by
    have h : l[k]? = some x := by simpa using h
    exact (List.Perm.swap _ _ _).trans ((perm_erase h).cons y)
end K19
namespace K19
open PySem PySem.Spec PyProof.Rows L2 G Th AL K37 KL Fr
open K08 (wm wd ws_cut)
def r4 (x : Fq) : Int := x.1 * 4 / x.2

end K19
namespace K19
open PySem PySem.Spec PyProof.Rows L2 G Th AL K37 KL Fr
open K08 (wm wd ws_cut)
def StB (b : Nat) (x : Fq) : Prop := ∃ k : Int, x = Fr.mk k 4 ∧ k.natAbs ≤ b

structure H9 (b : Nat) (fl : Fl) (es : List Ev) : Prop where
  len : es.length ≤ 30
  ev : ∀ i, i < es.length → EvOk fl es i
  st : ∀ i, i < es.length → StB b (es.getD i dEv).stamp

structure Tr9 (fl : Fl) (es : List Ev) (ts : List Int) : Prop where
  len : ts.length = es.length
  up : ∀ j i, j < i → i < es.length → ts.getD j 0 ≤ ts.getD i 0
  same : ∀ i j h, i < es.length → lastAt es i (es.getD i dEv).name = some j → driftOf fl (es.getD i dEv).name = some h → ∃ k1 k0 rt : Int, (es.getD i dEv).stamp = Fr.mk k1 4 ∧ (es.getD j dEv).stamp = Fr.mk k0 4 ∧ k1 = k0 + (ts.getD i 0 - ts.getD j 0) * rt ∧ r4 h.slow ≤ rt ∧ rt ≤ r4 h.fast
  hear : ∀ i k, i < es.length → (es.getD i dEv).deed = .hear k → ∃ l lk, (es.getD k dEv).deed = .send l ∧ fl.ls[l]? = some lk ∧ lk.least.1 ≤ (ts.getD i 0 - ts.getD k 0) * lk.least.2 ∧ ∀ m, lk.most = some m → (ts.getD i 0 - ts.getD k 0) * m.2 ≤ m.1
  hr : ∀ j, j < es.length → 0 ≤ ts.getD j 0 ∧ ts.getD j 0 ≤ 90
theorem getI_l {ts : List Int} {t : Int} {j : Nat} (h : j < ts.length) : (ts ++ [t]).getD j 0 = ts.getD j 0 := by
  simp [List.getD, List.getElem?_append_left h]
theorem getI_r {ts : List Int} {t : Int} : (ts ++ [t]).getD ts.length 0 = t := by simp [List.getD]
theorem last_app {es : List Ev} {e : Ev} {n : Str} : ∀ {i : Nat}, i ≤ es.length → lastAt (es ++ [e]) i n = lastAt es i n
  | 0, _ => rfl
  | i + 1, h => by
    unfold lastAt
    rw [getD_l (by omega), last_app (by omega)]
theorem Tr9.snoc {fl : Fl} {es : List Ev} {ts : List Int} {e : Ev} {t : Int} (h : Tr9 fl es ts) (hev : ∀ j, j < es.length → EvOk fl es j) (up : ∀ j, j < es.length → ts.getD j 0 ≤ t) (hr : 0 ≤ t ∧ t ≤ 90)
    (same : ∀ j g, lastAt es es.length e.name = some j → driftOf fl e.name = some g → ∃ k1 k0 rt : Int, e.stamp = Fr.mk k1 4 ∧ (es.getD j dEv).stamp = Fr.mk k0 4 ∧ k1 = k0 + (t - ts.getD j 0) * rt ∧ r4 g.slow ≤ rt ∧ rt ≤ r4 g.fast)
    (hear : ∀ k, e.deed = .hear k → k < es.length ∧ ∃ l lk, (es.getD k dEv).deed = .send l ∧ fl.ls[l]? = some lk ∧ lk.least.1 ≤ (t - ts.getD k 0) * lk.least.2 ∧ ∀ m, lk.most = some m → (t - ts.getD k 0) * m.2 ≤ m.1) : Tr9 fl (es ++ [e]) (ts ++ [t]) := by
  have len := h.len
  have cases_ : ∀ i, i < (es ++ [e]).length → i < es.length ∨ i = es.length := fun i hi => by simp at hi; omega
  have te : (ts ++ [t]).getD es.length 0 = t := by rw [← len]; exact getI_r
  refine ⟨by simp [len], fun j i hji hi => ?_, fun i j g hi hl hd => ?_, fun i k hi hd => ?_, fun i hi => ?_⟩
  · rcases cases_ i hi with c | rfl
    · rw [getI_l (by omega), getI_l (by omega)]
      exact h.up j i hji c
    · rw [te, getI_l (by omega)]
      exact up j hji
  · have lt := lastAt_lt hl
    rcases cases_ i hi with c | rfl
    · rw [getD_l c] at hl hd ⊢
      rw [last_app (by omega)] at hl
      rw [getD_l (by omega), getI_l (by omega), getI_l (by omega)]
      exact h.same i j g c hl hd
    · rw [getD_r] at hl hd ⊢
      rw [last_app (Nat.le_refl _)] at hl
      rw [getD_l lt, te, getI_l (by omega)]
      exact same j g hl hd
  · rcases cases_ i hi with c | rfl
    · rw [getD_l c] at hd
      have lk := ((hev i c).hear k hd).1
      rw [getD_l (by omega), getI_l (by omega), getI_l (by omega)]
      exact h.hear i k c hd
    · rw [getD_r] at hd
      obtain ⟨lk, r⟩ := hear k hd
      rw [getD_l lk, te, getI_l (by omega)]
      exact r
  · rcases cases_ i hi with c | rfl
    · rw [getI_l (by omega)]
      exact h.hr i c
    · rw [te]
      exact hr
end K19
namespace K19
open PySem PySem.Spec PyProof.Rows L2 G Th AL K37 KL Fr
open K08 (wm wd ws_cut)
section
variable {S : Sto} {Q : Val → Sto → Prop} {x y : Val} {ks : List Nat} {k : Nat}
end

structure Ro (es : List Ev) (lf od : List Nat) : Prop where
  pm : (od ++ lf).Perm (List.range es.length)
  up : lf.Pairwise (· < ·)
  hr : ∀ p n k, od[p]? = some n → (es.getD n dEv).deed = .hear k → k ∈ od.take p
theorem Ro.lt {es : List Ev} {lf od : List Nat} (h : Ro es lf od) {n : Nat} (hn : n ∈ od ++ lf) : n < es.length := List.mem_range.mp (h.pm.mem_iff.mp hn)
theorem Ro.all {es : List Ev} {lf od : List Nat} (h : Ro es lf od) {n : Nat} (hn : n < es.length) : n ∈ od ++ lf := h.pm.mem_iff.mpr (List.mem_range.mpr hn)
theorem Ro.step {es : List Ev} {lf od : List Nat} (h : Ro es lf od) {n j : Nat} (hj : lf[j]? = some n) (hk : ∀ k, (es.getD n dEv).deed = .hear k → k ∈ od) : Ro es (lf.eraseIdx j) (od ++ [n]) := by
  refine ⟨?_, h.up.sublist (List.eraseIdx_sublist _ _), fun p m k hp hd => ?_⟩
  · refine List.Perm.trans ?_ h.pm
    rw [List.append_assoc]
    exact (perm_erase hj).append_left od
  · rcases Nat.lt_trichotomy p od.length with c | c | c
    · rw [List.getElem?_append_left c] at hp
      rw [List.take_append_of_le_length (by omega)]
      exact h.hr p m k hp hd
    · subst c
      rw [List.getElem?_append_right (Nat.le_refl _)] at hp
      simp at hp
      subst hp
      rw [List.take_append_of_le_length (Nat.le_refl _), List.take_length]
      exact hk k hd
    · rw [List.getElem?_eq_none (by simp; omega)] at hp
      cases hp
end K19
namespace K10
open K08 (ws_cut)
open PySem PySem.Spec PyProof.Rows L2 G Th AL K37 KL Fr
theorem keys_at {kvs : List (Key × Val)} {ks : List Int} (h : keysI kvs = some ks) (i : Int) : (valA kvs (.inl i)).isSome = decide (i ∈ ks) := by
  have e := keysI_eq h
  have m : i ∈ ks ↔ (Sum.inl i : Key) ∈ kvs.map (·.1) := by
    rw [e, List.mem_map]
    exact ⟨fun z => ⟨i, z, rfl⟩, fun ⟨j, z, y⟩ => by cases y; exact z⟩
  unfold valA
  rw [Option.isSome_map, Bool.eq_iff_iff, List.find?_isSome, decide_eq_true_eq, m, List.mem_map]
  exact ⟨fun ⟨a, z, y⟩ => ⟨a, z, of_decide_eq_true y⟩, fun ⟨a, z, y⟩ => ⟨a, z, decide_eq_true y⟩⟩
structure Ks (kvs : List (Key × Val)) (g : Nat → Bool) : Prop where
  ex : ∃ ks : List Int, keysI kvs = some ks ∧ ks.Nodup ∧ ∀ j : Int, j ∈ ks ↔ ∃ n : Nat, j = (n : Int) ∧ g n = true
theorem Ks.at {kvs : List (Key × Val)} {g : Nat → Bool} (h : Ks kvs g) (n : Nat) : (valA kvs (.inl (n : Int))).isSome = g n := by
  obtain ⟨ks, h1, h2, h3⟩ := h
  rw [keys_at h1, Bool.eq_iff_iff, decide_eq_true_eq, h3]
  exact ⟨fun ⟨m, e, z⟩ => by have : n = m := by omega
                             rw [this]; exact z, fun z => ⟨n, rfl, z⟩⟩
theorem Ks.sorted {kvs : List (Key × Val)} {g : Nat → Bool} (h : Ks kvs g) (sm : ∀ n, g n = true → n < 64) : ∃ ks, keysI kvs = some ks ∧ sortI ks = (mem g).map fun n : Nat => (n : Int) := by
  obtain ⟨ks, h1, h2, h3⟩ := h
  refine ⟨ks, h1, (sortI_uniq ?_ ?_).symm⟩
  · refine (List.perm_ext_iff_of_nodup ?_ h2).mpr fun j => ?_
    · exact ((mem_rise g).map (S := (· < · : Int → Int → Prop)) _ (fun a b h => by omega)).imp (fun h => by omega)
    · rw [h3, List.mem_map]
      exact ⟨fun ⟨n, z, e⟩ => ⟨n, e.symm, (mem_iff sm).mp z⟩, fun ⟨n, e, z⟩ => ⟨n, (mem_iff sm).mpr z, e.symm⟩⟩
  · exact (mem_rise g).map (S := (· ≤ · : Int → Int → Prop)) _ (fun a b h => by omega)
section
variable {fl : Fl} {es : List Ev} {S : Sto} {x : Nat}
end
end K10
namespace AL
open PySem PySem.Spec PyProof.Rows L2 G Th
end AL
namespace K10
open PySem PySem.Spec PyProof.Rows L2 G Th AL K37 KL Fr
open K08 (F8 Sc feed_wp DdOk)
section
variable {fl : Fl} {es : List Ev} {ws : List Fq} {S : Sto} {x : Nat}
end
end K10
namespace K14
open PySem PySem.Spec PyProof.Rows L2 G Th AL K37 KL Fr
open K08 (F8 Sc wAt gaits)
def own (es : List Ev) (a b : Nat) : Prop := a < b ∧ (es.getD a dEv).name = (es.getD b dEv).name
instance (es : List Ev) (a b : Nat) : Decidable (own es a b) := by unfold own; infer_instance
abbrev Bo := Fq × Option Fq
structure BoQ (M : Nat) (s : Bo) : Prop where
  lo : QN 240 M s.1
  hi : ∀ m, s.2 = some m → QN 240 M m
theorem BoQ.mono {M M' : Nat} {s : Bo} (h : BoQ M s) (l : M ≤ M') : BoQ M' s := ⟨h.lo.mono l, fun m e => (h.hi m e).mono l⟩
section
variable {fl : Fl} {es : List Ev} {S : Sto} {a b : Nat}
end
end K14
namespace K14
open PySem PySem.Spec PyProof.Rows L2 G Th AL K37 KL Fr
open K08 (F8 Sc wAt gaits)
def addB (s t : Bo) : Bo := (Fr.add s.1 t.1, addO s.2 t.2)
theorem BoQ.add {M M' : Nat} {s t : Bo} (h : BoQ M s) (h' : BoQ M' t) : BoQ (M + M') (addB s t) := by
  refine ⟨h.lo.add h'.lo, fun m e => ?_⟩
  unfold addB addO at e
  dsimp only at e
  split at e
  · next x y ex ey =>
    cases e
    exact (h.hi _ ex).add (h'.hi _ ey)
  · cases e
theorem BoQ.bd {M : Nat} {s : Bo} (h : BoQ M s) (l : M < 2 ^ 40) : Bd s.1 ∧ BdO s.2 := ⟨Bd.of (h.lo.ok (n := 40) l (by decide)) (by decide), fun m e => Bd.of ((h.hi m e).ok (n := 40) l (by decide)) (by decide)⟩
section
variable {fl : Fl} {es : List Ev} {S : Sto} {a b : Nat}
end
end K14
namespace K13
open PySem PySem.Spec PyProof.Rows L2 G Th AL K37 KL Fr
open K08 (F8 Sc wAt)
end K13
namespace K13
open PySem PySem.Spec PyProof.Rows L2 G Th AL K37 KL Fr
open K08 (F8 Sc wAt)
section
variable {fl : Fl} {es : List Ev} {ws : List Fq} {x : Nat} {S : Sto} {Q : Val → Sto → Prop}
end
end K13
namespace K14
open PySem PySem.Spec PyProof.Rows L2 G Th AL K37 KL Fr
open K08 (F8 Sc wAt gaits)
open K13 (Stp Rch)
open K10 (nb)
theorem Ok.n0 {n : Nat} {x : Fq} (h : Fr.Ok n x) : x.2 ≠ 0 := by have := h.pos; omega
section
variable {fl : Fl} {es : List Ev} {ws : List Fq} {S : Sto} {a b : Nat}
end
end K14
namespace K14
open PySem PySem.Spec PyProof.Rows L2 G Th AL K37 KL Fr
open K08 (F8 Sc wAt gaits)
open K13 (Stp Rch)
open K10 (nb)
section
variable {fl : Fl} {es : List Ev} {ws : List Fq} {S : Sto} {a b : Nat}
end
end K14
namespace K14
open PySem PySem.Spec PyProof.Rows L2 G Th AL K37 KL Fr
open K10 (nb)
section
variable {fl : Fl} {es : List Ev} {y a b : Nat}
end
end K14
namespace K14
open PySem PySem.Spec PyProof.Rows L2 G Th AL K37 KL Fr
open K37 (common_divisor_ common_divisor_B is_below_ is_below_B)
open K08 (feedL_ feedL_B drawL_ drawL_B divisorL_ divisorL_B madeL_ madeL_B fieldL_ fieldL_B)


open K08 (F8 Sc wAt gaits ws_cut)
open K10 (hr nb mem mem_rise Hs St)
section
variable {fl : Fl} {es : List Ev} {S : Sto} {x y : Nat}
end
end K14
namespace AL
open PySem PySem.Spec PyProof.Rows L2 G Th K37
structure Dt (S : Sto) (n w : Nat) (v : Val) (d : PyData) : Prop where
  ok : okD d = true
  wt : d.weight ≤ w
  dp : d.depth ≤ n
  td : ∀ k, n < k → toD S k v = some d
structure DtL (S : Sto) (n w : Nat) (vs : List Val) (ds : List PyData) : Prop where
  ok : okAll ds = true
  wt : PyData.weightAll ds ≤ w
  dp : PyData.depthAll ds ≤ n
  td : ∀ k, n < k → mapO (toD S k) vs = some ds
theorem Dt.of {n w : Nat} {v : Val} (h : Sh n w v) : ∃ d, ∀ S, Dt S n w v d := by
  obtain ⟨d, h1, h2, h3, h4⟩ := h
  exact ⟨d, fun S => ⟨h1, h2, h3, fun k hk => h4 S k hk⟩⟩
theorem DtL.nil {S : Sto} {n w : Nat} : DtL S n w [] [] := ⟨rfl, by simp [PyData.weightAll], by simp [PyData.depthAll], fun _ _ => rfl⟩
theorem DtL.cons {S : Sto} {n w w' : Nat} {v : Val} {vs : List Val} {d : PyData} {ds : List PyData} (h : Dt S n w v d) (g : DtL S n w' vs ds) : DtL S n (w + w' + 1) (v :: vs) (d :: ds) := by
  have h2 := h.wt
  have g2 := g.wt
  have h3 := h.dp
  have g3 := g.dp
  refine ⟨?_, ?_, ?_, fun k hk => ?_⟩
  · show (okD d && okAll ds) = true
    rw [h.ok, g.ok]
    rfl
  · show d.weight + 1 + PyData.weightAll ds ≤ _
    omega
  · simp only [PyData.depthAll]
    omega
  · unfold mapO
    rw [h.td k hk, g.td k hk]
    rfl
theorem Dt.mono {S : Sto} {n w n' w' : Nat} {v : Val} {d : PyData} (h : Dt S n w v d) (hn : n ≤ n') (hw : w ≤ w') : Dt S n' w' v d := ⟨h.ok, by have := h.wt; omega, by have := h.dp; omega, fun k hk => h.td k (by omega)⟩
theorem Dt.lst {S : Sto} {n w a : Nat} {vs : List Val} {ds : List PyData} (h : S[a]? = some (.lst vs)) (r : DtL S n w vs ds) : Dt S (n + 1) w (.ref a) (.list ds) := by
  refine ⟨r.ok, r.wt, by have := r.dp; simp only [PyData.depth]; omega, fun k hk => ?_⟩
  obtain ⟨k, rfl⟩ : ∃ j, k = j + 1 := ⟨k - 1, by omega⟩
  rw [toD]
  simp only [h]
  rw [r.td k (by omega)]
  rfl
theorem Dt.tup {S : Sto} {n w : Nat} {vs : List Val} {ds : List PyData} (r : DtL S n w vs ds) : Dt S (n + 1) w (.tup vs) (.tuple ds) := by
  refine ⟨r.ok, r.wt, by have := r.dp; simp only [PyData.depth]; omega, fun k hk => ?_⟩
  obtain ⟨k, rfl⟩ : ∃ j, k = j + 1 := ⟨k - 1, by omega⟩
  show (mapO (toD S k) vs).map PyData.tuple = _
  rw [r.td k (by omega)]
  rfl
theorem Dt.str {S : Sto} {x : Str} (h : TxOk x) : Dt S 0 8 (.str x) (.str x) := by
  refine ⟨h.1, by simp only [PyData.weight]; exact h.2, by simp [PyData.depth], fun k hk => ?_⟩
  obtain ⟨k, rfl⟩ : ∃ j, k = j + 1 := ⟨k - 1, by omega⟩
  rfl
theorem Dt.repr {S : Sto} {n w : Nat} {v : Val} {d : PyData} (h : Dt S n w v d) (hn : n < 40) (hw : w ≤ 40000) : gRepr [v] S = some (.str d.shown, S) := by
  have h2 := h.wt
  have h3 := h.dp
  unfold gRepr
  simp only [h.td 40 hn]
  rw [if_pos ⟨h.ok, by omega, by omega⟩]

end AL
namespace K14
open PySem PySem.Spec PyProof.Rows L2 G Th AL K37 KL Fr
open K08 (F8 Sc wAt gaits ws_cut)
open K37 (common_divisor_ common_divisor_B is_below_ is_below_B)
open K08 (feedL_ feedL_B drawL_ drawL_B divisorL_ divisorL_B madeL_ madeL_B fieldL_ fieldL_B)


section
variable {S : Sto} {Q : Val → Sto → Prop} {n w : Nat}
end
section
variable {fl : Fl} {es : List Ev} {ws : List Fq} {S : Sto} {Q : Val → Sto → Prop} {a b x y : Nat}
end
end K14
namespace K14
open PySem PySem.Spec PyProof.Rows L2 G Th AL K37 KL Fr
open K08 (F8 Sc wAt gaits ws_cut feed_wp draw_wp)
open K37 (common_divisor_ common_divisor_B is_below_ is_below_B)
open K08 (feedL_ feedL_B drawL_ drawL_B divisorL_ divisorL_B madeL_ madeL_B fieldL_ fieldL_B)



open K13 (Stp Rch)

section
variable {fl : Fl} {es : List Ev} {ws : List Fq} {S : Sto} {Q : Val → Sto → Prop} {a b x y : Nat}
end
end K14
namespace Od
open PySem PySem.Spec PyProof.Rows L2
inductive Tr where
  | i (n : Int)
  | s (l : List Nat)
  | t (l : List Tr)
mutual
def bq : Tr → Tr → Bool
  | .i a, .i b => decide (a = b)
  | .s a, .s b => decide (a = b)
  | .t a, .t b => bqs a b
  | _, _ => false
def bqs : List Tr → List Tr → Bool
  | [], [] => true
  | x :: xs, y :: ys => bq x y && bqs xs ys
  | _, _ => false
end
mutual
def lt : Tr → Tr → Bool
  | .i a, .i b => decide (a < b)
  | .i _, .s _ => true
  | .i _, .t _ => true
  | .s _, .i _ => false
  | .s a, .s b => strKind.blt a b
  | .s _, .t _ => true
  | .t _, .i _ => false
  | .t _, .s _ => false
  | .t a, .t b => lts a b
def lts : List Tr → List Tr → Bool
  | [], [] => false
  | [], _ :: _ => true
  | _ :: _, [] => false
  | x :: xs, y :: ys => if bq x y = true then lts xs ys else lt x y
end
mutual
def toT : PyData → Tr
  | .int a => .i a
  | .str x => .s x.cps.toList
  | .tuple xs => .t (toTs xs)
  | _ => .i 0
def toTs : List PyData → List Tr
  | [] => []
  | x :: xs => toT x :: toTs xs
end
mutual
def sm : PyData → PyData → Bool
  | .int _, .int _ => true
  | .str _, .str _ => true
  | .tuple xs, .tuple ys => sms xs ys
  | _, _ => false
def sms : List PyData → List PyData → Bool
  | [], _ => true
  | _ :: _, [] => true
  | x :: xs, y :: ys => sm x y && sms xs ys
end
end Od
namespace Od
open PySem PySem.Spec PyProof.Rows L2 SeqAt
open PySem.W (KatLex KatTups kat_lt kat_nil kat_cons kat_go kat_yes kat_no kat_kind)
end Od
namespace Od
open PySem PySem.Spec PyProof.Rows L2 SeqAt

def Old (g h : Heap) : Prop := ∀ b o, g.get? b = some o → h.get? b = some o
section
variable {pr : Program} {wd : World} {Ar : Around} {Rs : Result → Shared → Prop} {It ax : Addr} {its : Array Value} {g : Heap}
theorem Old.up {h1 h2 : Heap} {I S : Addr} (o : Old g h1) (gI : ∀ b x, g.get? b = some x → b ≠ I) (k : ∀ b x, b ∉ [I] → h1.get? b = some x → h2.get? b = some x) : Old g h2 := fun b x e => k b x (fun m => gI b x e (List.mem_singleton.mp m)) (o b x e)
end
end Od
namespace AL
open PySem PySem.Spec PyProof.Rows L2 G Th Od
variable [TT]
mutual
def dV : Val → PyData
  | .int i => .int i
  | .str x => .str x
  | .tup vs => .tuple (dVs vs)
  | _ => .none
def dVs : List Val → List PyData
  | [] => []
  | v :: vs => dV v :: dVs vs
end
def trV (v : Val) : Tr := toT (dV v)
def ltV (a b : Val) : Bool := lt (trV a) (trV b)
def Srt (l : List Val) : Prop := l.Pairwise fun x y => ltV y x = false
section
variable {K : PySem.W.Frag}
end
section
variable {X : Cx} {K : PySem.W.Frag}
end
end AL
namespace AL
open PySem PySem.Spec PyProof.Rows L2 G Th
variable [TT]

structure FunW (K : PySem.W.Frag) (x qual : Str) (st : Stmt) (f : Addr) (fd : FuncData) : Prop where
  ex : ∃ (oc : Value) (od : Option Addr) (dV kV doc pm : Value) (an : Option Addr) (cdv ct : Value) (osl : Array (Option Value)),
    fd = PySem.W.fnOf x qual (defArgs st) (defBody st) (defScope st) dV kV doc pm an cdv ct ∧ K.lookup f = some ⟨oc, od, .func fd, osl⟩ ∧ PySem.W.codeIn K cdv qual = true
omit [TT] in
theorem FunW.of {K : PySem.W.Frag} {x qual : Str} {st : Stmt} {f : Addr} {fd : FuncData} {dvs : List V} {kws : List (Str × V)} (F : FunD K x qual (defArgs st) (defBody st) (defScope st) dvs kws f fd) : FunW K x qual st f fd := by
  obtain ⟨oc, od, dV, kV, doc, pm, an, cdv, ct, osl, e, lk, hcd, _, _⟩ := F.ex
  exact ⟨oc, od, dV, kV, doc, pm, an, cdv, ct, osl, e, lk, hcd⟩
end AL
namespace K57
open PySem PySem.Spec PyProof.Rows L2 G Th AL
end K57
namespace AL
open PySem PySem.Spec PyProof.Rows L2 G Th
end AL
namespace K57
open PySem PySem.Spec PyProof.Rows L2 G Th AL KL Fr
open K37 (fmod_lt small_pow pow18 at_ints p60 p40 p62 natV)
open K08 (wm wd ws_cut)
def fd (i q n : Int) : List (Key × Val) := [(.inr "cells", .ref 2), (.inr "at", .int i), (.inr "left", .int q), (.inr "turn", .int n)]
structure Tf (S : Sto) (B : Int) : Prop where
  ex : ∃ (ns : List Int) (i q n : Int), S[2]? = some (.lst (ns.map .int)) ∧ S[0]? = some (.dic (fd i q n)) ∧ 0 ≤ i ∧ 0 ≤ q ∧ 0 ≤ n ∧ n ≤ B ∧ ns.length ≤ 63
theorem Tf.mono {S : Sto} {B B' : Int} (h : Tf S B) (hb : B ≤ B') : Tf S B' := by
  obtain ⟨ns, i, q, n, h0, h1, a, b, c, d, e⟩ := h.ex
  exact ⟨ns, i, q, n, h0, h1, a, b, c, by omega, e⟩
theorem Tf.fr {S T : Sto} {B : Int} (h : Tf S B) (k : Kn S T) : Tf T B := by
  obtain ⟨ns, i, q, n, h0, h1, r⟩ := h.ex
  exact ⟨ns, i, q, n, k _ _ h0, k _ _ h1, r⟩
theorem Tf.kx {S T : Sto} {B : Int} {n : Nat} (h : Tf S B) (k : Kx n S T) (hn : 3 ≤ n) : Tf T B := by
  obtain ⟨ns, i, q, m, h0, h1, r⟩ := h.ex
  exact ⟨ns, i, q, m, k _ _ (by omega) h0, k _ _ (by omega) h1, r⟩
end K57
namespace K57
open PySem PySem.Spec PyProof.Rows L2 G Th AL KL Fr
open K37 (fmod_lt p60 p40 p62 natV)
open K08 (ws_cut)

def K2 (a b : Nat) (S T : Sto) : Prop := ∀ (k : Nat) (o : Ob), k ≠ a → k ≠ b → S[k]? = some o → T[k]? = some o
theorem K2.refl {a b : Nat} (S : Sto) : K2 a b S S := fun _ _ _ _ h => h
theorem K2.trans {a b : Nat} {S T U : Sto} (h : K2 a b S T) (g : K2 a b T U) : K2 a b S U := fun k o x y z => g k o x y (h k o x y z)
theorem Tf.k2 {S T : Sto} {B : Int} {n : Nat} (h : Tf S B) (k : Kx n S T) (hn : 3 ≤ n) : Tf T B := h.kx k hn
end K57
namespace K57
open PySem PySem.Spec PyProof.Rows L2 G Th AL KL Fr Od
open K37 (fmod_lt p60 p40 p62 natV TxOk Sh ShL)
open K08 (ws_cut)
section
variable {S : Sto} {Q : Val → Sto → Prop} {x y : Val} {a b : Str}
end
abbrev tl (x : Str) : List Nat := x.cps.toList
def wireV (w : Str × Str) : Val := .tup [.str w.1, .str w.2]
def wr (o : List Str) (p : Nat × Nat) : Str × Str :=
  let a := o.getD p.1 ""; let b := o.getD p.2 ""
  (if tl b < tl a then b else a, if tl a < tl b then b else a)
structure Mb where
  name : Str
  pri : Int
  cls : Int
structure Net where
  ms : List Mb
  ws : List (Str × Str)
def Net.names (n : Net) : List Str := n.ms.map Mb.name
def pool : List Str := ["a", "ab", "b", "c", "d", "yy", "z", "zzzzzzzz"]

def poolX : List Str := pool ++ [("e" : Str)]
structure WOk (ns : List Str) (ws : List (Str × Str)) : Prop where
  nd : ws.Nodup
  len : ws.length ≤ 12
  mem : ∀ w ∈ ws, w.1 ∈ ns ∧ w.2 ∈ ns ∧ tl w.1 < tl w.2
structure NOk (n : Net) : Prop where
  nd : n.names.Nodup
  pos : 0 < n.ms.length
  len : n.ms.length ≤ 8
  inp : ∀ x ∈ n.names, x ∈ poolX
  num : ∀ m ∈ n.ms, 0 ≤ m.pri ∧ m.pri < 4 ∧ 0 ≤ m.cls ∧ m.cls < 3
  w : WOk n.names n.ws
  srt : Srt (n.ws.map wireV)
  nsrt : sortS n.names = n.names

def NmOk (x : Str) : Prop := PyData.strOk x = true ∧ x.cps.size ≤ 8
theorem nm_pool {x : Str} (h : x ∈ pool) : NmOk x := by
  simp only [pool, List.mem_cons, List.not_mem_nil, or_false] at h
  rcases h with rfl | rfl | rfl | rfl | rfl | rfl | rfl | rfl <;> exact ⟨by decide +kernel, by decide +kernel⟩
theorem nm_poolX {x : Str} (h : x ∈ poolX) : NmOk x := by
  rcases List.mem_append.mp h with h | h
  · exact nm_pool h
  · rw [List.mem_singleton.mp h]
    exact ⟨by decide +kernel, by decide +kernel⟩
theorem NOk.nm {n : Net} (h : NOk n) {x : Str} (hx : x ∈ n.names) : NmOk x := nm_poolX (h.inp x hx)
end K57
namespace K57
open PySem PySem.Spec PyProof.Rows L2 G Th AL KL Fr Od
open K37 (fmod_lt p60 p40 p62 natV TxOk Sh ShL)
open K08 (ws_cut)

structure Pr (sz k j : Nat) (L : List (Nat × Nat)) : Prop where
  nd : L.Nodup
  lt : ∀ p ∈ L, p.1 < p.2 ∧ p.2 < sz ∧ (p.2 < k ∨ (p.2 = k ∧ p.1 < j))
  len : L.length ≤ 12
theorem Pr.next {sz k j : Nat} {L : List (Nat × Nat)} (h : Pr sz k j L) : Pr sz k (j + 1) L := ⟨h.nd, fun p hp => by have := h.lt p hp; omega, h.len⟩
theorem Pr.row {sz k : Nat} {L : List (Nat × Nat)} (h : Pr sz k k L) : Pr sz (k + 1) 0 L := ⟨h.nd, fun p hp => by have := h.lt p hp; omega, h.len⟩
theorem Pr.add {sz k j : Nat} {L : List (Nat × Nat)} (h : Pr sz k j L) (hj : j < k) (hk : k < sz) (hl : L.length < 12) : Pr sz k (j + 1) (L ++ [(j, k)]) := by
  refine ⟨?_, fun p hp => ?_, by rw [List.length_append, List.length_singleton]; omega⟩
  · rw [List.nodup_append]
    refine ⟨h.nd, by simp, fun a ha b hb e => ?_⟩
    have := h.lt a ha
    rw [List.mem_singleton.mp hb] at e
    rw [e] at this
    simp only at this
    omega
  · rcases List.mem_append.mp hp with hp | hp
    · have := h.lt p hp
      omega
    · rw [List.mem_singleton.mp hp]
      exact ⟨hj, hk, .inr ⟨rfl, Nat.lt_succ_self _⟩⟩
theorem WOk.perm {ns : List Str} {ws us : List (Str × Str)} (h : WOk ns ws) (p : us.Perm ws) : WOk ns us := ⟨p.nodup_iff.mpr h.nd, by rw [p.length_eq]; exact h.len, fun w hw => h.mem w (p.mem_iff.mp hw)⟩
theorem WOk.names {ns ms : List Str} {ws : List (Str × Str)} (h : WOk ns ws) (e : ∀ x, x ∈ ns → x ∈ ms) : WOk ms ws := ⟨h.nd, h.len, fun w hw => by obtain ⟨a, b, c⟩ := h.mem w hw; exact ⟨e _ a, e _ b, c⟩⟩
section
variable {S : Sto} {B : Int} {a1 a2 a3 a4 a5 a13 : Option Val} {ro rf : Nat} {o : List Str} {sz wy : Nat}

end
end K57
namespace K57
open PySem PySem.Spec PyProof.Rows L2 G Th AL KL Fr Od
open K37 (fmod_lt p60 p40 p62 natV TxOk Sh ShL)
open K08 (ws_cut)
end K57
namespace K57
open PySem PySem.Spec PyProof.Rows L2 G Th AL KL Fr Od
open K37 (fmod_lt p60 p40 p62 natV TxOk Sh ShL)
open K08 (ws_cut)
def endsL (ws : List (Str × Str)) (x : Str) : List Str := (ws.filter fun w => decide (w.2 = x)).map (·.1) ++ (ws.filter fun w => decide (w.1 = x)).map (·.2)
def ends (ws : List (Str × Str)) (x : Str) : List Str := sortS (endsL ws x)

theorem nd_len {α : Type} [DecidableEq α] : ∀ {xs ys : List α}, xs.Nodup → (∀ x ∈ xs, x ∈ ys) → xs.length ≤ ys.length
  | [], ys, _, _ => Nat.zero_le _
  | x :: xs, ys, nd, h => by
    obtain ⟨h1, h2⟩ := List.nodup_cons.mp nd
    have hx := h x List.mem_cons_self
    have := nd_len (xs := xs) (ys := ys.erase x) h2 fun z hz => (List.mem_erase_of_ne (fun e => h1 (by rw [← e]; exact hz))).mpr (h z (List.mem_cons_of_mem _ hz))
    rw [List.length_erase_of_mem hx] at this
    have := List.length_pos_of_mem hx
    simp only [List.length_cons]
    omega
section
variable {S : Sto} {B : Int}
def g1 : Val → Val
  | .tup [a, _] => a
  | _ => .non
def g2 : Val → Val
  | .tup [_, a] => a
  | _ => .non
end
end K57
namespace K57
open PySem PySem.Spec PyProof.Rows L2 G Th AL KL Fr Od
open K37 (fmod_lt p60 p40 p62 natV TxOk Sh ShL)
open K08 (ws_cut)
structure Ky where
  p : Int
  c : Int
  nm : Str
structure Bs where
  key : Ky
  st : Int
  who : Str
structure Hd where
  who : Str
  key : Ky
  st : Int
  old : Int
structure Rw where
  name : Str
  best : Option Bs
  hs : List Hd
structure KyOk (k : Ky) : Prop where
  p0 : 0 ≤ k.p
  p1 : k.p < 4
  c0 : 0 ≤ k.c
  c1 : k.c < 3
  nm : NmOk k.nm
structure BsOk (ns : List Str) (b : Bs) : Prop where
  key : KyOk b.key
  s0 : 0 ≤ b.st
  s1 : b.st ≤ 9
  who : b.who ∈ ns
structure HdOk (ns : List Str) (h : Hd) : Prop where
  key : KyOk h.key
  s0 : 0 ≤ h.st
  s1 : h.st ≤ 9
  o0 : 0 ≤ h.old
  o1 : h.old ≤ 4
  who : h.who ∈ ns
structure RwOk (ns : List Str) (r : Rw) : Prop where
  best : ∀ b, r.best = some b → BsOk ns b
  hs : ∀ h ∈ r.hs, HdOk ns h
  nd : (r.hs.map Hd.who).Nodup
structure SOk (n : Net) (s : List Rw) : Prop where
  nm : s.map Rw.name = n.names
  row : ∀ r ∈ s, RwOk n.names r
theorem RwOk.len {n : Net} (hn : NOk n) {r : Rw} (h : RwOk n.names r) : r.hs.length ≤ 8 := by
  have := nd_len h.nd (ys := n.names) fun x hx => by
    obtain ⟨d, hd, rfl⟩ := List.mem_map.mp hx
    exact (h.hs d hd).who
  rw [List.length_map] at this
  have l := hn.len
  unfold Net.names at this
  rw [List.length_map] at this
  omega
section
variable {S : Sto} {B : Int} {n : Net}
def mkey (m : Mb) : Ky := ⟨m.pri, m.cls, m.name⟩
theorem WOk.filter {ns : List Str} {ws : List (Str × Str)} (h : WOk ns ws) (us : List (Str × Str)) (s : us.Sublist ws) : WOk ns us := ⟨h.nd.sublist s, Nat.le_trans s.length_le h.len, fun w hw => h.mem w (s.subset hw)⟩
theorem K2.len {a b : Nat} {S T : Sto} (h : K2 a b S T) (l : a + 1 < S.length ∧ b + 1 < S.length ∨ ∃ o, S[S.length - 1]? = some o ∧ S.length - 1 ≠ a ∧ S.length - 1 ≠ b) : S.length ≤ T.length := by
  have go : ∀ k : Nat, k ≠ a → k ≠ b → k < S.length → k < T.length := fun k ha hb hk => lt_of_at (h k _ ha hb (List.getElem?_eq_getElem hk))
  rcases l with ⟨l1, l2⟩ | ⟨o, h1, h2, h3⟩
  · have := go (S.length - 1) (by omega) (by omega) (by omega)
    omega
  · have := lt_of_at h1
    have := go (S.length - 1) h2 h3 (by omega)
    omega

end
end K57
namespace K57
open PySem PySem.Spec PyProof.Rows L2 G Th AL KL Fr Od
open K37 (fmod_lt p60 p40 p62 natV TxOk Sh ShL)
open K08 (ws_cut)
def bestOf (s : List Rw) (x : Str) : Option Bs := (s.find? fun r => decide (r.name = x)).bind (·.best)
def frs (s : List Rw) (es : List Str) : List Hd := es.filterMap fun e => (bestOf s e).map fun b => ⟨e, b.key, b.st, 0⟩
def kps (fr hs : List Hd) (age : Int) : List Hd := (hs.filter fun h => !decide (h.who ∈ fr.map Hd.who) && decide (h.old < age)).map fun h => ⟨h.who, h.key, h.st, h.old + 1⟩
def sortH (l : List Hd) : List Hd := l.mergeSort fun a b => leS a.who b.who
theorem sortH_perm (l : List Hd) : (sortH l).Perm l := List.mergeSort_perm _ _
theorem sortH_pw (l : List Hd) : (sortH l).Pairwise fun a b => leS a.who b.who = true := List.pairwise_mergeSort (le := fun a b : Hd => leS a.who b.who) (fun a b c => leS_trans _ _ _) (fun a b => leS_total _ _) l
theorem frs_who (s : List Rw) : ∀ es : List Str, ((frs s es).map Hd.who).Sublist es
  | [] => by simp [frs]
  | e :: es => by
    have ih := frs_who s es
    unfold frs at ih ⊢
    rw [List.filterMap_cons]
    cases bestOf s e with
    | none => exact ih.trans (List.sublist_cons_self _ _)
    | some b => exact ih.cons_cons e
theorem mem_frs {s : List Rw} {es : List Str} {h : Hd} : h ∈ frs s es ↔ ∃ b, h.who ∈ es ∧ bestOf s h.who = some b ∧ h = ⟨h.who, b.key, b.st, 0⟩ := by
  unfold frs
  rw [List.mem_filterMap]
  constructor
  · rintro ⟨e, he, h1⟩
    obtain ⟨b, hb, rfl⟩ := Option.map_eq_some_iff.mp h1
    exact ⟨b, he, hb, rfl⟩
  · rintro ⟨b, h1, h2, h3⟩
    exact ⟨h.who, h1, by rw [h2]; exact congrArg some h3.symm⟩
theorem mem_kps {fr hs : List Hd} {age : Int} {h : Hd} : h ∈ kps fr hs age ↔ ∃ g ∈ hs, g.who ∉ fr.map Hd.who ∧ g.old < age ∧ h = ⟨g.who, g.key, g.st, g.old + 1⟩ := by
  unfold kps
  simp only [List.mem_map, List.mem_filter, Bool.and_eq_true, Bool.not_eq_true', decide_eq_false_iff_not, decide_eq_true_eq]
  constructor
  · rintro ⟨g, ⟨h1, h2, h3⟩, rfl⟩
    exact ⟨g, h1, h2, h3, rfl⟩
  · rintro ⟨g, h1, h2, h3, rfl⟩
    exact ⟨g, ⟨h1, h2, h3⟩, rfl⟩
theorem kps_who (fr hs : List Hd) (age : Int) : ((kps fr hs age).map Hd.who).Sublist (hs.map Hd.who) := by
  unfold kps
  rw [List.map_map]
  exact (List.filter_sublist (l := hs)).map Hd.who
theorem both_nd {s : List Rw} {es : List Str} {hs : List Hd} {age : Int} (n1 : es.Nodup) (n2 : (hs.map Hd.who).Nodup) : ((frs s es ++ kps (frs s es) hs age).map Hd.who).Nodup := by
  rw [List.map_append, List.nodup_append]
  refine ⟨(frs_who s es).nodup n1, (kps_who _ _ _).nodup n2, fun a ha b hb e => ?_⟩
  obtain ⟨h, hh, rfl⟩ := List.mem_map.mp hb
  obtain ⟨g, _, h2, _, rfl⟩ := mem_kps.mp hh
  exact h2 (e ▸ ha)

theorem who_inj {l : List Hd} (nd : (l.map Hd.who).Nodup) : ∀ {a b : Hd}, a ∈ l → b ∈ l → a.who = b.who → a = b := by
  induction l with
  | nil => intro a b h; simp at h
  | cons x l ih =>
    rw [List.map_cons, List.nodup_cons] at nd
    intro a b ha hb e
    rcases List.mem_cons.mp ha with e1 | ha <;> rcases List.mem_cons.mp hb with e2 | hb
    · rw [e1, e2]
    · exact absurd (by rw [← e1, e]; exact List.mem_map_of_mem hb) nd.1
    · exact absurd (by rw [← e2, ← e]; exact List.mem_map_of_mem ha) nd.1
    · exact ih nd.2 ha hb e
theorem sortH_uniq {l m : List Hd} (nd : (m.map Hd.who).Nodup) (h : l.Pairwise fun a b => leS a.who b.who = true) (p : l.Perm m) : l = sortH m :=
  List.Perm.eq_of_pairwise (fun a b ha hb h1 h2 => who_inj nd (p.mem_iff.mp ha) ((sortH_perm m).mem_iff.mp hb) (leS_anti h1 h2)) h (sortH_pw m) (p.trans (sortH_perm m).symm)
theorem nd_perm {l m : List Hd} (h : ∀ x, x ∈ l ↔ x ∈ m) (n1 : (l.map Hd.who).Nodup) (n2 : (m.map Hd.who).Nodup) : l.Perm m := by
  have a : l.Nodup := (List.pairwise_map.mp n1).imp fun h e => h (by rw [e])
  have b : m.Nodup := (List.pairwise_map.mp n2).imp fun h e => h (by rw [e])
  exact (List.perm_ext_iff_of_nodup a b).mpr h
def own (m : Mb) : Bs := ⟨mkey m, 0, m.name⟩
section
variable {n : Net} {s : List Rw} {ws : List (Str × Str)} {most age : Int}
theorem SOk.len (so : SOk n s) : s.length = n.ms.length := by
  have := congrArg List.length so.nm
  unfold Net.names at this
  rwa [List.length_map, List.length_map] at this
theorem SOk.nd (hn : NOk n) (so : SOk n s) : (s.map Rw.name).Nodup := so.nm ▸ hn.nd
end
end K57
namespace K57
open PySem PySem.Spec PyProof.Rows L2 G Th AL KL Fr Od
open K37 (fmod_lt p60 p40 p62 natV TxOk Sh ShL)
open K08 (ws_cut)
section
variable {S : Sto} {Q : Val → Sto → Prop} {x : Str}
end
end K57
namespace K57
open PySem PySem.Spec PyProof.Rows L2 G Th AL KL Fr Od
open K37 (fmod_lt p60 p40 p62 natV TxOk Sh ShL)
open K08 (ws_cut)
section
variable {S : Sto} {n : Net} {s : List Rw} {ws : List (Str × Str)} {most age : Int}
theorem SOk.name (so : SOk n s) {i : Nat} (h1 : i < s.length) (h2 : i < n.ms.length) : s[i].name = n.ms[i].name := by
  have := so.nm
  have e : (s.map Rw.name)[i]? = (n.names)[i]? := by rw [this]
  unfold Net.names at e
  rw [List.getElem?_map, List.getElem?_map, List.getElem?_eq_getElem h1, List.getElem?_eq_getElem h2] at e
  exact Option.some.inj e
end
end K57
namespace K57
open PySem PySem.Spec PyProof.Rows L2 G Th AL KL Fr Od
open K37 (fmod_lt p60 p40 p62 natV TxOk Sh ShL)
open K08 (ws_cut)
section
variable {S : Sto} {Q : Val → Sto → Prop}
theorem Kn.up {S U V : Sto} {r : Nat} (h : Kn S U) (k : Kx r U V) (l : S.length ≤ r) : Kn S V := fun q o hq => k q o (by have := lt_of_at hq; omega) (h q o hq)
structure Kpt (s : List Rw) (D0 : List Hd) (es : List Str) (Ds : List Hd) : Prop where
  nd : (Ds.map Hd.who).Nodup
  mem : ∀ h, h ∈ Ds ↔ h ∈ frs s es ∨ (h ∈ D0 ∧ h.who ∉ (frs s es).map Hd.who)
  len : Ds.length ≤ D0.length + es.length
theorem frs_app (s : List Rw) (es : List Str) (e : Str) : frs s (es ++ [e]) = frs s es ++ (match bestOf s e with | some b => [⟨e, b.key, b.st, 0⟩] | none => []) := by
  unfold frs
  rw [List.filterMap_append]
  congr 1
  cases h : bestOf s e with
  | none => simp [h]
  | some b => simp [h]
theorem Kpt.no {s : List Rw} {D0 Ds : List Hd} {es : List Str} {e : Str} (h : Kpt s D0 es Ds) (hb : bestOf s e = none) : Kpt s D0 (es ++ [e]) Ds := by
  have e1 : frs s (es ++ [e]) = frs s es := by rw [frs_app, hb]; simp
  exact ⟨h.nd, by rw [e1]; exact h.mem, by have := h.len; rw [List.length_append]; omega⟩
def kps0 (hs : List Hd) (age : Int) : List Hd := (hs.filter fun h => decide (h.old < age)).map fun h => ⟨h.who, h.key, h.st, h.old + 1⟩
theorem mem_kps0 {hs : List Hd} {age : Int} {h : Hd} : h ∈ kps0 hs age ↔ ∃ g ∈ hs, g.old < age ∧ h = ⟨g.who, g.key, g.st, g.old + 1⟩ := by
  unfold kps0
  simp only [List.mem_map, List.mem_filter, decide_eq_true_eq]
  constructor
  · rintro ⟨g, ⟨h1, h3⟩, rfl⟩
    exact ⟨g, h1, h3, rfl⟩
  · rintro ⟨g, h1, h3, rfl⟩
    exact ⟨g, ⟨h1, h3⟩, rfl⟩
theorem frs_iff {s : List Rw} {es es' : List Str} (h : ∀ x, x ∈ es ↔ x ∈ es') (z : Hd) : z ∈ frs s es ↔ z ∈ frs s es' := by
  rw [mem_frs, mem_frs]
  exact ⟨fun ⟨b, a, c⟩ => ⟨b, (h _).mp a, c⟩, fun ⟨b, a, c⟩ => ⟨b, (h _).mpr a, c⟩⟩

theorem Kpt.all {s : List Rw} {hs Ds : List Hd} {es es' : List Str} {age : Int} (h : Kpt s (kps0 hs age) es Ds) (e : ∀ x, x ∈ es ↔ x ∈ es') (nd' : es'.Nodup) (ndh : (hs.map Hd.who).Nodup) : sortH Ds = sortH (frs s es' ++ kps (frs s es') hs age) := by
  have fw : ∀ x, x ∈ (frs s es).map Hd.who ↔ x ∈ (frs s es').map Hd.who := fun x => by
    simp only [List.mem_map]
    exact ⟨fun ⟨a, b, c⟩ => ⟨a, (frs_iff e a).mp b, c⟩, fun ⟨a, b, c⟩ => ⟨a, (frs_iff e a).mpr b, c⟩⟩
  refine sortH_uniq (both_nd nd' ndh) (sortH_pw Ds) ((sortH_perm Ds).trans (nd_perm (fun x => ?_) h.nd (both_nd nd' ndh)))
  rw [h.mem, List.mem_append, frs_iff e, fw]
  refine or_congr Iff.rfl ?_
  rw [mem_kps0, mem_kps]
  constructor
  · rintro ⟨⟨g, h1, h2, rfl⟩, h3⟩
    exact ⟨g, h1, h3, h2, rfl⟩
  · rintro ⟨g, h1, h3, h2, rfl⟩
    exact ⟨⟨g, h1, h2, rfl⟩, h3⟩
end
end K57
namespace K57
open PySem PySem.Spec PyProof.Rows L2 G Th AL KL Fr Od
open K37 (fmod_lt p60 p40 p62 natV TxOk Sh ShL)
open K08 (ws_cut)
section
variable {S : Sto} {n : Net} {s : List Rw} {ws : List (Str × Str)} {most age : Int}
end
end K57
namespace K57
open PySem PySem.Spec PyProof.Rows L2 G Th AL KL Fr Od
open K37 (fmod_lt p60 p40 p62 natV TxOk Sh ShL)
open K08 (ws_cut)
section
variable {n : Net} {s : List Rw} {ws : List (Str × Str)} {most age : Int}
variable {S : Sto}
end
end K57
namespace K57
open PySem PySem.Spec PyProof.Rows L2 G Th AL KL Fr Od
open K37 (fmod_lt p60 p40 p62 natV TxOk Sh ShL)
open K08 (ws_cut)
end K57
namespace Bf
section
variable {α : Type} {nb : α → α → Prop} {s x y z : α}

inductive W (nb : α → α → Prop) (s : α) : Nat → α → Prop
  | nil : W nb s 0 s
  | snoc {n : Nat} {x y : α} : W nb s n x → nb x y → W nb s (n + 1) y
theorem W.trans {n : Nat} (h : W nb s n x) : ∀ {m : Nat} {y : α}, W nb x m y → W nb s (n + m) y := by
  intro m y g
  induction g with
  | nil => exact h
  | snoc _ e ih => exact ih.snoc e
theorem W.one (h : nb x y) : W nb x 1 y := .snoc .nil h
theorem W.symm (sy : ∀ a b, nb a b → nb b a) {n : Nat} (h : W nb s n x) : W nb x n s := by
  induction h with
  | nil => exact .nil
  | @snoc n x y _ e ih =>
    have := (W.one (sy _ _ e)).trans ih
    rwa [Nat.add_comm] at this
def Rc (nb : α → α → Prop) (s x : α) : Prop := ∃ n, W nb s n x
theorem Rc.refl : Rc nb s s := ⟨0, .nil⟩
theorem Rc.trans (h : Rc nb s x) (g : Rc nb x y) : Rc nb s y := let ⟨n, a⟩ := h; let ⟨m, b⟩ := g; ⟨n + m, a.trans b⟩
theorem Rc.symm (sy : ∀ a b, nb a b → nb b a) (h : Rc nb s x) : Rc nb x s := let ⟨n, a⟩ := h; ⟨n, a.symm sy⟩

structure BF (nb : α → α → Prop) (s : α) (D : List (α × Nat)) : Prop where
  nd : (D.map (·.1)).Nodup
  st : (s, 0) ∈ D
  wk : ∀ x d, (x, d) ∈ D → W nb s d x
  cl : ∀ x d y, (x, d) ∈ D → nb x y → ∃ e, e ≤ d + 1 ∧ (y, e) ∈ D
theorem at_uniq : ∀ {D : List (α × Nat)} {x : α} {d e : Nat}, (D.map (·.1)).Nodup → (x, d) ∈ D → (x, e) ∈ D → d = e
  | [], _, _, _, _, h, _ => nomatch h
  | p :: D, x, d, e, nd, h, g => by
    rw [List.map_cons, List.nodup_cons] at nd
    have out : ∀ {c : Nat}, (p.1, c) ∈ D → False := fun {c} g => nd.1 (List.mem_map_of_mem (f := (·.1)) g)
    rcases List.mem_cons.mp h with h1 | h1 <;> rcases List.mem_cons.mp g with g1 | g1
    · rw [← h1] at g1
      exact (congrArg Prod.snd g1).symm
    · exact (out (by rw [← h1]; exact g1)).elim
    · exact (out (by rw [← g1]; exact h1)).elim
    · exact at_uniq nd.2 h1 g1
theorem BF.all {D : List (α × Nat)} (h : BF nb s D) {n : Nat} (w : W nb s n x) : ∃ d, d ≤ n ∧ (x, d) ∈ D := by
  induction w with
  | nil => exact ⟨0, Nat.le_refl _, h.st⟩
  | snoc _ e ih =>
    obtain ⟨d, l, m⟩ := ih
    obtain ⟨d', l', m'⟩ := h.cl _ _ _ m e
    exact ⟨d', by omega, m'⟩
theorem BF.le {D : List (α × Nat)} (h : BF nb s D) {n d : Nat} (w : W nb s n x) (m : (x, d) ∈ D) : d ≤ n := by
  obtain ⟨d', l, m'⟩ := h.all w
  rw [at_uniq h.nd m m']
  exact l
theorem BF.mem {D : List (α × Nat)} (h : BF nb s D) : x ∈ D.map (·.1) ↔ Rc nb s x := by
  constructor
  · intro m
    obtain ⟨⟨y, d⟩, m', rfl⟩ := List.mem_map.mp m
    exact ⟨d, h.wk _ _ m'⟩
  · rintro ⟨n, w⟩
    obtain ⟨d, _, m⟩ := h.all w
    exact List.mem_map_of_mem (f := (·.1)) m

structure Qi (nb : α → α → Prop) (s : α) (D : List (α × Nat)) (p : Nat) (x : α) (d : Nat) (ys : List α) : Prop where
  at_ : D[p]? = some (x, d)
  nd : (D.map (·.1)).Nodup
  st : (s, 0) ∈ D
  wk : ∀ x d, (x, d) ∈ D → W nb s d x
  so : D.Pairwise fun a b => a.2 ≤ b.2
  hi : ∀ r ∈ D, r.2 ≤ d + 1
  cl : ∀ i x d y, i < p → D[i]? = some (x, d) → nb x y → ∃ e, e ≤ d + 1 ∧ (y, e) ∈ D
  ys : ∀ y ∈ ys, ∃ e, e ≤ d + 1 ∧ (y, e) ∈ D
theorem Qi.old {D : List (α × Nat)} {p d : Nat} {ys : List α} (h : Qi nb s D p x d ys) (m : y ∈ D.map (·.1)) : Qi nb s D p x d (ys ++ [y]) := ⟨h.at_, h.nd, h.st, h.wk, h.so, h.hi, h.cl, fun z hz => by
  rcases List.mem_append.mp hz with hz | hz
  · exact h.ys z hz
  · rw [List.mem_singleton] at hz
    subst hz
    obtain ⟨⟨z, e⟩, m', rfl⟩ := List.mem_map.mp m
    exact ⟨e, h.hi _ m', m'⟩⟩
structure Li (nb : α → α → Prop) (s : α) (D : List (α × Nat)) (E : List α) (m : Nat) (M : List α) (xs : List α) (x : α) (ys : List α) : Prop where
  nd : (D.map (·.1)).Nodup
  st : (s, 0) ∈ D
  wk : ∀ x d, (x, d) ∈ D → W nb s d x
  hi : ∀ r ∈ D, r.2 ≤ m + 1
  ed : ∀ x, x ∈ E ↔ (x, m) ∈ D
  mo : ∀ x, x ∈ M ↔ (x, m + 1) ∈ D
  cl : ∀ x d y, d < m → (x, d) ∈ D → nb x y → ∃ e, e ≤ d + 1 ∧ (y, e) ∈ D
  xs : ∀ x ∈ xs, ∀ y, nb x y → y ∈ D.map (·.1)
  ys : ∀ y ∈ ys, nb x y → y ∈ D.map (·.1)
theorem Li.old {D : List (α × Nat)} {E M : List α} {m : Nat} {xs ys : List α} (h : Li nb s D E m M xs x ys) (q : nb x y → y ∈ D.map (·.1)) : Li nb s D E m M xs x (ys ++ [y]) := ⟨h.nd, h.st, h.wk, h.hi, h.ed, h.mo, h.cl, h.xs, fun z hz => by
  rcases List.mem_append.mp hz with hz | hz
  · exact h.ys z hz
  · rw [List.mem_singleton] at hz
    subst hz
    exact q⟩
theorem Li.next {D : List (α × Nat)} {E M : List α} {m : Nat} {xs ys : List α} (h : Li nb s D E m M xs x ys) (all : ∀ y, nb x y → y ∈ ys) (x' : α) : Li nb s D E m M (xs ++ [x]) x' [] := ⟨h.nd, h.st, h.wk, h.hi, h.ed, h.mo, h.cl, fun z hz u hu => by
  rcases List.mem_append.mp hz with hz | hz
  · exact h.xs z hz u hu
  · rw [List.mem_singleton] at hz
    subst hz
    exact h.ys u (all u hu) hu, fun _ h => nomatch h⟩
end
end Bf
namespace K60
open PySem PySem.Spec PyProof.Rows L2 G Th AL KL Fr Od Bf

open K57 (wireV Mb Net pool WOk NOk NmOk endsL ends mkey own nd_len tl)
open K37 (fmod_lt p60 p40 p62 natV TxOk Sh ShL)
open K08 (ws_cut)
structure UOk (n : Net) (up : List Str) (ws : List (Str × Str)) : Prop where
  sub : up.Sublist n.names
  w : WOk n.names ws
section
variable {n : Net} {up : List Str} {ws : List (Str × Str)} {S : Sto} {x y s : Str}
theorem UOk.nd (hn : NOk n) (u : UOk n up ws) : up.Nodup := u.sub.nodup hn.nd
theorem UOk.len (hn : NOk n) (u : UOk n up ws) : up.length ≤ 8 := by
  have := u.sub.length_le
  have h := hn.len
  unfold Net.names at this
  rw [List.length_map] at this
  omega
theorem UOk.nm (hn : NOk n) (u : UOk n up ws) (h : x ∈ up) : NmOk x := hn.nm (u.sub.subset h)

end
end K60
namespace K60
open PySem PySem.Spec PyProof.Rows L2 G Th AL KL Fr Od Bf

open K57 (wireV Mb Net pool WOk NOk NmOk endsL ends mkey own nd_len tl K2)
open K37 (fmod_lt p60 p40 p62 natV TxOk Sh ShL)
open K08 (ws_cut)


def dK (D : List (Str × Nat)) : List (Key × Val) := D.map fun p => (.inr p.1, .int ((p.2 : Nat) : Int))
end K60
namespace K60
open PySem PySem.Spec PyProof.Rows L2 G Th AL KL Fr Od Bf

open K57 (wireV Mb Net pool WOk NOk NmOk endsL ends mkey own nd_len tl K2)
open K37 (fmod_lt p60 p40 p62 natV TxOk Sh ShL)
open K08 (ws_cut)
end K60
namespace AL
open PySem PySem.Spec PyProof.Rows L2 G Th K37 Od
mutual
inductive Tl (S : Sto) (Fo : Nat → Prop) (m : Nat) : Nat → Val → PyData → Prop
  | non {n : Nat} : Tl S Fo m n .non .none
  | bl {n : Nat} (b : Bool) : Tl S Fo m n (.bl b) (.bool b)
  | int {n : Nat} (i : Int) (h : i.natAbs ≤ m) : Tl S Fo m n (.int i) (.int i)
  | str {n : Nat} (x : Str) (h : PyData.strOk x = true) (l : x.cps.size ≤ 70) : Tl S Fo m n (.str x) (.str x)
  | tup {n : Nat} {vs : List Val} {ds : List PyData} (h : TlL S Fo m n vs ds) : Tl S Fo m (n + 1) (.tup vs) (.tuple ds)
  | lst {n r : Nat} {vs : List Val} {ds : List PyData} (f : Fo r) (g : S[r]? = some (.lst vs)) (h : TlL S Fo m n vs ds) : Tl S Fo m (n + 1) (.ref r) (.list ds)
inductive TlL (S : Sto) (Fo : Nat → Prop) (m : Nat) : Nat → List Val → List PyData → Prop
  | nil {n : Nat} : TlL S Fo m n [] []
  | cons {n : Nat} {v : Val} {vs : List Val} {d : PyData} {ds : List PyData} (h : Tl S Fo m n v d) (hs : TlL S Fo m n vs ds) : TlL S Fo m n (v :: vs) (d :: ds)
end
section
variable {S T : Sto} {Fo Fo' : Nat → Prop} {m m' : Nat}
mutual
theorem Tl.up {n : Nat} {v : Val} {d : PyData} (hm : m ≤ m') (k : ∀ r vs, Fo r → S[r]? = some (.lst vs) → Fo' r ∧ T[r]? = some (.lst vs)) : Tl S Fo m n v d → ∀ n', n ≤ n' → Tl T Fo' m' n' v d
  | .non, n', _ => .non
  | .bl b, n', _ => .bl b
  | .int i h, n', _ => .int i (by omega)
  | .str x h l, n', _ => .str x h l
  | .tup h, n', hn => by
    obtain ⟨j, rfl⟩ : ∃ j, n' = j + 1 := ⟨n' - 1, by omega⟩
    exact .tup (TlL.up hm k h j (by omega))
  | .lst f g h, n', hn => by
    obtain ⟨j, rfl⟩ : ∃ j, n' = j + 1 := ⟨n' - 1, by omega⟩
    obtain ⟨f', g'⟩ := k _ _ f g
    exact .lst f' g' (TlL.up hm k h j (by omega))
theorem TlL.up {n : Nat} {vs : List Val} {ds : List PyData} (hm : m ≤ m') (k : ∀ r vs, Fo r → S[r]? = some (.lst vs) → Fo' r ∧ T[r]? = some (.lst vs)) : TlL S Fo m n vs ds → ∀ n', n ≤ n' → TlL T Fo' m' n' vs ds
  | .nil, _, _ => .nil
  | .cons h hs, n', hn => .cons (Tl.up hm k h n' hn) (TlL.up hm k hs n' hn)
end
mutual
theorem Tl.toD {n : Nat} {v : Val} {d : PyData} : Tl S Fo m n v d → ∀ k, n < k → toD S k v = some d
  | .non, k + 1, _ => rfl
  | .bl b, k + 1, _ => rfl
  | .int i h, k + 1, _ => rfl
  | .str x h l, k + 1, _ => rfl
  | .tup h, k + 1, hk => by
    show (mapO (AL.toD S k) _).map PyData.tuple = _
    rw [TlL.toD h k (by omega)]
    rfl
  | .lst f g h, k + 1, hk => by
    rw [AL.toD]
    simp only [g, TlL.toD h k (by omega), Option.map_some]
theorem TlL.toD {n : Nat} {vs : List Val} {ds : List PyData} : TlL S Fo m n vs ds → ∀ k, n < k → mapO (AL.toD S k) vs = some ds
  | .nil, _, _ => rfl
  | .cons h hs, k, hk => by
    unfold mapO
    rw [Tl.toD h k hk, TlL.toD hs k hk]
    rfl
end
mutual
theorem Tl.ok {n : Nat} {v : Val} {d : PyData} (hm : m < 2 ^ 900) : Tl S Fo m n v d → okD d = true ∧ d.depth ≤ n
  | .non => ⟨rfl, by simp [PyData.depth]⟩
  | .bl b => ⟨rfl, by simp [PyData.depth]⟩
  | .int i h => ⟨decide_eq_true (by omega), by simp [PyData.depth]⟩
  | .str x h l => ⟨h, by simp [PyData.depth]⟩
  | .tup h => by
    obtain ⟨a, b⟩ := TlL.ok hm h
    exact ⟨a, by simp only [PyData.depth]; omega⟩
  | .lst f g h => by
    obtain ⟨a, b⟩ := TlL.ok hm h
    exact ⟨a, by simp only [PyData.depth]; omega⟩
theorem TlL.ok {n : Nat} {vs : List Val} {ds : List PyData} (hm : m < 2 ^ 900) : TlL S Fo m n vs ds → okAll ds = true ∧ PyData.depthAll ds ≤ n
  | .nil => ⟨rfl, by simp [PyData.depthAll]⟩
  | .cons h hs => by
    obtain ⟨a, b⟩ := Tl.ok hm h
    obtain ⟨c, e⟩ := TlL.ok hm hs
    refine ⟨by show (okD _ && okAll _) = true; rw [a, c]; rfl, ?_⟩
    simp only [PyData.depthAll]
    omega
end
theorem Tl.shaped {n : Nat} {v : Val} {d : PyData} (hm : m < 2 ^ 900) (hn : n ≤ 38) (h : Tl S Fo m n v d) : SeqAt.shaped d = true := by
  obtain ⟨a, b⟩ := h.ok hm
  have := (ok_show d a).2.2.1
  unfold SeqAt.shaped
  rw [this, decide_eq_true (by omega)]
  rfl
theorem Tl.repr {n : Nat} {v : Val} {d : PyData} (hm : m < 2 ^ 900) (hn : n ≤ 38) (hw : d.weight ≤ 40000) (h : Tl S Fo m n v d) : gRepr [v] S = some (.str d.shown, S) := by
  obtain ⟨a, b⟩ := h.ok hm
  exact (Dt.repr (n := n) (w := d.weight) ⟨a, Nat.le_refl _, b, h.toD⟩ (by omega) hw)
theorem TlL.len {n : Nat} {vs : List Val} {ds : List PyData} : TlL S Fo m n vs ds → ds.length = vs.length
  | .nil => rfl
  | .cons _ hs => by rw [List.length_cons, List.length_cons, TlL.len hs]
theorem TlL.app {n : Nat} : ∀ {vs ws : List Val} {ds es : List PyData}, TlL S Fo m n vs ds → TlL S Fo m n ws es → TlL S Fo m n (vs ++ ws) (ds ++ es)
  | _, _, _, _, .nil, g => g
  | _, _, _, _, .cons h hs, g => .cons h (hs.app g)
theorem TlL.take {n : Nat} : ∀ (k : Nat) {vs : List Val} {ds : List PyData}, TlL S Fo m n vs ds → TlL S Fo m n (vs.take k) (ds.take k)
  | 0, _, _, _ => .nil
  | k + 1, _, _, .nil => .nil
  | k + 1, _, _, .cons h hs => .cons h (hs.take k)
theorem TlL.drop {n : Nat} : ∀ (k : Nat) {vs : List Val} {ds : List PyData}, TlL S Fo m n vs ds → TlL S Fo m n (vs.drop k) (ds.drop k)
  | 0, _, _, h => h
  | k + 1, _, _, .nil => .nil
  | k + 1, _, _, .cons h hs => hs.drop k
theorem TlL.get {n : Nat} : ∀ {k : Nat} {vs : List Val} {ds : List PyData} {v : Val}, TlL S Fo m n vs ds → vs[k]? = some v → ∃ d, ds[k]? = some d ∧ Tl S Fo m n v d
  | _, _, _, _, .nil, h => by simp at h
  | 0, _, _, _, .cons h hs, e => by
    simp only [List.getElem?_cons_zero, Option.some.injEq] at e ⊢
    subst e
    exact ⟨_, rfl, h⟩
  | k + 1, _, _, _, .cons h hs, e => by
    simp only [List.getElem?_cons_succ] at e ⊢
    exact hs.get e
theorem TlL.mem {n : Nat} {vs : List Val} {ds : List PyData} {v : Val} (h : TlL S Fo m n vs ds) (hv : v ∈ vs) : ∃ d ∈ ds, Tl S Fo m n v d := by
  obtain ⟨k, hk⟩ := List.getElem?_of_mem hv
  obtain ⟨d, hd, t⟩ := h.get hk
  exact ⟨d, List.mem_of_getElem? hd, t⟩
theorem w_app : ∀ a b : List PyData, PyData.weightAll (a ++ b) = PyData.weightAll a + PyData.weightAll b
  | [], b => by simp [PyData.weightAll]
  | x :: a, b => by
    rw [List.cons_append]
    simp only [PyData.weightAll, w_app a b]
    omega
theorem w_split (k : Nat) (ds : List PyData) : PyData.weightAll (ds.take k) + PyData.weightAll (ds.drop k) = PyData.weightAll ds := by
  rw [← w_app, List.take_append_drop]
theorem w_at {k : Nat} {ds : List PyData} {d : PyData} (h : ds[k]? = some d) : PyData.weightAll (ds.take k) + (d.weight + 1) + PyData.weightAll (ds.drop (k + 1)) = PyData.weightAll ds := by
  obtain ⟨lt, e⟩ := List.getElem?_eq_some_iff.mp h
  have := w_split k ds
  rw [List.drop_eq_getElem_cons lt, e] at this
  simp only [PyData.weightAll] at this
  omega
end
end AL
namespace K12
open PySem PySem.Spec PyProof.Rows L2 G Th AL KL Fr Od
open K08 (feedL_ feedL_B drawL_ drawL_B)
open K37 (fmod_lt p60 p40 p62 natV Tp)
open K08 (ws_cut)
section
variable {S : Sto} {Fo : Nat → Prop} {m n : Nat} {v : Val} {d : PyData}
theorem cutN (vs : List Val) (k : Nat) (hk : k ≤ vs.length) : cutL vs none (some (k : Int)) = vs.take k := by
  unfold cutL
  rw [HT.sIx_nat, HT.sIx_none, List.drop_zero, Nat.sub_zero, Nat.min_eq_left hk]
theorem cutD (vs : List Val) (k : Nat) : cutL vs (some (k : Int)) none = vs.drop k := by
  unfold cutL
  rw [HT.sIx_nat, HT.sIx_none]
  rcases Nat.le_total k vs.length with h | h
  · rw [Nat.min_eq_left h, ← List.length_drop, List.take_length]
  · rw [Nat.min_eq_right h, List.drop_length, List.drop_eq_nil_of_le h, List.take_nil]
theorem cutS (vs : List Val) (k : Nat) : cutL vs (some ((k : Int) + 1)) none = vs.drop (k + 1) := cutD vs (k + 1)
theorem cutO (vs : List Val) (k : Nat) (hk : k < vs.length) : cutL vs (some (k : Int)) (some ((k : Int) + 1)) = (vs.drop k).take 1 := by
  rw [show (k : Int) + 1 = ((k + 1 : Nat) : Int) by omega]
  unfold cutL
  rw [HT.sIx_nat, HT.sIx_nat, Nat.min_eq_left (by omega), Nat.min_eq_left (by omega), Nat.add_sub_cancel_left]
def isTu : Val → Bool
  | .tup _ => true
  | _ => false
theorem isTu_wp {Q : Val → Sto → Prop} (h : Tl S Fo m n v d) (q : Q (.bl (isTu v)) S) : Wp (gIsi "tuple" v S) Q := by
  cases h with
  | non => exact vIsi rfl kit_NoneType_tuple q
  | bl b => exact vIsi rfl kit_bool_tuple q
  | int i h => exact vIsi rfl kit_int_tuple q
  | str x h l => exact vIsi rfl kit_str_tuple q
  | tup h => exact vIsi rfl kit_tuple_tuple q
  | lst f g h =>
    refine ⟨_, S, ?_, q⟩
    simp only [gIsi, tyN, g, Option.bind_some, kit_list_tuple, Option.map_some]
    rfl
theorem vEqNilT {Q : Val → Sto → Prop} {vs : List Val} {ds : List PyData} (hm : m < 2 ^ 900) (hn : n ≤ 37) (h : TlL S Fo m n vs ds) (q : Q (.bl vs.isEmpty) S) : Wp (gEq (.tup vs) (.tup []) S) Q := by
  have e1 : eqS (.tup vs) (.tup []) = none := rfl
  have hT : Tl S Fo m (n + 1) (.tup vs) (.tuple ds) := .tup h
  refine ⟨_, S, ?_, q⟩
  unfold gEq eqA
  rw [e1]
  have t0 : toD S 40 (.tup []) = some (.tuple []) := rfl
  have s0 : SeqAt.shaped (.tuple []) = true := by decide
  rw [hT.toD 40 (by omega), t0]
  dsimp only
  rw [if_pos ⟨hT.shaped hm (by omega), s0⟩]
  cases h with
  | nil => rfl
  | cons a b => rfl
theorem Tl.kx {T : Sto} (h : Tl S Fo m n v d) (hz : ∀ r, Fo r → r ≠ 1) (k : Kx 1 S T) : Tl T Fo m n v d := h.up (Nat.le_refl _) (fun r vs f g => ⟨f, k r _ (hz r f) g⟩) n (Nat.le_refl _)
theorem TlL.kx {T : Sto} {vs : List Val} {ds : List PyData} (h : TlL S Fo m n vs ds) (hz : ∀ r, Fo r → r ≠ 1) (k : Kx 1 S T) : TlL T Fo m n vs ds := h.up (Nat.le_refl _) (fun r vs f g => ⟨f, k r _ (hz r f) g⟩) n (Nat.le_refl _)
theorem TlL.one (h : Tl S Fo m n v d) : TlL S Fo m n [v] [d] := .cons h .nil
theorem TlL.set {n : Nat} : ∀ {k : Nat} {vs : List Val} {ds : List PyData} {v : Val} {d : PyData}, TlL S Fo m n vs ds → Tl S Fo m n v d → TlL S Fo m n (vs.set k v) (ds.set k d)
  | _, [], [], _, _, .nil, _ => .nil
  | 0, _ :: _, _ :: _, _, _, .cons _ hs, h => .cons h hs
  | k + 1, _ :: _, _ :: _, _, _, .cons h' hs, h => .cons h' (TlL.set hs h)
theorem w_set : ∀ {k : Nat} {ds : List PyData} {d e : PyData}, ds[k]? = some d → PyData.weightAll (ds.set k e) + d.weight = PyData.weightAll ds + e.weight
  | _, [], _, _, h => by cases h
  | 0, a :: r, _, e, h => by
    cases h
    simp only [List.set_cons_zero, PyData.weightAll]
    omega
  | k + 1, a :: r, d, e, h => by
    have := w_set (k := k) (ds := r) (e := e) (by simpa using h)
    simp only [List.set_cons_succ, PyData.weightAll]
    omega
theorem vListT {Q : Val → Sto → Prop} {x : Val} {vs : List Val} (hx : x = .tup vs) (q : Nw S (.lst vs) Q) : Wp (gList [x] S) Q := by
  subst hx
  exact ⟨_, _, rfl, q.use⟩
theorem vPutG {n j : Nat} {i : Int} {v : Val} {N : Sto → Prop} {vs : List Val} (h : S[n]? = some (.lst vs)) (hj : ixN vs.length i = some j) (q : Pt S n (.lst (vs.set j v)) N) : ∃ T, gSet (.ref n) (.int i) v S = some T ∧ N T := ⟨_, by simp only [gSet, h, hj], q.use h⟩
theorem ixN_nat {n k : Nat} (h : k < n) : ixN n (k : Int) = some k := by
  unfold ixN
  rw [if_pos (by omega), if_pos (by omega), Int.toNat_natCast]
theorem tple {B B' : Int} {T : Sto} (t : Tp S B) (t' : Tp T B') (k : Kx 1 S T) : S.length ≤ T.length := by
  have h2 := t.two
  have h3 := t'.two
  rcases Nat.lt_or_ge 2 S.length with l | l
  · obtain ⟨o, ho⟩ : ∃ o, S[S.length - 1]? = some o := ⟨_, List.getElem?_eq_getElem (by omega)⟩
    have := (List.getElem?_eq_some_iff.mp (k _ _ (by omega) ho)).1
    omega
  · omega
theorem spoilt_wp : ∀ (k n : Nat) {S : Sto} {B : Int} {v : Val} {d : PyData} {M nM W : Nat} {ms : List Val} {ds : List PyData}, Tp S B → (∀ r, S.length ≤ r → Fo r) → (∀ r, Fo r → r ≠ 1) → M ≠ 1 → S[M]? = some (.lst ms) → TlL S Fo m nM ms ds → 0 < ms.length → ms.length < 1000 → (∀ e ∈ ds, e.weight ≤ W) → Tl S Fo m n v d → n < k → d.weight ≤ 100000 → B + 6 * k < 2 ^ 40 → n + nM ≤ 30 → m < 2 ^ 199 →
    Wp (spoiltL_n k [.ref 1, v, .ref M] S) fun v' U => (∃ d', Tl U Fo m (n + nM) v' d' ∧ d'.weight ≤ 2 * d.weight + W + 10) ∧ Tp U (B + 6 * k) ∧ Kx 1 S U
  | 0, _, _, _, _, _, _, _, _, _, _, _, _, _, _, _, _, _, _, _, _, h, _, _, _, _ => absurd h (by omega)
  | k + 1, n, S, B, v, d, M, nM, W, ms, mds, T, hF, hz, hM1, gM, hms, m0, m1, hW, hv, kn, hw, hB, hn, hM => by
    have h40 := p40
    have h60 := p60
    have h900 : m < 2 ^ 900 := Nat.lt_of_lt_of_le hM (Nat.pow_le_pow_right (by decide) (by decide))
    have hB1 : ((k + 1 : Nat) : Int) = (k : Int) + 1 := by omega
    show Wp (runF 7 (spoiltL_B (spoiltL_n k)) [.ref 1, v, .ref M] S) _
    refine AL.wf ?_
    simp only [List.map_cons, List.map_nil, List.length_cons, List.length_nil, Nat.reduceAdd, Nat.reduceSub, List.replicate_succ, List.replicate_zero, List.cons_append, List.nil_append]
    unfold spoiltL_B
    -- an item of the menu
    have menu0 : ∀ {U : Sto} {B' : Int} {Q : Val → Sto → Prop}, Tp U B' → B' < B + 4 → Kx 1 S U → (∀ v' U' d', Tl U' Fo m nM v' d' → d'.weight ≤ W → Tp U' (B' + 1) → Kx 1 S U' → Q v' U') → Wp (drawL_ [.ref 1, .int ((ms.length : Nat) : Int)] U) fun y S2 => Wp (gIxA (.ref M) y S2) Q := fun {U B' Q} t hb kU q => by
      have gU := kU _ _ hM1 gM
      refine (K08.draw_wp t (m := ((ms.length : Nat) : Int)) (by omega) (by omega) (by omega)).imp ?_
      rintro _ U1 ⟨x, rfl, x0, x1, t1, k1⟩
      obtain ⟨x, rfl⟩ := Int.eq_ofNat_of_zero_le x0
      have hx : x < ms.length := by omega
      have ev := List.getElem?_eq_getElem hx
      obtain ⟨e, ee, he⟩ := (TlL.kx hms hz (kU.trans k1)).get ev
      refine vIxL rfl rfl (k1 _ _ hM1 gU) (atI_nat ev) ?_
      exact q _ _ e he (hW e (List.mem_of_getElem? ee)) t1 (kU.trans k1)
    have menu : ∀ {U : Sto} {B' : Int} {Q : Val → Sto → Prop} {a3 a4 a5 a6 : Option Val}, Tp U B' → B' < B + 4 → Kx 1 S U → (∀ v' U' d', Tl U' Fo m nM v' d' → d'.weight ≤ W → Tp U' (B' + 1) → Kx 1 S U' → Q v' U') → Wp ((eB gIxA (eV 2) (eDef drawL_ 2 (aCons (eV 0) (aCons (eCall gLen (aCons (eV 2) aNil)) aNil)))) [some (.ref 1), some v, some (.ref M), a3, a4, a5, a6] U) Q := fun {U B' Q a3 a4 a5 a6} t hb kU q => by
      have gU := kU _ _ hM1 gM
      array_get_dec
      exact menu0 t hb kU q
    array_get_dec
    refine (K08.draw_wp T (by decide) (by decide) (by omega)).imp ?_
    rintro _ S1 ⟨w, rfl, w0, w1, t1, k1⟩
    array_get_dec
    refine isTu_wp (Tl.kx hv hz k1) ?_
    have post : ∀ {U : Sto} {B' : Int} {d' : PyData} {v' : Val}, Tl U Fo m (n + nM) v' d' → d'.weight ≤ 2 * d.weight + W + 10 → Tp U B' → B' ≤ B + 6 * ((k + 1 : Nat) : Int) → Kx 1 S U → (∃ d', Tl U Fo m (n + nM) v' d' ∧ d'.weight ≤ 2 * d.weight + W + 10) ∧ Tp U (B + 6 * ((k + 1 : Nat) : Int)) ∧ Kx 1 S U := fun a b t c k => ⟨⟨_, a, b⟩, t.mono c, k⟩
    have up : ∀ {U : Sto} {x : Val} {e : PyData} {n0 : Nat}, Tl U Fo m n0 x e → n0 ≤ n + nM → Tl U Fo m (n + nM) x e := fun h l => h.up (Nat.le_refl _) (fun r vs f g => ⟨f, g⟩) _ l
    cases hv with
    | @tup n' vs ds h =>
      refine tb rfl (brF rfl ?_)
      array_get_dec
      refine vEqNilT h900 (by omega) (TlL.kx h hz k1) ?_
      refine tb rfl (Br.of (fun c => ?_) (fun c => ?_))
      · refine brT rfl (ws_ret (menu t1 (by omega) k1 fun v' U' d' a b t' k' => ?_))
        exact post (up a (by omega)) (by omega) t' (by omega) k'
      have vne : 0 < vs.length := by
        cases vs with
        | nil => exact absurd c (by decide)
        | cons a b => exact Nat.succ_pos _
      array_get_dec
      refine Br.of (fun c => ?_) (fun c => ?_)
      · refine (ws_ret (menu t1 (by omega) k1 fun v' U' d' a b t' k' => ?_))
        exact post (up a (by omega)) (by omega) t' (by omega) k'
      have dl := h.len
      have hw : PyData.weightAll ds ≤ 100000 := hw
      have wl : ∀ ds : List PyData, ds.length ≤ PyData.weightAll ds := fun ds => by
        induction ds with
        | nil => exact Nat.zero_le _
        | cons a b ih => simp only [PyData.weightAll, List.length_cons]; omega
      have wl1 := wl ds
      array_get_dec
      refine (K08.draw_wp t1 (m := ((vs.length : Nat) : Int)) (by omega) (by omega) (by omega)).imp ?_
      rintro _ S2 ⟨p, rfl, p0, p1, t2, k2⟩
      obtain ⟨p, rfl⟩ := Int.eq_ofNat_of_zero_le p0
      have hp : p < vs.length := by omega
      have k12 : Kx 1 S S2 := k1.trans k2
      have l1 : (vs.take p).length ≤ vs.length := by rw [List.length_take]; omega
      have l2 : ∀ q, (vs.drop q).length ≤ vs.length := fun q => by rw [List.length_drop]; omega
      have l3 : ((vs.drop p).take 1).length ≤ vs.length := by rw [List.length_take, List.length_drop]; omega
      have h2 := TlL.kx h hz k12
      have ev := List.getElem?_eq_getElem hp
      obtain ⟨dp, edp, hdp⟩ := h2.get ev
      have wp := w_at edp
      have ws1 := w_split p ds
      have ws2 := w_split (p + 1) ds
      have w1 : PyData.weightAll (ds.take p) + PyData.weightAll (ds.drop (p + 1)) ≤ PyData.weightAll ds := by omega
      have w2 : PyData.weightAll ((ds.drop p).take 1) ≤ PyData.weightAll ds := by
        have := w_split 1 (ds.drop p)
        omega
      array_get_dec
      have tfin : B + 1 + 1 ≤ B + 6 * ((k + 1 : Nat) : Int) := by omega
      refine Br.of (fun c => ?_) (fun c => ?_)
      · array_get_dec
        refine vSlA rfl ?_
        rw [cutN vs p (by omega)]
        array_get_dec
        refine vSlA rfl ?_
        rw [cutS]
        refine vAddT rfl rfl (by have := l2 (p + 1); omega) ?_
        refine post (up (.tup ((h2.take p).app (h2.drop (p + 1)))) (by omega)) ?_ t2 tfin k12
        show PyData.weightAll _ ≤ 2 * PyData.weightAll ds + W + 10
        rw [w_app]
        omega
      array_get_dec
      refine Br.of (fun c => ?_) (fun c => ?_)
      · array_get_dec
        refine vSlA rfl ?_
        rw [cutN vs p (by omega)]
        array_get_dec
        refine vSlA rfl ?_
        rw [cutO vs p hp]
        refine vAddT rfl rfl (by omega) ?_
        array_get_dec
        refine vSlA rfl ?_
        rw [cutD]
        refine vAddT rfl rfl (by have := l2 p; rw [List.length_append]; omega) ?_
        refine post (up (.tup (((h2.take p).app ((h2.drop p).take 1)).app (h2.drop p))) (by omega)) ?_ t2 tfin k12
        show PyData.weightAll _ ≤ 2 * PyData.weightAll ds + W + 10
        rw [w_app, w_app]
        omega
      array_get_dec
      refine Br.of (fun c => ?_) (fun c => ?_)
      · array_get_dec
        refine vSlA rfl ?_
        rw [cutN vs p (by omega)]
        array_get_dec
        refine (menu0 t2 (by omega) k12 fun v' U' d' a b t' k' => ?_)
        array_get_dec
        refine vAddT rfl rfl (by show _ + 1 ≤ _; omega) ?_
        array_get_dec
        refine vSlA rfl ?_
        rw [cutD]
        refine vAddT rfl rfl (by rw [List.length_append]; have := l2 p; simp only [List.length_singleton]; omega) ?_
        have h3 : TlL U' Fo m (n' + nM) vs ds := (TlL.kx h hz k').up (Nat.le_refl _) (fun r vs f g => ⟨f, g⟩) _ (by omega)
        have a3 : Tl U' Fo m (n' + nM) v' d' := a.up (Nat.le_refl _) (fun r vs f g => ⟨f, g⟩) _ (by omega)
        refine post (up (.tup (((h3.take p).app (TlL.one a3)).app (h3.drop p))) (by omega)) ?_ t' (by omega) k'
        show PyData.weightAll _ ≤ 2 * PyData.weightAll ds + W + 10
        rw [w_app, w_app]
        simp only [PyData.weightAll]
        omega
      array_get_dec
      refine Br.of (fun c => ?_) (fun c => ?_)
      · array_get_dec
        refine (K08.draw_wp t2 (m := ((vs.length : Nat) : Int)) (by omega) (by omega) (by omega)).imp ?_
        rintro _ S3 ⟨o, rfl, o0, o1, t3, k3⟩
        obtain ⟨o, rfl⟩ := Int.eq_ofNat_of_zero_le o0
        have ho : o < vs.length := by omega
        have k13 := k12.trans k3
        array_get_dec
        refine vListT rfl ?_
        intro S4 r4 e_r4 l_S4 g_r4 k_S4
        array_get_dec
        have evo := List.getElem?_eq_getElem ho
        refine ws_sub2 ?_
        array_get_dec
        refine vIxT rfl rfl (atI_nat evo) ?_
        array_get_dec
        refine vIxT rfl rfl (atI_nat ev) ?_
        array_get_dec
        refine ⟨_, _, rfl, ?_⟩
        array_get_dec
        refine vPutG g_r4 (ixN_nat hp) ?_
        intro S5 l_S5 g_S5 k_S5
        array_get_dec
        refine vPutG g_S5 (ixN_nat (by rw [List.length_set]; exact ho)) ?_
        intro S6 l_S6 g_S6 k_S6
        array_get_dec
        have n1 : r4 ≠ 1 := by have := t3.two; omega
        have t4 := t3.fr k_S4
        have k16 : Kx 1 S S6 := by
          intro j ob hj hob
          have a1 := k13 j ob hj hob
          have := lt_of_at a1
          exact k_S6 _ _ (by omega) (k_S5 _ _ (by omega) (k_S4 _ _ a1))
        have t6 : Tp S6 (B + 1 + 1 + 1) := by
          obtain ⟨ns, i, q, c, e0, e1, z⟩ := t4.ex
          have := t3.two
          exact ⟨ns, i, q, c, k_S6 _ _ (by omega) (k_S5 _ _ (by omega) e0), k_S6 _ _ (by omega) (k_S5 _ _ (by omega) e1), z⟩
        have h6 := TlL.kx h hz k16
        obtain ⟨da, eda, hda⟩ := h6.get ev
        obtain ⟨db, edb, hdb⟩ := h6.get evo
        refine post (up (.tup (TlL.set (k := o) (TlL.set (k := p) h6 hdb) hda)) (by omega)) ?_ t6 (by omega) k16
        have e1 := w_set (e := db) eda
        have e2 : (ds.set p db)[o]? = some db := by
          rw [List.getElem?_set]
          split
          · next c => rw [if_pos (by have := (List.getElem?_eq_some_iff.mp eda).1; exact this)]
          · exact edb
        have e3 := w_set (e := da) e2
        show PyData.weightAll _ ≤ 2 * PyData.weightAll ds + W + 10
        omega
      array_get_dec
      refine Br.of (fun c => ?_) (fun c => ?_)
      · array_get_dec
        refine vListT rfl ?_
        intro S3 r3 e_r3 l_S3 g_r3 k_S3
        array_get_dec
        have n1 : r3 ≠ 1 := by have := t2.two; omega
        have h3 := TlL.kx h2 hz (k_S3.kx 1)
        have le := tple T t2 k12
        refine post (up (.lst (hF _ (by omega)) g_r3 h3) (by omega)) ?_ (t2.fr k_S3) tfin (k12.trans (k_S3.kx 1))
        show PyData.weightAll _ ≤ 2 * PyData.weightAll ds + W + 10
        omega
      array_get_dec
      refine vSlA rfl ?_
      rw [cutN vs p (by omega)]
      array_get_dec
      refine vIxT rfl rfl (atI_nat ev) ?_
      array_get_dec
      have le := tple T t2 k12
      refine (spoilt_wp k n' t2 (fun r hr => hF r (by omega)) hz hM1 (k12 _ _ hM1 gM) (TlL.kx hms hz k12) m0 m1 hW hdp (by omega) (by omega) (by omega) (by omega) hM).imp ?_
      rintro v8 S8 ⟨⟨d8, a8, b8⟩, t8, k8⟩
      array_get_dec
      refine vAddT rfl rfl (by show _ + 1 ≤ _; omega) ?_
      array_get_dec
      refine vSlA rfl ?_
      rw [cutS]
      refine vAddT rfl rfl (by rw [List.length_append]; have := l2 (p + 1); simp only [List.length_singleton]; omega) ?_
      have H8 : TlL S8 Fo m (n' + nM) vs ds := (TlL.kx h hz (k12.trans k8)).up (Nat.le_refl _) (fun r vs f g => ⟨f, g⟩) _ (by omega)
      refine post (up (.tup (((H8.take p).app (TlL.one a8)).app (H8.drop (p + 1)))) (by omega)) ?_ t8 (by omega) (k12.trans k8)
      show PyData.weightAll _ ≤ 2 * PyData.weightAll ds + W + 10
      rw [w_app, w_app]
      simp only [PyData.weightAll]
      omega
    | _ =>
      refine tb rfl (brT rfl (brT rfl ?_))
      refine (ws_ret (menu t1 (by omega) k1 fun v' U' d' a b t' k' => ?_))
      exact post (up a (by omega)) (by omega) t' (by omega) k'
end
end K12
namespace K12
open PySem PySem.Spec PyProof.Rows L2 G Th AL K37 KL Fr
open K37 (common_divisor_ common_divisor_B)
open K08 (feedL_ feedL_B drawL_ drawL_B divisorL_ divisorL_B madeL_ madeL_B fieldL_ fieldL_B)
open K13 (is_numberL_ is_numberL_B)
open K14 (is_number_ is_number_B)
open K08 (F8 Sc wAt gaits ws_cut made_wp)
open K14 (own BoQ)
section
variable {fl : Fl} {es : List Ev} {S : Sto} {Q : Val → Sto → Prop} {a b : Nat}
theorem lc_fil {α : Type} {ok : Sto → Prop} {p : Pat} {t : BF} {f : EF} {ρ : Rho} {A : List Val → Sto → Prop} (hok : ok S) (L : List α) (k : α → Val) (b : α → Bool) (g : α → Val) (hl : L.length < 900000)
    (h : ∀ a ∈ L, Bn (p.bind (k a) ρ) fun ρ1 => Wp (t ρ1 S) fun c T => c = b a ∧ T = S ∧ (b a = true → Wp (f ρ1 S) fun y T => y = g a ∧ T = S)) (q : A ((L.filter b).map g) S) : Wp (lcR p t f ok ρ (L.map k) [] S) A := by
  refine lc_inv (fun i a V => a = ((L.take i).filter b).map g ∧ V = S) (by rw [List.length_map]; omega) ⟨rfl, rfl⟩ (fun i a V _ ⟨_, e⟩ => e ▸ hok) (fun i a V ⟨e, _⟩ => ?_) ?_ ?_
  · rw [e, List.length_map]
    have := List.length_filter_le b (L.take i)
    rw [List.length_take] at this
    omega
  · rintro i v a V hv ⟨rfl, rfl⟩
    rw [List.getElem?_map] at hv
    obtain ⟨x, hx, rfl⟩ := Option.map_eq_some_iff.mp hv
    obtain ⟨lt, ex⟩ := List.getElem?_eq_some_iff.mp hx
    obtain ⟨ρ1, hb, z⟩ := h x (List.mem_of_getElem? hx)
    refine ⟨ρ1, hb, z.imp fun c T ⟨c1, c2, z2⟩ => ?_⟩
    subst c1 c2
    have tk : L.take (i + 1) = L.take i ++ [x] := by rw [List.take_succ_eq_append_getElem lt, ex]
    rw [tk, List.filter_append, List.map_append]
    refine Br.of (fun c => ?_) (fun c => ?_)
    · refine (z2 c).imp fun y U ⟨y1, y2⟩ => ⟨?_, y2⟩
      rw [List.filter_cons_of_pos c, y1]
      rfl
    · rw [List.filter_cons_of_neg (by simpa using c)]
      exact ⟨by simp, rfl⟩
  · rintro a V ⟨rfl, rfl⟩
    rw [List.length_map, List.take_length]
    exact q
end
end K12
namespace K12
open PySem PySem.Spec PyProof.Rows L2 G Th AL K37 KL Fr
open K37 (common_divisor_ common_divisor_B)
open K08 (feedL_ feedL_B drawL_ drawL_B divisorL_ divisorL_B madeL_ madeL_B fieldL_ fieldL_B)
open K13 (is_numberL_ is_numberL_B)
open K14 (is_number_ is_number_B)
open K08 (F8 Sc wAt gaits ws_cut)
open K14 (own BoQ addB Bo)


section
variable {fl : Fl} {es : List Ev} {S : Sto} {Fo : Nat → Prop} {m n : Nat} {v : Val} {d : PyData} {Q : Val → Sto → Prop}
def isIn : Val → Bool
  | .int _ => true
  | .bl _ => true
  | _ => false
def isI : Val → Bool
  | .int _ => true
  | _ => false
theorem isIn_wp {Q : Val → Sto → Prop} (h : Tl S Fo m n v d) (q : Q (.bl (isIn v)) S) : Wp (gIsi "int" v S) Q := by
  cases h with
  | non => exact vIsi rfl kit_NoneType_int q
  | bl b => exact vIsi rfl kit_bool_int q
  | int i h => exact vIsi rfl kit_int_int q
  | str x h l => exact vIsi rfl kit_str_int q
  | tup h => exact vIsi rfl kit_tuple_int q
  | lst f g h => exact vIsi (by simp only [tyN, g]) kit_list_int q
theorem numberL_wp (h : Tl S Fo m n v d) : Wp (is_numberL_ [v] S) fun r T => r = .bl (isI v) ∧ S = T := by
  refine AL.wf ?_; simp only [List.map_cons, List.map_nil, List.length_cons, List.length_nil, Nat.reduceAdd, Nat.reduceSub, List.replicate_succ, List.replicate_zero, List.cons_append, List.nil_append]; unfold is_numberL_B; array_get_dec
  refine isIn_wp h ?_
  cases h with
  | int i hi => array_get_dec; exact ⟨rfl, rfl⟩
  | bl b => array_get_dec; exact ⟨rfl, rfl⟩
  | _ => array_get_dec; exact ⟨rfl, rfl⟩
theorem number_wp (h : Tl S Fo m n v d) : Wp (is_number_ [v] S) fun r T => r = .bl (isI v) ∧ S = T := by
  refine AL.wf ?_; simp only [List.map_cons, List.map_nil, List.length_cons, List.length_nil, Nat.reduceAdd, Nat.reduceSub, List.replicate_succ, List.replicate_zero, List.cons_append, List.nil_append]; unfold is_number_B; array_get_dec
  refine isIn_wp h ?_
  cases h with
  | int i hi => array_get_dec; exact ⟨rfl, rfl⟩
  | bl b => array_get_dec; exact ⟨rfl, rfl⟩
  | _ => array_get_dec; exact ⟨rfl, rfl⟩
theorem TlL.filter (b : Val → Bool) : ∀ {vs : List Val} {ds : List PyData}, TlL S Fo m n vs ds → ∃ es, TlL S Fo m n (vs.filter b) es
  | [], [], .nil => ⟨[], .nil⟩
  | v :: vs, d :: ds, .cons h hs => by
    obtain ⟨es, h2⟩ := TlL.filter b hs
    rw [List.filter_cons]
    split
    · exact ⟨d :: es, .cons h h2⟩
    · exact ⟨es, h2⟩
theorem vNeNilO {vs : List Val} {ds : List PyData} {p q : Nat} (hm : m < 2 ^ 900) (hn : n ≤ 37) (h : TlL S Fo m n vs ds) (gp : S[p]? = some (.lst vs)) (gq : S[q]? = some (.lst [])) (z : Q (.bl (!vs.isEmpty)) S) : Wp (gNe (.ref p) (.ref q) S) Q := by
  have e1 : eqS (.ref p) (.ref q) = none := rfl
  have hT : Tl S (fun _ => True) m (n + 1) (.ref p) (.list ds) := .lst trivial gp (h.up (Nat.le_refl _) (fun r vs f g => ⟨trivial, g⟩) _ (Nat.le_refl _))
  have hE : Tl S (fun _ => True) m (n + 1) (.ref q) (.list []) := .lst trivial gq .nil
  refine ⟨_, S, ?_, z⟩
  unfold gNe eqA
  rw [e1, hT.toD 40 (by omega), hE.toD 40 (by omega)]
  dsimp only
  rw [if_pos ⟨hT.shaped hm (by omega), hE.shaped hm (by omega)⟩]
  cases h with
  | nil => rfl
  | cons a b => rfl
def no (w : Str) (k : Int) : Val := .tup [.str "no", .str w, .int k]
theorem first (P : Nat → Prop) (N : Nat) : (∃ k, k < N ∧ ¬ P k ∧ ∀ j < k, P j) ∨ ∀ j < N, P j := by
  induction N with
  | zero => exact .inr fun j h => absurd h (by omega)
  | succ N ih =>
    rcases ih with ⟨k, h1, h2, h3⟩ | h
    · exact .inl ⟨k, by omega, h2, h3⟩
    · by_cases c : P N
      · refine .inr fun j hj => ?_
        rcases Nat.lt_or_ge j N with l | l
        · exact h j l
        · have : j = N := by omega
          exact this ▸ c
      · exact .inl ⟨N, by omega, c, h⟩
theorem w_len : ∀ ds : List PyData, ds.length ≤ PyData.weightAll ds
  | [] => Nat.zero_le _
  | a :: b => by
    have := w_len b
    simp only [PyData.weightAll, List.length_cons]
    omega
theorem Tl.len {vs : List Val} (h : Tl S Fo m n (.tup vs) d) : vs.length ≤ d.weight := by
  cases h with
  | tup h =>
    rename_i n' ds
    have := w_len ds
    have := h.len
    show _ ≤ PyData.weightAll ds
    omega
end
end K12
namespace K12
open PySem PySem.Spec PyProof.Rows L2 G Th AL K37 KL Fr
open K37 (common_divisor_ common_divisor_B)
open K08 (feedL_ feedL_B drawL_ drawL_B divisorL_ divisorL_B madeL_ madeL_B fieldL_ fieldL_B)
open K13 (is_numberL_ is_numberL_B)
open K14 (is_number_ is_number_B)
open K08 (F8 Sc wAt gaits ws_cut)
open K14 (own BoQ addB Bo)


section
variable {fl : Fl} {es : List Ev} {S : Sto} {Fo : Nat → Prop} {m n : Nat} {v : Val} {d : PyData} {Q : Val → Sto → Prop}
end
end K12
namespace K12
open PySem PySem.Spec PyProof.Rows L2 G Th AL K37 KL Fr
open K37 (common_divisor_ common_divisor_B)
open K08 (feedL_ feedL_B drawL_ drawL_B divisorL_ divisorL_B madeL_ madeL_B fieldL_ fieldL_B)
open K13 (is_numberL_ is_numberL_B)
open K14 (is_number_ is_number_B)
open K08 (F8 Sc wAt gaits ws_cut)
open K14 (own BoQ addB)

section
variable {fl : Fl} {es : List Ev} {S : Sto} {Fo : Nat → Prop} {m n : Nat} {v : Val} {d : PyData} {Q : Val → Sto → Prop}
theorem tx (x : Str) (h : PyData.strOk x = true) (l : x.cps.size ≤ 8) : TxOk x := ⟨h, Nat.le_trans l (by decide)⟩
end
end K12
namespace K12
open PySem PySem.Spec PyProof.Rows L2 G Th AL K37 KL Fr
open K37 (common_divisor_ common_divisor_B)
open K08 (feedL_ feedL_B drawL_ drawL_B divisorL_ divisorL_B madeL_ madeL_B fieldL_ fieldL_B)
open K13 (is_numberL_ is_numberL_B)
open K14 (is_number_ is_number_B)
section
variable {S T : Sto} {Fo Fo' : Nat → Prop} {n : Nat} {v : Val} {d : PyData}
def MM : Nat := 10 ^ 30
theorem mm900 : MM < 2 ^ 900 := by unfold MM; decide
theorem mm199 : MM < 2 ^ 199 := by unfold MM; decide
theorem w_int {i : Int} {b : Nat} (h : i.natAbs < 2 ^ b) : (PyData.int i).weight ≤ b := by
  unfold PyData.weight
  split
  · omega
  · next e =>
    have h0 : i.natAbs ≠ 0 := by
      intro z
      apply e
      rw [Int.natAbs_eq_zero.mp z]
      rfl
    have := (Nat.log2_lt h0).mpr h
    omega

structure Thg (S : Sto) (Fo : Nat → Prop) (n w : Nat) (v : Val) : Prop where
  ex : ∃ d, Tl S Fo MM n v d ∧ d.weight ≤ w
structure Thgs (S : Sto) (Fo : Nat → Prop) (n w : Nat) (vs : List Val) : Prop where
  ex : ∃ ds, TlL S Fo MM n vs ds ∧ ∀ e ∈ ds, e.weight ≤ w
theorem Thgs.nil {w : Nat} : Thgs S Fo n w [] := ⟨[], .nil, by simp⟩
theorem Thg.mono {n' w w' : Nat} (h : Thg S Fo n w v) (hn : n ≤ n') (hw : w ≤ w') : Thg S Fo n' w' v := by
  obtain ⟨d, a, b⟩ := h.ex
  exact ⟨d, a.up (Nat.le_refl _) (fun r vs f g => ⟨f, g⟩) _ hn, by omega⟩
theorem Thgs.cons {w : Nat} {vs : List Val} (h : Thg S Fo n w v) (hs : Thgs S Fo n w vs) : Thgs S Fo n w (v :: vs) := by
  obtain ⟨d, a, b⟩ := h.ex
  obtain ⟨ds, a2, b2⟩ := hs.ex
  exact ⟨d :: ds, .cons a a2, fun e he => by rcases List.mem_cons.mp he with rfl | he; exact b; exact b2 e he⟩
theorem Thgs.app {w : Nat} {vs ws : List Val} (h : Thgs S Fo n w vs) (hs : Thgs S Fo n w ws) : Thgs S Fo n w (vs ++ ws) := by
  obtain ⟨ds, a, b⟩ := h.ex
  obtain ⟨es, a2, b2⟩ := hs.ex
  exact ⟨ds ++ es, a.app a2, fun e he => by rcases List.mem_append.mp he with he | he; exact b e he; exact b2 e he⟩
theorem Thgs.mono {n' w w' : Nat} {vs : List Val} (h : Thgs S Fo n w vs) (hn : n ≤ n') (hw : w ≤ w') : Thgs S Fo n' w' vs := by
  obtain ⟨ds, a, b⟩ := h.ex
  exact ⟨ds, a.up (Nat.le_refl _) (fun r vs f g => ⟨f, g⟩) _ hn, fun e he => by have := b e he; omega⟩
theorem Thgs.up {w : Nat} {vs : List Val} (h : Thgs S Fo n w vs) (k : ∀ r vs, Fo r → S[r]? = some (.lst vs) → Fo' r ∧ T[r]? = some (.lst vs)) : Thgs T Fo' n w vs := by
  obtain ⟨ds, a, b⟩ := h.ex
  exact ⟨ds, a.up (Nat.le_refl _) k _ (Nat.le_refl _), b⟩
theorem Thg.up {w : Nat} (h : Thg S Fo n w v) (k : ∀ r vs, Fo r → S[r]? = some (.lst vs) → Fo' r ∧ T[r]? = some (.lst vs)) : Thg T Fo' n w v := by
  obtain ⟨d, a, b⟩ := h.ex
  exact ⟨d, a.up (Nat.le_refl _) k _ (Nat.le_refl _), b⟩
theorem Thgs.get {w : Nat} {vs : List Val} {i : Nat} (h : Thgs S Fo n w vs) (hi : vs[i]? = some v) : Thg S Fo n w v := by
  obtain ⟨ds, a, b⟩ := h.ex
  obtain ⟨d, e, t⟩ := a.get hi
  exact ⟨d, t, b d (List.mem_of_getElem? e)⟩
abbrev F1 : Nat → Prop := fun r => r ≠ 1
abbrev F2 (q : Nat) : Nat → Prop := fun r => r ≠ 1 ∧ r ≠ q
structure It (S : Sto) (q N : Nat) : Prop where
  ex : ∃ vs, S[q]? = some (.lst vs) ∧ Thgs S (F2 q) 5 1000 vs ∧ vs.length ≤ N
structure Nt (vs : List Val) (w : Nat) : Prop where
  ex : ∀ (S : Sto) (Fo : Nat → Prop), ∃ ds, TlL S Fo MM 0 vs ds ∧ PyData.weightAll ds ≤ w
theorem Nt.one {k : Nat} (h : k < 32) : Nt [natV k] 6 := ⟨fun S Fo => ⟨[.int (k : Nat)], .cons (.int _ (by
    have : ((k : Nat) : Int).natAbs = k := by omega
    rw [this]
    exact Nat.le_of_lt (Nat.lt_of_lt_of_le h (by unfold MM; decide)))) .nil, by
      have := w_int (i := (k : Nat)) (b := 5) (by show ((k : Nat) : Int).natAbs < 32; omega)
      simp only [PyData.weightAll]
      omega⟩⟩
theorem Nt.nil : Nt [] 0 := ⟨fun S Fo => ⟨[], .nil, by simp [PyData.weightAll]⟩⟩
theorem Nt.app {vs ws : List Val} {a b : Nat} (h : Nt vs a) (h' : Nt ws b) : Nt (vs ++ ws) (a + b) := ⟨fun S Fo => by
  obtain ⟨ds, x, y⟩ := h.ex S Fo
  obtain ⟨es, x2, y2⟩ := h'.ex S Fo
  exact ⟨ds ++ es, x.app x2, by rw [w_app]; omega⟩⟩
theorem Nt.mono {vs : List Val} {a b : Nat} (h : Nt vs a) (l : a ≤ b) : Nt vs b := ⟨fun S Fo => by
  obtain ⟨ds, x, y⟩ := h.ex S Fo
  exact ⟨ds, x, by omega⟩⟩
theorem Nt.take {vs : List Val} {a : Nat} (k : Nat) (h : Nt vs a) : Nt (vs.take k) a := ⟨fun S Fo => by
  obtain ⟨ds, x, y⟩ := h.ex S Fo
  exact ⟨ds.take k, x.take k, by have := w_split k ds; omega⟩⟩
theorem Nt.tup {vs : List Val} {a w : Nat} (h : Nt vs a) (l : a ≤ w) : Thg S Fo 1 w (.tup vs) := by
  obtain ⟨ds, x, y⟩ := h.ex S Fo
  exact ⟨.tuple ds, .tup x, by show PyData.weightAll ds ≤ w; omega⟩
theorem Nt.lst {vs : List Val} {a w r : Nat} (h : Nt vs a) (l : a ≤ w) (f : Fo r) (g : S[r]? = some (.lst vs)) : Thg S Fo 1 w (.ref r) := by
  obtain ⟨ds, x, y⟩ := h.ex S Fo
  exact ⟨.list ds, .lst f g x, by show PyData.weightAll ds ≤ w; omega⟩
theorem g_non {w : Nat} : Thg S Fo n w .non := ⟨.none, .non, Nat.zero_le _⟩
theorem g_bl {w : Nat} (b : Bool) : Thg S Fo n w (.bl b) := ⟨.bool b, .bl b, Nat.zero_le _⟩
theorem g_int {w b : Nat} {i : Int} (h : i.natAbs < 2 ^ b) (hm : i.natAbs ≤ MM) (l : b ≤ w) : Thg S Fo n w (.int i) := ⟨.int i, .int i hm, Nat.le_trans (w_int h) l⟩
theorem g_small {w : Nat} {i : Int} (h : i.natAbs < 64) (l : 6 ≤ w) : Thg S Fo n w (.int i) := g_int (b := 6) h (Nat.le_trans (Nat.le_of_lt h) (by unfold MM; decide)) l
theorem g_str {w : Nat} {x : Str} (h : PyData.strOk x = true) (l : x.cps.size ≤ 8) (hw : 8 ≤ w) : Thg S Fo n w (.str x) := ⟨.str x, .str x h (by omega), by show x.cps.size ≤ w; omega⟩
theorem thgs_w {w : Nat} : ∀ {vs : List Val} {ds : List PyData}, TlL S Fo MM n vs ds → (∀ e ∈ ds, e.weight ≤ w) → PyData.weightAll ds ≤ (w + 1) * vs.length
  | [], [], .nil, _ => by simp [PyData.weightAll]
  | v :: vs, d :: ds, .cons h hs, l => by
    have := thgs_w hs fun e he => l e (List.mem_cons_of_mem _ he)
    have := l d (by simp)
    simp only [PyData.weightAll, List.length_cons, Nat.mul_succ]
    omega
theorem g_tup {w w' : Nat} {vs : List Val} (h : Thgs S Fo n w vs) (l : (w + 1) * vs.length ≤ w') : Thg S Fo (n + 1) w' (.tup vs) := by
  obtain ⟨ds, a, b⟩ := h.ex
  exact ⟨.tuple ds, .tup a, Nat.le_trans (thgs_w a b) l⟩
theorem g_lst {w w' r : Nat} {vs : List Val} (h : Thgs S Fo n w vs) (l : (w + 1) * vs.length ≤ w') (f : Fo r) (g : S[r]? = some (.lst vs)) : Thg S Fo (n + 1) w' (.ref r) := by
  obtain ⟨ds, a, b⟩ := h.ex
  exact ⟨.list ds, .lst f g a, Nat.le_trans (thgs_w a b) l⟩
end
end K12
namespace K19
open PySem PySem.Spec PyProof.Rows L2 G Th AL K37 KL Fr
open K08 (wm wd ws_cut)
theorem H9.mono {b b' : Nat} {fl : Fl} {es : List Ev} (h : H9 b fl es) (hb : b ≤ b') : H9 b' fl es := ⟨h.len, h.ev, fun i hi => by obtain ⟨k, e, l⟩ := h.st i hi; exact ⟨k, e, by omega⟩⟩
theorem F9.up {fl : Fl} (h : F9 10 fl) : F9 20 fl := ⟨h.nd, h.ne, h.few, h.rate, fun l hl => by obtain ⟨⟨n, a, b, c⟩, d, e⟩ := h.lk l hl; exact ⟨⟨n, a, b, by omega⟩, d, e⟩, h.lfew, h.tx, h.so⟩
end K19
namespace K19
open PySem PySem.Spec PyProof.Rows L2 G Th AL K37 KL Fr
open K08 (wm wd ws_cut)
section
variable {fl : Fl} {es : List Ev} {b : Nat}
end
end K19
namespace K07
open PySem PySem.Spec PyProof.Rows L2 G Th AL K37 KL Fr
open K37 (common_divisor_ common_divisor_B is_below_ is_below_B)
open K08 (feedL_ feedL_B drawL_ drawL_B divisorL_ divisorL_B madeL_ madeL_B fieldL_ fieldL_B)
open K13 (is_numberL_ is_numberL_B)

open K14 (is_number_ is_number_B)
open K12 (spoiltL_ spoiltL_B spoiltL_n)
open K08 (F8 Sc wAt gaits ws_cut made_wp)
open K14 (own BoQ)

open K12 (lc_fil)
section
variable {fl : Fl} {es : List Ev} {S : Sto} {Q : Val → Sto → Prop} {a b : Nat}
theorem vSlAL {q : Nat} {lo hi : Option Int} {vs : List Val} (h : S[q]? = some (.lst vs)) (z : Nw S (.lst (cutL vs lo hi)) Q) : Wp (gSlA (.ref q) lo hi S) Q := by
  show Wp (gSl (.ref q) lo hi S) Q
  exact ⟨_, _, by simp only [gSl, h], z.use⟩
end
end K07
namespace K07
open PySem PySem.Spec PyProof.Rows L2 G Th AL K37 KL Fr
open K37 (common_divisor_ common_divisor_B is_below_ is_below_B)
open K08 (feedL_ feedL_B drawL_ drawL_B divisorL_ divisorL_B madeL_ madeL_B fieldL_ fieldL_B)
open K13 (is_numberL_ is_numberL_B)

open K14 (is_number_ is_number_B)
open K12 (spoiltL_ spoiltL_B spoiltL_n)
open K08 (F8 Sc wAt gaits ws_cut)


section
variable {fl : Fl} {es : List Ev} {S : Sto} {Q : Val → Sto → Prop} {ps : List Fq}
structure Pk (es : List Ev) (ps : List Fq) : Prop where
  len : ps.length = es.length
  ok : ∀ x ∈ ps, Fr.Ok 110 x
theorem Pk.at (h : Pk es ps) {i : Nat} (hi : i < es.length) : Fr.Ok 110 (ps.getD i (0, 1)) := by
  have : i < ps.length := by rw [h.len]; exact hi
  rw [List.getD, List.getElem?_eq_getElem this]
  exact h.ok _ (List.getElem_mem this)
end
end K07
namespace K07
open PySem PySem.Spec PyProof.Rows L2 G Th AL K37 KL Fr
open K37 (common_divisor_ common_divisor_B is_below_ is_below_B)
open K08 (feedL_ feedL_B drawL_ drawL_B divisorL_ divisorL_B madeL_ madeL_B fieldL_ fieldL_B)
open K13 (is_numberL_ is_numberL_B)

open K14 (is_number_ is_number_B)
open K12 (spoiltL_ spoiltL_B spoiltL_n)
open K08 (F8 Sc wAt gaits ws_cut divisor_wp)

open K12 (isTu_wp isI number_wp numberL_wp vNeNilO w_len lc_fil isTu)

section
variable {fl : Fl} {es : List Ev} {S : Sto} {Fo : Nat → Prop} {m n : Nat} {v : Val} {d : PyData} {Q : Val → Sto → Prop}
def isFr : Val → Bool
  | .tup [.int a, .int b] => decide (0 < b) && decide (Int.gcd a b = 1)
  | _ => false
theorem isFr_1 {x : Val} : isFr (.tup [x]) = false := by cases x <;> rfl
theorem isFr_3 {x y z : Val} {r : List Val} : isFr (.tup (x :: y :: z :: r)) = false := by cases x <;> cases y <;> rfl
theorem isFr_x {x y : Val} (h : isI x = false) : isFr (.tup [x, y]) = false := by cases x <;> first | rfl | cases h
theorem isFr_y {x y : Val} (h : isI y = false) : isFr (.tup [x, y]) = false := by cases x <;> cases y <;> first | rfl | cases h
theorem isI_ex {x : Val} (h : isI x = true) : ∃ i, x = .int i := by cases x <;> first | exact ⟨_, rfl⟩ | cases h
theorem fr_wp (h : Tl S Fo m n v d) : Wp (is_fraction_ [v] S) fun o T => o = .bl (isFr v) ∧ S = T := by
  refine AL.wf ?_; simp only [List.map_cons, List.map_nil, List.length_cons, List.length_nil, Nat.reduceAdd, Nat.reduceSub, List.replicate_succ, List.replicate_zero, List.cons_append, List.nil_append]; unfold is_fraction_B; array_get_dec
  refine isTu_wp h ?_
  cases h with
  | @tup n' vs ds h =>
    refine tb rfl (brF rfl ?_)
    array_get_dec
    cases h with
    | nil => exact brT rfl (by array_get_dec; exact ⟨rfl, rfl⟩)
    | @cons _ x _ dx _ hx hs =>
      cases hs with
      | nil => exact brT rfl (by array_get_dec; exact ⟨by rw [isFr_1], rfl⟩)
      | @cons _ y _ dy _ hy hs =>
        cases hs with
        | nil =>
          refine brF rfl ?_
          array_get_dec
          refine (number_wp hx).imp ?_
          rintro _ _ ⟨rfl, rfl⟩
          refine tb rfl (Br.of (fun c => ?_) (fun c => ?_))
          rotate_left
          · exact ⟨by rw [isFr_x c], rfl⟩
          obtain ⟨a, rfl⟩ := isI_ex c
          array_get_dec
          refine (number_wp hy).imp ?_
          rintro _ _ ⟨rfl, rfl⟩
          refine tb rfl (Br.of (fun c => ?_) (fun c => ?_))
          rotate_left
          · exact ⟨by rw [isFr_y c], rfl⟩
          obtain ⟨b, rfl⟩ := isI_ex c
          array_get_dec
          refine Br.of (fun c => ?_) (fun c => ?_)
          · have c : 0 < b := of_decide_eq_true c
            array_get_dec
            refine Wp.of (cd_eq (by omega)) ?_
            array_get_dec
            refine ⟨?_, rfl⟩
            show Val.bl _ = .bl (decide (0 < b) && decide (Int.gcd a b = 1))
            rw [decide_eq_true c, Bool.true_and]
            congr 1
            exact decide_eq_decide.mpr ⟨fun h => by omega, fun h => by omega⟩
          · refine ⟨?_, rfl⟩
            show _ = Val.bl (decide (0 < b) && decide (Int.gcd a b = 1))
            rw [c]
            rfl
        | cons hz hs =>
          refine brT ?_ ?_
          · simp only [List.length_cons]
            rw [Bool.not_eq_true', decide_eq_false_iff_not]
            omega
          array_get_dec
          exact ⟨by rw [isFr_3], rfl⟩
  | _ =>
    refine tb rfl (brT rfl (brT rfl ?_))
    array_get_dec
    exact ⟨rfl, rfl⟩
theorem frL_wp (h : Tl S Fo m n v d) (hm : m < 2 ^ 900) (hn : n ≤ 36) (hw : d.weight ≤ 1000000) : Wp (is_fractionL_ [v] S) fun o T => o = .bl (isFr v) ∧ Kn S T := by
  refine AL.wf ?_; simp only [List.map_cons, List.map_nil, List.length_cons, List.length_nil, Nat.reduceAdd, Nat.reduceSub, List.replicate_succ, List.replicate_zero, List.cons_append, List.nil_append]; unfold is_fractionL_B; array_get_dec
  refine isTu_wp h ?_
  cases h with
  | @tup n' vs ds h =>
    refine tb rfl (brF rfl ?_)
    array_get_dec
    have h0 := h
    cases h with
    | nil => exact brT rfl (brT rfl (by array_get_dec; exact ⟨rfl, Kn.refl _⟩))
    | @cons _ x _ dx _ hx hs =>
      cases hs with
      | nil => exact brT rfl (brT rfl (by array_get_dec; exact ⟨by rw [isFr_1], Kn.refl _⟩))
      | @cons _ y _ dy _ hy hs =>
        cases hs with
        | nil =>
          refine brF rfl ?_
          array_get_dec
          refine .inl ⟨_, rfl, ?_⟩
          refine lc_fil trivial [x, y] id (fun v => !isI v) id (by simp) (fun z hz => ?_) ?_
          · obtain ⟨dz, _, hz⟩ := h0.mem hz
            refine bn rfl ?_
            array_get_dec
            refine (numberL_wp hz).imp ?_
            rintro _ _ ⟨rfl, rfl⟩
            array_get_dec
            exact ⟨rfl, rfl, fun _ => by array_get_dec; exact ⟨rfl, rfl⟩⟩
          rw [List.map_id]
          intro U1 q1 e_q1 l_U1 g_q1 k_U1
          array_get_dec
          intro U2 q2 e_q2 l_U2 g_q2 k_U2
          obtain ⟨es', hf⟩ := K12.TlL.filter (fun v => !isI v) h0
          refine vNeNilO hm (by omega) (hf.up (Nat.le_refl _) (fun r vs f g => ⟨f, k_U2 _ _ (k_U1 _ _ g)⟩) _ (Nat.le_refl _)) (k_U2 _ _ g_q1) g_q2 ?_
          have kU : Kn S U2 := k_U1.trans k_U2
          cases cx : isI x with
          | false =>
            refine tb rfl (brT (by simp [cx]) ?_)
            array_get_dec
            exact ⟨by rw [isFr_x cx], kU⟩
          | true =>
            cases cy : isI y with
            | false =>
              refine tb rfl (brT (by simp [cx, cy]) ?_)
              array_get_dec
              exact ⟨by rw [isFr_y cy], kU⟩
            | true =>
              obtain ⟨a, rfl⟩ := isI_ex cx
              obtain ⟨b, rfl⟩ := isI_ex cy
              refine tb rfl (brF (by simp [isI]) ?_)
              array_get_dec
              refine Br.of (fun c => ?_) (fun c => ?_)
              · have c : 0 < b := of_decide_eq_true c
                array_get_dec
                refine (divisor_wp (by split <;> omega) (by omega)).imp ?_
                rintro _ _ ⟨rfl, rfl⟩
                have eg : Int.gcd (if a < 0 then -a else a) b = Int.gcd a b := by
                  split
                  · rw [Int.neg_gcd]
                  · rfl
                rw [eg]
                array_get_dec
                refine ⟨?_, kU⟩
                show Val.bl _ = .bl (decide (0 < b) && decide (Int.gcd a b = 1))
                rw [decide_eq_true c, Bool.true_and]
                congr 1
                exact decide_eq_decide.mpr ⟨fun h => by omega, fun h => by omega⟩
              · refine ⟨?_, kU⟩
                show _ = Val.bl (decide (0 < b) && decide (Int.gcd a b = 1))
                rw [c]
                rfl
        | cons hz hs =>
          refine brT ?_ (brT rfl ?_)
          · simp only [List.length_cons]
            rw [Bool.not_eq_true', decide_eq_false_iff_not]
            omega
          array_get_dec
          exact ⟨by rw [isFr_3], Kn.refl _⟩
  | _ =>
    refine tb rfl (brT rfl (brT rfl ?_))
    array_get_dec
    exact ⟨rfl, Kn.refl _⟩
theorem one_of {x : Val} (h : Tl S Fo K12.MM n x d) (f : isFr x = true) : ∃ p : Fq, x = frV p ∧ Fr.Ok 110 p := by
  cases h with
  | @tup n' vs ds h =>
    cases h with
    | nil => cases f
    | @cons _ x _ dx _ hx hs =>
      cases hs with
      | nil => rw [isFr_1] at f; cases f
      | @cons _ y _ dy _ hy hs =>
        cases hs with
        | cons hz hs => rw [isFr_3] at f; cases f
        | nil =>
          cases cx : isI x with
          | false => rw [isFr_x cx] at f; cases f
          | true =>
            cases cy : isI y with
            | false => rw [isFr_y cy] at f; cases f
            | true =>
              obtain ⟨a, rfl⟩ := isI_ex cx
              obtain ⟨b, rfl⟩ := isI_ex cy
              have f : (decide (0 < b) && decide (Int.gcd a b = 1)) = true := f
              rw [Bool.and_eq_true] at f
              have lim : K12.MM < 2 ^ 110 := by unfold K12.MM; decide
              cases hx with
              | int _ ha =>
                cases hy with
                | int _ hb => exact ⟨(a, b), rfl, of_decide_eq_true f.1, of_decide_eq_true f.2, Nat.lt_of_le_of_lt ha lim, Nat.lt_of_le_of_lt hb lim⟩
  | _ => cases f
def no (w : Str) (k : Int) : Val := .tup [.str "no", .str w, .int k]
end
end K07
namespace K07
open PySem PySem.Spec PyProof.Rows L2 G Th AL K37 KL Fr
open K08 (feedL_ feedL_B drawL_ drawL_B divisorL_ divisorL_B madeL_ madeL_B)

open K12 (Thg Thgs F1 F2 g_int g_tup g_lst g_non MM)
section
variable {S T : Sto} {Fo Fo' : Nat → Prop} {ws : List Fq}

def Fn (x : Val) : Prop := ∃ a b : Int, x = .tup [.int a, .int b] ∧ a.natAbs < 2 ^ 98 ∧ b.natAbs < 2 ^ 98
theorem mm98 {i : Int} (h : i.natAbs < 2 ^ 98) : i.natAbs ≤ MM := by
  have : 2 ^ 98 ≤ MM := by unfold MM; decide
  omega
theorem Fn.thg {x : Val} (h : Fn x) : Thg S Fo 1 198 x := by
  obtain ⟨a, b, rfl, ha, hb⟩ := h
  exact g_tup (n := 0) (w := 98) (.cons (g_int ha (mm98 ha) (Nat.le_refl _)) (.cons (g_int hb (mm98 hb) (Nat.le_refl _)) Thgs.nil)) (by simp)
theorem Fn.all : ∀ {vs : List Val}, (∀ x ∈ vs, Fn x) → Thgs S Fo 1 198 vs
  | [], _ => Thgs.nil
  | x :: vs, h => .cons (h x (by simp)).thg (Fn.all fun y hy => h y (List.mem_cons_of_mem _ hy))
theorem Fn.tup {vs : List Val} (h : ∀ x ∈ vs, Fn x) (l : vs.length ≤ 31) : Thg S Fo 3 6300 (.tup vs) :=
  (g_tup (Fn.all h) (w' := 6300) (by omega)).mono (by decide) (Nat.le_refl _)
theorem Fn.ok {n : Nat} {x : Fq} (h : Fr.Ok n x) (hn : n ≤ 98) : Fn (frV x) := by
  have := h.mono hn
  exact ⟨x.1, x.2, rfl, this.b1, this.b2⟩

end
end K07
namespace K07
open PySem PySem.Spec PyProof.Rows L2 G Th AL K37 KL Fr
open K08 (F8 Sc wAt gaits)
open K14 (Ok.n0)
section
variable {fl : Fl} {es : List Ev} {ws : List Fq}
end
end K07
namespace K09
open PySem PySem.Spec PyProof.Rows L2 G Th AL K37 KL Fr
open K37 (common_divisor_ common_divisor_B is_below_ is_below_B)
open K14 (is_number_ is_number_B)
open K07 (is_fraction_ is_fraction_B isFr fr_wp one_of)
open K12 (isTu isTu_wp isI number_wp MM mm900 w_len)
section
variable {S : Sto} {Fo : Nat → Prop} {m n : Nat} {v : Val} {d : PyData}
abbrev abc : Str := "abcdefghijklmnopqrstuvwxyz"
def isTx : Val → Bool
  | .str _ => true
  | _ => false
theorem isTx_wp {Q : Val → Sto → Prop} (h : Tl S Fo m n v d) (q : Q (.bl (isTx v)) S) : Wp (gIsi "str" v S) Q := by
  cases h with
  | non => exact vIsi rfl kit_NoneType_str q
  | bl b => exact vIsi rfl kit_bool_str q
  | int i h => exact vIsi rfl kit_int_str q
  | str x h l => exact vIsi rfl kit_str_str q
  | tup h => exact vIsi rfl kit_tuple_str q
  | lst f g h =>
    refine ⟨_, S, ?_, q⟩
    simp only [gIsi, tyN, g, Option.bind_some, kit_list_str, Option.map_some]
    rfl
def isCh : Val → Bool
  | .str c => inTx c abc
  | _ => false
def isW : Val → Bool
  | .str x => decide (1 ≤ x.cps.size) && decide (x.cps.size ≤ 8) && (chV x).all isCh
  | _ => false
theorem chV_len (x : Str) : (chV x).length = x.cps.size := by simp [chV]
theorem vLenS {x : Str} {y : Val} {Q : Val → Sto → Prop} (hy : y = .str x) (l : x.cps.size ≤ 70) (q : Q (.int x.cps.size) S) : Wp (gLen [y] S) Q := by
  subst hy
  exact ⟨_, S, if_pos (Nat.le_of_lt (small (by show x.cps.size < _; omega))), q⟩
theorem all_wp {Q : Val → Sto → Prop} {r : Nat} {l : List Val} {f : Val → Bool} (g : S[r]? = some (.lst ((l.filter fun _ => true).map fun v => .bl (f v)))) (q : Q (.bl (l.all f)) S) : Wp (gAll [.ref r] S) Q := by
  rw [List.filter_eq_self.mpr (fun _ _ => rfl)] at g
  refine vAll (bs := l.map f) rfl (by rw [List.map_map]; exact g) ?_
  rw [List.all_map]
  exact q
theorem word_wp (h : Tl S Fo m n v d) : Wp (is_word_ [v] S) fun u T => u = .bl (isW v) ∧ Kn S T := by
  refine AL.wf ?_; simp only [List.map_cons, List.map_nil, List.length_cons, List.length_nil, Nat.reduceAdd, Nat.reduceSub, List.replicate_succ, List.replicate_zero, List.cons_append, List.nil_append]; unfold is_word_B; array_get_dec
  refine isTx_wp h ?_
  cases h with
  | str x hx l =>
    array_get_dec
    refine vLenS rfl l ?_
    array_get_dec
    have e1 : decide ((1 : Int) ≤ x.cps.size) = decide (1 ≤ x.cps.size) := by rw [decide_eq_decide]; omega
    have e2 : decide ((x.cps.size : Int) ≤ 8) = decide (x.cps.size ≤ 8) := by rw [decide_eq_decide]; omega
    refine Br.of (fun c => ?_) (fun c => ?_)
    · array_get_dec
      refine Br.of (fun c2 => ?_) (fun c2 => ?_)
      · rw [Bool.not_eq_true'] at c2
        array_get_dec
        refine ⟨?_, Kn.refl _⟩
        rw [e2] at c2
        simp only [isW, c2, Bool.and_false, Bool.false_and]
      · rw [Bool.not_eq_false'] at c2
        array_get_dec
        refine wiC (wv rfl ⟨x, rfl, ?_⟩)
        refine lc_pure (fun _ => true) (fun v => .bl (isCh v)) trivial (by rw [chV_len]; omega) (fun v hv => ?_) ?_
        · obtain ⟨c, hc, rfl⟩ := List.mem_map.mp hv
          refine bn rfl ?_
          array_get_dec
          refine ⟨rfl, rfl, fun _ => ?_⟩
          array_get_dec
          refine vInT rfl rfl ⟨rfl, rfl⟩
        · intro T r e_r l_T g_r k_T
          array_get_dec
          refine all_wp g_r ⟨?_, k_T⟩
          rw [e1] at c
          rw [e2] at c2
          simp only [isW, c, c2, Bool.true_and]
    · rw [e1] at c
      array_get_dec
      refine ⟨?_, Kn.refl _⟩
      simp only [isW, c, Bool.false_and]
  | _ => array_get_dec; exact ⟨rfl, Kn.refl _⟩
def fq : Val → Fq
  | .tup [.int a, .int b] => (a, b)
  | _ => (0, 1)
def blw (a b : Fq) : Bool := decide (a.1 * b.2 < b.1 * a.2)
theorem blw_wp {x y : Fq} {a b : Nat} {Q : Val → Sto → Prop} (hx : Fr.Ok a x) (ha : a ≤ 200) (hy : Fr.Ok b y) (hb : b ≤ 200) (q : Q (.bl (blw x y)) S) : Wp (is_below_ [frV x, frV y] S) Q :=
  ⟨_, _, is_below_eq (.of hx (Nat.le_trans ha (by decide))) (.of hy (Nat.le_trans hb (by decide))), q⟩
theorem fr_get (h : Tl S Fo MM n v d) (f : isFr v = true) : ∃ x : Fq, v = frV x ∧ fq v = x ∧ Fr.Ok 110 x := by
  obtain ⟨x, rfl, o⟩ := one_of h f
  exact ⟨x, rfl, rfl, o⟩
theorem ok0 : Fr.Ok 110 ((0, 1) : Fq) := ⟨by decide, by decide, by decide, by decide⟩
theorem ok1 : Fr.Ok 110 ((1, 1) : Fq) := ⟨by decide, by decide, by decide, by decide⟩
def hoOk (s f : Fq) : Bool := blw (0, 1) s && (!blw (1, 1) s && !blw f (1, 1))
def isHo : Val → Bool
  | .tup [x, y, z] => isW x && (isFr y && (isFr z && hoOk (fq y) (fq z)))
  | _ => false
theorem isHo_no {vs : List Val} (h : vs.length ≠ 3) : isHo (.tup vs) = false := by
  unfold isHo
  split
  · next e => injection e with e; subst e; simp at h
  · rfl
theorem three {vs : List Val} {ds : List PyData} (h : TlL S Fo m n vs ds) : vs.length ≠ 3 ∨ ∃ a b c x y z, vs = [a, b, c] ∧ ds = [x, y, z] ∧ Tl S Fo m n a x ∧ Tl S Fo m n b y ∧ Tl S Fo m n c z := by
  cases h with
  | nil => exact .inl (by simp)
  | cons h1 h => cases h with
    | nil => exact .inl (by simp)
    | cons h2 h => cases h with
      | nil => exact .inl (by simp)
      | cons h3 h => cases h with
        | nil => exact .inr ⟨_, _, _, _, _, _, rfl, rfl, h1, h2, h3⟩
        | cons h4 h => exact .inl (by simp)
theorem four {vs : List Val} {ds : List PyData} (h : TlL S Fo m n vs ds) : vs.length ≠ 4 ∨ ∃ a b c e x y z w, vs = [a, b, c, e] ∧ Tl S Fo m n a x ∧ Tl S Fo m n b y ∧ Tl S Fo m n c z ∧ Tl S Fo m n e w := by
  cases h with
  | nil => exact .inl (by simp)
  | cons h1 h => cases h with
    | nil => exact .inl (by simp)
    | cons h2 h => cases h with
      | nil => exact .inl (by simp)
      | cons h3 h => cases h with
        | nil => exact .inl (by simp)
        | cons h4 h => cases h with
          | nil => exact .inr ⟨_, _, _, _, _, _, _, _, rfl, h1, h2, h3, h4⟩
          | cons h5 h => exact .inl (by simp)
theorem Tl.kn {T : Sto} (h : Tl S Fo m n v d) (k : Kn S T) : Tl T Fo m n v d := h.up (Nat.le_refl _) (fun r vs f g => ⟨f, k r _ g⟩) n (Nat.le_refl _)
theorem TlL.kn {T : Sto} {vs : List Val} {ds : List PyData} (h : TlL S Fo m n vs ds) (k : Kn S T) : TlL T Fo m n vs ds := h.up (Nat.le_refl _) (fun r vs f g => ⟨f, k r _ g⟩) n (Nat.le_refl _)
theorem house_wp (h : Tl S Fo MM n v d) : Wp (is_house_ [v] S) fun u T => u = .bl (isHo v) ∧ Kn S T := by
  refine AL.wf ?_; simp only [List.map_cons, List.map_nil, List.length_cons, List.length_nil, Nat.reduceAdd, Nat.reduceSub, List.replicate_succ, List.replicate_zero, List.cons_append, List.nil_append]; unfold is_house_B; array_get_dec
  refine isTu_wp h ?_
  cases h with
  | @tup n' vs ds h =>
    refine tb rfl (brF rfl ?_)
    array_get_dec
    rcases three h with l | ⟨a, b, c, x, y, z, rfl, rfl, ha, hb, hc⟩
    · refine brT (by rw [Bool.not_eq_true', decide_eq_false_iff_not]; omega) ?_
      array_get_dec
      exact ⟨by rw [isHo_no l], Kn.refl _⟩
    refine brF rfl ?_
    array_get_dec
    refine (word_wp ha).imp ?_
    rintro _ T1 ⟨rfl, k1⟩
    refine tb rfl ?_
    cases cw : isW a with
    | false =>
      refine brT rfl ?_
      array_get_dec
      exact ⟨by simp only [isHo, cw, Bool.false_and], k1⟩
    | true =>
    refine brF rfl ?_
    array_get_dec
    refine (fr_wp (Tl.kn hb k1)).imp ?_
    rintro _ _ ⟨rfl, rfl⟩
    refine tb rfl ?_
    cases cb : isFr b with
    | false =>
      refine brT rfl ?_
      array_get_dec
      exact ⟨by simp only [isHo, cb, Bool.false_and, Bool.and_false], k1⟩
    | true =>
    refine brF rfl ?_
    array_get_dec
    refine (fr_wp (Tl.kn hc k1)).imp ?_
    rintro _ _ ⟨rfl, rfl⟩
    refine tb rfl ?_
    cases cc : isFr c with
    | false =>
      refine brT rfl ?_
      array_get_dec
      exact ⟨by simp only [isHo, cc, Bool.false_and, Bool.and_false], k1⟩
    | true =>
    refine brF rfl ?_
    obtain ⟨s, rfl, es, os⟩ := fr_get hb cb
    obtain ⟨f, rfl, ef, of⟩ := fr_get hc cc
    have eh : isHo (.tup [a, frV s, frV f]) = hoOk s f := by
      show (isW a && (isFr (frV s) && (isFr (frV f) && hoOk s f))) = hoOk s f
      rw [cw, cb, cc]
      rfl
    rw [eh]
    unfold hoOk
    array_get_dec
    refine blw_wp (x := (0, 1)) ok0 (by decide) os (by decide) ?_
    refine tb rfl (Br.of (fun c1 => ?_) (fun c1 => ?_))
    rotate_left
    · exact ⟨by rw [c1]; rfl, k1⟩
    rw [c1]
    array_get_dec
    refine blw_wp (x := (1, 1)) ok1 (by decide) os (by decide) ?_
    refine tb rfl (tb rfl (Br.of (fun c2 => ?_) (fun c2 => ?_)))
    rotate_left
    · exact ⟨by rw [c2]; rfl, k1⟩
    rw [c2]
    array_get_dec
    refine blw_wp (y := (1, 1)) of (by decide) ok1 (by decide) ?_
    array_get_dec
    exact ⟨rfl, k1⟩
  | _ =>
    refine tb rfl (brT rfl (brT rfl ?_))
    array_get_dec
    exact ⟨rfl, Kn.refl _⟩
def sE : Val → Val → Bool
  | .str x, .str y => decide (x = y)
  | _, _ => false
def moOk (z : Fq) (w : Val) : Bool := AL.isNon w || (isFr w && !blw (fq w) z)
def isLi : Val → Bool
  | .tup [x, y, z, w] => isW x && (isW y && (!sE x y && (isFr z && (!blw (fq z) (0, 1) && moOk (fq z) w))))
  | _ => false
theorem isLi_no {vs : List Val} (h : vs.length ≠ 4) : isLi (.tup vs) = false := by
  unfold isLi
  split
  · next e => injection e with e; subst e; simp at h
  · rfl
theorem isW_str {v : Val} (h : isW v = true) : ∃ x, v = .str x := by
  cases v with
  | str x => exact ⟨x, rfl⟩
  | _ => cases h
theorem link_wp (h : Tl S Fo MM n v d) : Wp (is_link_ [v] S) fun u T => u = .bl (isLi v) ∧ Kn S T := by
  refine AL.wf ?_; simp only [List.map_cons, List.map_nil, List.length_cons, List.length_nil, Nat.reduceAdd, Nat.reduceSub, List.replicate_succ, List.replicate_zero, List.cons_append, List.nil_append]; unfold is_link_B; array_get_dec
  refine isTu_wp h ?_
  cases h with
  | @tup n' vs ds h =>
    refine tb rfl (brF rfl ?_)
    array_get_dec
    rcases four h with l | ⟨a, b, c, e, x, y, z, w, rfl, ha, hb, hc, he⟩
    · refine brT (by rw [Bool.not_eq_true', decide_eq_false_iff_not]; omega) ?_
      array_get_dec
      exact ⟨by rw [isLi_no l], Kn.refl _⟩
    refine brF rfl ?_
    array_get_dec
    refine (word_wp ha).imp ?_
    rintro _ T1 ⟨rfl, k1⟩
    refine tb rfl ?_
    cases ca : isW a with
    | false =>
      refine brT rfl ?_
      array_get_dec
      exact ⟨by simp only [isLi, ca, Bool.false_and], k1⟩
    | true =>
    refine brF rfl ?_
    array_get_dec
    refine (word_wp (Tl.kn hb k1)).imp ?_
    rintro _ T2 ⟨rfl, k2⟩
    have k12 := k1.trans k2
    refine tb rfl ?_
    cases cb : isW b with
    | false =>
      refine brT rfl ?_
      array_get_dec
      exact ⟨by simp only [isLi, cb, Bool.false_and, Bool.and_false], k12⟩
    | true =>
    refine brF rfl ?_
    obtain ⟨xa, rfl⟩ := isW_str ca
    obtain ⟨xb, rfl⟩ := isW_str cb
    array_get_dec
    have ee : isLi (.tup [.str xa, .str xb, c, e]) = (!decide (xa = xb) && (isFr c && (!blw (fq c) (0, 1) && moOk (fq c) e))) := by
      show (isW (.str xa) && (isW (.str xb) && (!decide (xa = xb) && (isFr c && (!blw (fq c) (0, 1) && moOk (fq c) e))))) = _
      rw [ca, cb, Bool.true_and, Bool.true_and]
    rw [ee]
    refine Br.of (fun c1 => ?_) (fun c1 => ?_)
    · have c1 : xa = xb := by simpa using c1
      array_get_dec
      exact ⟨by rw [decide_eq_true c1]; rfl, k12⟩
    have c1 : xa ≠ xb := by simpa using c1
    rw [decide_eq_false c1, Bool.not_false, Bool.true_and]
    array_get_dec
    refine (fr_wp (Tl.kn hc k12)).imp ?_
    rintro _ _ ⟨rfl, rfl⟩
    refine tb rfl ?_
    cases cc : isFr c with
    | false =>
      refine brT rfl ?_
      array_get_dec
      exact ⟨rfl, k12⟩
    | true =>
    refine brF rfl ?_
    obtain ⟨s, rfl, es, os⟩ := fr_get hc cc
    rw [es, Bool.true_and]
    array_get_dec
    refine blw_wp (y := (0, 1)) os (by decide) ok0 (by decide) ?_
    refine tb rfl (Br.of (fun c2 => ?_) (fun c2 => ?_))
    · array_get_dec
      exact ⟨by rw [c2]; rfl, k12⟩
    rw [c2, Bool.not_false, Bool.true_and]
    have he0 := Tl.kn he k12
    have fin : AL.isNon e = false → isFr e = false → moOk s e = false := fun a b => by unfold moOk; rw [a, b]; rfl
    cases he with
    | non =>
      array_get_dec
      exact ⟨rfl, k12⟩
    | @tup _ us _ hh =>
      array_get_dec
      refine (fr_wp he0).imp ?_
      rintro _ _ ⟨rfl, rfl⟩
      refine tb rfl (Br.of (fun c4 => ?_) (fun c4 => ?_))
      · obtain ⟨f, e1, ef, of⟩ := fr_get he0 c4
        have em : moOk s (.tup us) = !blw f s := by
          unfold moOk
          rw [c4, ef]
          rfl
        rw [em, e1]
        array_get_dec
        refine blw_wp of (by decide) os (by decide) ?_
        array_get_dec
        exact ⟨rfl, k12⟩
      · exact ⟨by rw [fin rfl c4], k12⟩
    | _ =>
      array_get_dec
      refine (fr_wp he0).imp ?_
      rintro _ _ ⟨rfl, rfl⟩
      refine tb rfl (brF rfl ?_)
      exact ⟨by rw [fin rfl rfl], k12⟩
  | _ =>
    refine tb rfl (brT rfl (brT rfl ?_))
    array_get_dec
    exact ⟨rfl, Kn.refl _⟩
end
end K09
namespace K07
open PySem PySem.Spec PyProof.Rows L2 G Th AL K37 KL Fr
open K08 (feedL_ feedL_B drawL_ drawL_B divisorL_ divisorL_B madeL_ madeL_B fieldL_ fieldL_B)
open K13 (is_numberL_ is_numberL_B)

open K14 (is_number_ is_number_B)
open K12 (spoiltL_ spoiltL_B spoiltL_n)
open K08 (F8 Sc wAt gaits ws_cut feed_wp)

open K12 (Thg Thgs F1 F2 g_int g_tup g_lst g_non g_bl g_small g_str MM mm900 isTu isTu_wp vNeNilO lc_fil)
theorem vEqNilO {S : Sto} {Fo : Nat → Prop} {m n : Nat} {Q : Val → Sto → Prop} {vs : List Val} {ds : List PyData} {p q : Nat} (hm : m < 2 ^ 900) (hn : n ≤ 37) (h : TlL S Fo m n vs ds) (gp : S[p]? = some (.lst vs)) (gq : S[q]? = some (.lst [])) (z : Q (.bl vs.isEmpty) S) : Wp (gEq (.ref p) (.ref q) S) Q := by
  have e1 : eqS (.ref p) (.ref q) = none := rfl
  have hT : Tl S (fun _ => True) m (n + 1) (.ref p) (.list ds) := .lst trivial gp (h.up (Nat.le_refl _) (fun r vs f g => ⟨trivial, g⟩) _ (Nat.le_refl _))
  have hE : Tl S (fun _ => True) m (n + 1) (.ref q) (.list []) := .lst trivial gq .nil
  refine ⟨_, S, ?_, z⟩
  unfold gEq eqA
  rw [e1, hT.toD 40 (by omega), hE.toD 40 (by omega)]
  dsimp only
  rw [if_pos ⟨hT.shaped hm (by omega), hE.shaped hm (by omega)⟩]
  cases h with
  | nil => rfl
  | cons a b => rfl
end K07
namespace K09
open PySem PySem.Spec PyProof.Rows L2 G Th AL K37 KL Fr
open K37 (common_divisor_ common_divisor_B is_below_ is_below_B)
open K14 (is_number_ is_number_B)
open K07 (is_fraction_ is_fraction_B isFr fr_wp one_of)
open K12 (isTu isTu_wp isI number_wp MM mm900 w_len cutD)
section
variable {S : Sto} {Fo : Nat → Prop} {m n : Nat} {v : Val} {d : PyData}
theorem take_map {α β : Type} {f : α → β} {l : List α} {i : Nat} {a : α} (h : l[i]? = some a) : (l.take (i + 1)).map f = (l.take i).map f ++ [f a] := by
  rw [List.take_add_one, h, List.map_append]
  rfl

theorem lc_mapK {ok : Sto → Prop} {p : Pat} {t : BF} {f : EF} {ρ : Rho} {A : List Val → Sto → Prop} (hok : ∀ V, Kn S V → ok V) (L : List Val) (g : Val → Val) (hl : L.length < 900000)
    (h : ∀ a ∈ L, ∀ V, Kn S V → Bn (p.bind a ρ) fun ρ1 => Wp (t ρ1 V) fun c T => c = true ∧ T = V ∧ Wp (f ρ1 V) fun y W => y = g a ∧ Kn V W) (q : ∀ V, Kn S V → A (L.map g) V) : Wp (lcR p t f ok ρ L [] S) A := by
  refine lc_inv (fun i a V => a = (L.take i).map g ∧ Kn S V) (by omega) ⟨rfl, Kn.refl _⟩ (fun i a V _ z => hok V z.2) (fun i a V ⟨e, _⟩ => ?_) ?_ ?_
  · rw [e, List.length_map, List.length_take]
    omega
  · rintro i v a V hv ⟨rfl, kV⟩
    obtain ⟨ρ1, hb, z⟩ := h v (List.mem_of_getElem? hv) V kV
    refine ⟨ρ1, hb, z.imp fun c T ⟨c1, kT, z2⟩ => ?_⟩
    subst c1
    subst kT
    exact brT rfl (z2.imp fun y U ⟨y1, y2⟩ => ⟨by rw [y1, take_map hv], kV.trans y2⟩)
  · rintro a V ⟨rfl, kV⟩
    rw [List.take_length]
    exact q V kV
def i0 : Val → Val
  | .tup (x :: _) => x
  | _ => .non
def i1 : Val → Val
  | .tup (_ :: x :: _) => x
  | _ => .non
def i2 : Val → Val
  | .tup (_ :: _ :: x :: _) => x
  | _ => .non
def i3 : Val → Val
  | .tup (_ :: _ :: _ :: x :: _) => x
  | _ => .non
def sOf : Val → Str
  | .str x => x
  | _ => ""
def oOf : Val → Option Fq
  | .non => none
  | w => some (fq w)
def hsOf (v : Val) : Hs := ⟨sOf (i0 v), fq (i1 v), fq (i2 v)⟩
def lkOf (v : Val) : Lk := ⟨sOf (i0 v), sOf (i1 v), fq (i2 v), oOf (i3 v)⟩
def its : Val → List Val
  | .tup vs => vs
  | _ => []

def rsS : List Str → Bool
  | a :: b :: l => decide (a.cps.toList < b.cps.toList) && rsS (b :: l)
  | _ => true
theorem rs_zip : ∀ l : List Str, ((l.zip (l.drop 1)).all fun p => decide (p.1.cps.toList < p.2.cps.toList)) = rsS l
  | [] => rfl
  | [a] => rfl
  | a :: b :: l => by
    have := rs_zip (b :: l)
    simp only [List.drop_succ_cons, List.drop_zero, List.zip_cons_cons, List.all_cons, rsS] at this ⊢
    rw [this]
theorem wiZ2 {ρ : Rho} {ga : AF} {X : List Val → (Sto → Prop) → Sto → Prop} (h : Wp (ga ρ S) fun vs S1 => ∃ k n as bs, vs = [.ref k, .ref n] ∧ S1[k]? = some (.lst as) ∧ S1[n]? = some (.lst bs) ∧ X (zipV as bs) (fun S => S[k]? = some (.lst as) ∧ S[n]? = some (.lst bs)) S1) : Wi (iZp ga ρ S) X := by
  obtain ⟨v, S1, e, k, n, as, bs, rfl, h1, h2, h⟩ := h
  exact ⟨_, _, _, by unfold iZp; rw [e]; simp only [Option.bind_some, h1, h2], h⟩
def ltP : Val → Bool
  | .tup [.str a, .str b] => decide (a.cps.toList < b.cps.toList)
  | _ => false
theorem rises_wp {r : Nat} {l : List Str} (g : S[r]? = some (.lst (l.map .str))) (hl : l.length ≤ 800000) : Wp (rises_ [.ref r] S) fun u T => u = .bl (rsS l) ∧ Kn S T := by
  refine AL.wf ?_
  simp only [List.map_cons, List.map_nil, List.length_cons, List.length_nil, Nat.reduceAdd, Nat.reduceSub, List.replicate_succ, List.replicate_zero, List.cons_append, List.nil_append]
  unfold rises_B
  refine ws_ret ?_
  refine wCall ?_
  refine wa1 ?_
  refine wLc ?_
  refine wiZ2 ?_
  array_get_dec
  refine K07.vSlAL g ?_
  rw [show cutL (l.map Val.str) (some 1) none = (l.drop 1).map .str by rw [List.map_drop]; exact cutD (l.map Val.str) 1]
  intro T0 r0 e_r0 l_T0 g_r0 k_T0
  array_get_dec
  refine ⟨_, _, _, _, rfl, k_T0 _ _ g, g_r0, ?_⟩
  have ez : zipV (l.map Val.str) ((l.drop 1).map .str) = (l.zip (l.drop 1)).map fun p => .tup [.str p.1, .str p.2] := by
    unfold zipV
    rw [List.zip_map, List.map_map]
    rfl
  rw [ez]
  refine lc_pure (fun _ => true) (fun v => .bl (ltP v)) ⟨k_T0 _ _ g, g_r0⟩ (by rw [List.length_map, List.length_zip]; omega) (fun v hv => ?_) ?_
  · obtain ⟨⟨a, b⟩, _, rfl⟩ := List.mem_map.mp hv
    refine bn rfl ?_
    array_get_dec
    refine ⟨rfl, rfl, fun _ => ?_⟩
    array_get_dec
    exact vLtT rfl rfl ⟨rfl, rfl⟩
  · intro T r e_r l_T g_r k_T
    array_get_dec
    refine all_wp g_r ⟨?_, k_T0.trans k_T⟩
    rw [List.all_map, ← rs_zip]
    rfl
def nmH (v : Val) : Str := (hsOf v).name
def isHos : Val → Bool
  | .tup vs => vs.all isHo && rsS (vs.map nmH)
  | _ => false
theorem ho_of (h : Tl S Fo MM n v d) (f : isHo v = true) : v = hsV (hsOf v) ∧ Fr.Ok 110 (hsOf v).slow ∧ Fr.Ok 110 (hsOf v).fast ∧ isW (.str (nmH v)) = true ∧ hoOk (hsOf v).slow (hsOf v).fast = true := by
  cases h with
  | @tup n' vs ds h =>
    rcases three h with l | ⟨a, b, c, x, y, z, rfl, rfl, ha, hb, hc⟩
    · rw [isHo_no l] at f; cases f
    have f : (isW a && (isFr b && (isFr c && hoOk (fq b) (fq c)))) = true := f
    simp only [Bool.and_eq_true] at f
    obtain ⟨f1, f2, f3, f4⟩ := f
    obtain ⟨xa, rfl⟩ := isW_str f1
    obtain ⟨s, rfl, es, os⟩ := fr_get hb f2
    obtain ⟨t, rfl, et, ot⟩ := fr_get hc f3
    exact ⟨rfl, os, ot, f1, f4⟩
  | _ => cases f
theorem hos_of {vs : List Val} {ds : List PyData} (h : TlL S Fo MM n vs ds) (f : vs.all isHo = true) : ∀ x ∈ vs, x = hsV (hsOf x) ∧ Fr.Ok 110 (hsOf x).slow ∧ Fr.Ok 110 (hsOf x).fast ∧ isW (.str (nmH x)) = true ∧ hoOk (hsOf x).slow (hsOf x).fast = true := fun x hx => by
  obtain ⟨dx, _, t⟩ := h.mem hx
  exact ho_of t (List.all_eq_true.mp f x hx)
theorem names_eq {vs : List Val} (f : ∀ x ∈ vs, x = hsV (hsOf x)) : vs.map i0 = (vs.map nmH).map .str := by
  rw [List.map_map]
  refine List.map_congr_left fun x hx => ?_
  have := congrArg i0 (f x hx)
  rw [this]
  rfl
theorem tl_len {vs : List Val} {ds : List PyData} (h : TlL S Fo m n vs ds) {w : Nat} (hw : (PyData.tuple ds).weight ≤ w) : vs.length ≤ w := by
  have := w_len ds
  have := h.len
  have hw : PyData.weightAll ds ≤ w := hw
  omega
theorem houses_wp (h : Tl S Fo MM n v d) (hw : d.weight ≤ 800000) : Wp (are_houses_ [v] S) fun u T => u = .bl (isHos v) ∧ Kn S T := by
  refine AL.wf ?_; simp only [List.map_cons, List.map_nil, List.length_cons, List.length_nil, Nat.reduceAdd, Nat.reduceSub, List.replicate_succ, List.replicate_zero, List.cons_append, List.nil_append]; unfold are_houses_B; array_get_dec
  refine isTu_wp h ?_
  cases h with
  | @tup n' vs ds h =>
    have len := tl_len h hw
    refine tb rfl (brF rfl ?_)
    array_get_dec
    refine .inl ⟨_, rfl, ?_⟩
    refine lc_mapK (fun _ _ => trivial) vs (fun x => .bl (isHo x)) (by omega) (fun x hx V kV => ?_) (fun V kV => ?_)
    · obtain ⟨dx, _, tx⟩ := (TlL.kn h kV).mem hx
      refine bn rfl ?_
      array_get_dec
      refine ⟨rfl, rfl, ?_⟩
      array_get_dec
      exact house_wp tx
    intro T1 r1 e_r1 l_T1 g_r1 k_T1
    array_get_dec
    refine vAll (bs := vs.map isHo) rfl (by rw [g_r1, List.map_map]; rfl) ?_
    rw [List.all_map, show (id ∘ isHo) = isHo from rfl]
    have k1 : Kn S T1 := kV.trans k_T1
    refine tb rfl ?_
    cases c : vs.all isHo with
    | false =>
      refine brT rfl ?_
      array_get_dec
      exact ⟨by simp only [isHos, c, Bool.false_and], k1⟩
    | true =>
    refine brF rfl ?_
    have ho := hos_of h c
    array_get_dec
    refine .inl ⟨_, rfl, ?_⟩
    refine lc_pure (fun _ => true) i0 trivial (by omega) (fun x hx => ?_) ?_
    · refine bn rfl ?_
      array_get_dec
      refine ⟨rfl, rfl, fun _ => ?_⟩
      array_get_dec
      have e := (ho x hx).1
      rw [e]
      exact vIxT rfl rfl rfl ⟨rfl, rfl⟩
    rw [List.filter_eq_self.mpr (fun _ _ => rfl), names_eq fun x hx => (ho x hx).1]
    intro T2 r2 e_r2 l_T2 g_r2 k_T2
    array_get_dec
    refine (rises_wp g_r2 (by rw [List.length_map]; omega)).imp ?_
    rintro _ T3 ⟨rfl, k3⟩
    exact ⟨by simp only [isHos, c, Bool.true_and], (k1.trans k_T2).trans k3⟩
  | _ =>
    refine tb rfl (brT rfl (brT rfl ?_))
    array_get_dec
    exact ⟨rfl, Kn.refl _⟩
theorem li_of (h : Tl S Fo MM n v d) (f : isLi v = true) : v = lkV (lkOf v) ∧ isW (.str (lkOf v).fr) = true ∧ isW (.str (lkOf v).to) = true ∧ (lkOf v).fr ≠ (lkOf v).to ∧ Fr.Ok 110 (lkOf v).least ∧ (∀ m, (lkOf v).most = some m → Fr.Ok 110 m) := by
  cases h with
  | @tup n' vs ds h =>
    rcases four h with l | ⟨a, b, c, e, x, y, z, w, rfl, ha, hb, hc, he⟩
    · rw [isLi_no l] at f; cases f
    have f : (isW a && (isW b && (!sE a b && (isFr c && (!blw (fq c) (0, 1) && moOk (fq c) e))))) = true := f
    simp only [Bool.and_eq_true] at f
    obtain ⟨f1, f2, f3, f4, f5, f6⟩ := f
    obtain ⟨xa, rfl⟩ := isW_str f1
    obtain ⟨xb, rfl⟩ := isW_str f2
    obtain ⟨s, rfl, es, os⟩ := fr_get hc f4
    have ne : xa ≠ xb := by simpa [sE] using f3
    cases e with
    | non => exact ⟨rfl, f1, f2, ne, os, fun m hm => by cases hm⟩
    | tup us =>
      have f6 : (AL.isNon (.tup us) || (isFr (.tup us) && !blw (fq (.tup us)) (fq (frV s)))) = true := f6
      have g : isFr (.tup us) = true := by
        cases hh : isFr (.tup us) with
        | true => rfl
        | false => rw [hh] at f6; cases f6
      obtain ⟨t, et, et2, ot⟩ := fr_get he g
      refine ⟨?_, f1, f2, ne, os, fun m hm => ?_⟩
      · rw [et]; rfl
      · have : some (fq (.tup us)) = some m := hm
        rw [et2] at this
        cases this
        exact ot
    | _ => exact absurd f6 (by simp [moOk, AL.isNon, isFr])
  | _ => cases f
def isLis (N : List Str) : Val → Bool
  | .tup vs => vs.all isLi && vs.all (fun l => decide ((lkOf l).fr ∈ N) && decide ((lkOf l).to ∈ N))
  | _ => false
theorem in_strs (x : Str) : ∀ ss : List Str, inA (.str x) (ss.map .str) = decide (x ∈ ss)
  | [] => rfl
  | a :: ss => by
    have ih := in_strs x ss
    unfold inA at ih ⊢
    rw [List.map_cons, List.any_cons, ih]
    show (a == x || decide (x ∈ ss)) = _
    by_cases e : a = x
    · simp [e]
    · have e2 : ¬ x = a := fun z => e z.symm
      simp [e, e2]
theorem flat_strs : ∀ ss : List Str, (ss.map Val.str).all flatA = true
  | [] => rfl
  | a :: ss => by rw [List.map_cons, List.all_cons, flat_strs ss]; rfl
theorem vInL {Q : Val → Sto → Prop} {x : Str} {n : Nat} {neg : Bool} {ss : List Str} (h : S[n]? = some (.lst (ss.map .str))) (q : Q (.bl (if neg then !decide (x ∈ ss) else decide (x ∈ ss))) S) : Wp (gIn neg (.str x) (.ref n) S) Q := by
  refine ⟨_, S, ?_, q⟩
  simp only [gIn, gInS, h, flat_strs, in_strs, flatA, Bool.true_and, if_true]
theorem links_wp {hv : Val} {dh : PyData} (hh : Tl S Fo MM n hv dh) (hwh : dh.weight ≤ 800000) (f : isHos hv = true) (h : Tl S Fo MM n v d) (hw : d.weight ≤ 800000) : Wp (are_links_ [v, hv] S) fun u T => u = .bl (isLis ((its hv).map nmH) v) ∧ Kn S T := by
  refine AL.wf ?_; simp only [List.map_cons, List.map_nil, List.length_cons, List.length_nil, Nat.reduceAdd, Nat.reduceSub, List.replicate_succ, List.replicate_zero, List.cons_append, List.nil_append]; unfold are_links_B; array_get_dec
  refine isTu_wp h ?_
  cases h with
  | @tup n' vs ds h =>
    have len := tl_len h hw
    refine tb rfl (brF rfl ?_)
    array_get_dec
    refine .inl ⟨_, rfl, ?_⟩
    refine lc_mapK (fun _ _ => trivial) vs (fun x => .bl (isLi x)) (by omega) (fun x hx V kV => ?_) (fun V kV => ?_)
    · obtain ⟨dx, _, tx⟩ := (TlL.kn h kV).mem hx
      refine bn rfl ?_
      array_get_dec
      refine ⟨rfl, rfl, ?_⟩
      array_get_dec
      exact link_wp tx
    intro T1 r1 e_r1 l_T1 g_r1 k_T1
    array_get_dec
    refine vAll (bs := vs.map isLi) rfl (by rw [g_r1, List.map_map]; rfl) ?_
    rw [List.all_map, show (id ∘ isLi) = isLi from rfl]
    have k1 : Kn S T1 := kV.trans k_T1
    refine tb rfl ?_
    cases c : vs.all isLi with
    | false =>
      refine brT rfl ?_
      array_get_dec
      exact ⟨by simp only [isLis, c, Bool.false_and], k1⟩
    | true =>
    refine brF rfl ?_
    cases hh with
    | @tup n2 us es hh =>
    have lenh := tl_len hh hwh
    have f : (us.all isHo && rsS (us.map nmH)) = true := f
    rw [Bool.and_eq_true] at f
    have ho := hos_of hh f.1
    array_get_dec
    refine .inl ⟨_, rfl, ?_⟩
    refine lc_pure (fun _ => true) i0 trivial (by omega) (fun x hx => ?_) ?_
    · refine bn rfl ?_
      array_get_dec
      refine ⟨rfl, rfl, fun _ => ?_⟩
      array_get_dec
      have e := (ho x hx).1
      rw [e]
      exact vIxT rfl rfl rfl ⟨rfl, rfl⟩
    rw [List.filter_eq_self.mpr (fun _ _ => rfl), names_eq fun x hx => (ho x hx).1]
    intro T2 r2 e_r2 l_T2 g_r2 k_T2
    array_get_dec
    have k2 := k1.trans k_T2
    refine .inl ⟨_, rfl, ?_⟩
    refine lc_pure (fun _ => true) (fun l => .bl (decide ((lkOf l).fr ∈ us.map nmH) && decide ((lkOf l).to ∈ us.map nmH))) trivial (by omega) (fun x hx => ?_) ?_
    · obtain ⟨dx, _, tx⟩ := (TlL.kn h k2).mem hx
      obtain ⟨ex, _⟩ := li_of tx (List.all_eq_true.mp c x hx)
      refine bn rfl ?_
      array_get_dec
      refine ⟨rfl, rfl, fun _ => ?_⟩
      generalize hl : lkOf x = l at ex
      subst ex
      array_get_dec
      refine vInL g_r2 ?_
      refine tb rfl (Br.of (fun c1 => ?_) (fun c1 => ?_))
      · have c1 : decide (l.fr ∈ List.map nmH us) = true := c1
        rw [c1]
        array_get_dec
        refine vInL g_r2 ⟨?_, rfl⟩
        rfl
      · have c1 : decide (l.fr ∈ List.map nmH us) = false := c1
        rw [c1]
        exact ⟨rfl, rfl⟩
    intro T3 r3 e_r3 l_T3 g_r3 k_T3
    array_get_dec
    refine all_wp (f := fun l => decide ((lkOf l).fr ∈ us.map nmH) && decide ((lkOf l).to ∈ us.map nmH)) g_r3 ⟨?_, k2.trans k_T3⟩
    simp only [isLis, c, Bool.true_and, its]
    rfl
    | _ => cases f
  | _ =>
    refine tb rfl (brT rfl (brT rfl ?_))
    array_get_dec
    exact ⟨rfl, Kn.refl _⟩
def one : Fq := (1, 1)
def hasS (s : Val) (hs : List Val) : Bool := hs.any fun h => sE (.str (nmH h)) s && (decide ((hsOf h).slow = one) && decide ((hsOf h).fast = one))
def isFi : Val → Bool
  | .tup [h, l, s] => isHos h && (isLis ((its h).map nmH) l && hasS s (its h))
  | _ => false
theorem isFi_no {vs : List Val} (h : vs.length ≠ 3) : isFi (.tup vs) = false := by
  unfold isFi
  split
  · next e => injection e with e; subst e; simp at h
  · rfl
theorem sE_eqv {x : Str} (h : Tl S Fo m n v d) : PyData.eqv (.str x) d = sE (.str x) v := by
  cases h with
  | str y _ _ => rfl
  | _ => rfl
theorem hs_d {h : Hs} {dh : PyData} (t : Tl S Fo m n (hsV h) dh) : dh = .tuple [.str h.name, .tuple [.int h.slow.1, .int h.slow.2], .tuple [.int h.fast.1, .int h.fast.2]] := by
  cases t with
  | tup t => cases t with
    | cons a t => cases t with
      | cons b t => cases t with
        | cons c t =>
          cases t
          cases a
          cases b with
          | tup b => cases b with
            | cons b1 b => cases b with
              | cons b2 b =>
                cases b; cases b1; cases b2
                cases c with
                | tup c => cases c with
                  | cons c1 c => cases c with
                    | cons c2 c =>
                      cases c; cases c1; cases c2
                      rfl
theorem d_eqv {x : Fq} {h : Hs} {d : PyData} : PyData.eqv (.tuple [.str h.name, .tuple [.int h.slow.1, .int h.slow.2], .tuple [.int h.fast.1, .int h.fast.2]]) (.tuple [d, .tuple [.int 1, .int 1], .tuple [.int 1, .int 1]]) = (PyData.eqv (.str h.name) d && (decide (h.slow = one) && decide (h.fast = one))) := by
  have e : ∀ y : Fq, PyData.eqv (.tuple [.int y.1, .int y.2]) (.tuple [.int 1, .int 1]) = decide (y = one) := fun y => by
    obtain ⟨a, b⟩ := y
    show ((a == 1) && ((b == 1) && true)) = decide ((a, b) = ((1, 1) : Fq))
    rw [Bool.eq_iff_iff]
    simp
  show (PyData.eqv (.str h.name) d && (PyData.eqv (.tuple [.int h.slow.1, .int h.slow.2]) (.tuple [.int 1, .int 1]) && (PyData.eqv (.tuple [.int h.fast.1, .int h.fast.2]) (.tuple [.int 1, .int 1]) && true))) = _
  rw [e, e, Bool.and_true]
theorem any_src {s : Val} {e : PyData} {k : Nat} (hs : Tl S Fo m k s e) : ∀ {us : List Val} {ds : List PyData}, TlL S Fo m n us ds → (∀ x ∈ us, x = hsV (hsOf x)) → (ds.any fun z => PyData.eqv z (.tuple [e, .tuple [.int 1, .int 1], .tuple [.int 1, .int 1]])) = hasS s us
  | [], [], .nil, _ => rfl
  | u :: us, d :: ds, .cons h t, f => by
    have ih := any_src hs t fun x hx => f x (List.mem_cons_of_mem _ hx)
    have eu := f u List.mem_cons_self
    rw [eu] at h
    rw [List.any_cons, ih, hs_d h, d_eqv (x := one), sE_eqv hs]
    rfl
theorem field_wp (h : Tl S Fo MM n v d) (hn : n ≤ 36) (hw : d.weight ≤ 700000) : Wp (is_field_ [v] S) fun u T => u = .bl (isFi v) ∧ Kn S T := by
  refine AL.wf ?_; simp only [List.map_cons, List.map_nil, List.length_cons, List.length_nil, Nat.reduceAdd, Nat.reduceSub, List.replicate_succ, List.replicate_zero, List.cons_append, List.nil_append]; unfold is_field_B; array_get_dec
  refine isTu_wp h ?_
  cases h with
  | @tup n' vs ds h =>
    refine tb rfl (brF rfl ?_)
    array_get_dec
    rcases three h with l | ⟨a, b, c, x, y, z, rfl, rfl, ha, hb, hc⟩
    · refine brT (by rw [Bool.not_eq_true', decide_eq_false_iff_not]; omega) ?_
      array_get_dec
      exact ⟨by rw [isFi_no l], Kn.refl _⟩
    refine brF rfl ?_
    have wt : x.weight ≤ 700000 ∧ y.weight ≤ 700000 ∧ z.weight ≤ 700000 := by
      simp only [PyData.weight, PyData.weightAll] at hw
      omega
    array_get_dec
    refine (houses_wp ha (by omega)).imp ?_
    rintro _ T1 ⟨rfl, k1⟩
    refine tb rfl ?_
    cases ca : isHos a with
    | false =>
      refine brT rfl ?_
      array_get_dec
      exact ⟨by simp only [isFi, ca, Bool.false_and], k1⟩
    | true =>
    refine brF rfl ?_
    array_get_dec
    refine (links_wp (Tl.kn ha k1) (by omega) ca (Tl.kn hb k1) (by omega)).imp ?_
    rintro _ T2 ⟨rfl, k2⟩
    have k12 := k1.trans k2
    refine tb rfl ?_
    cases cb : isLis ((its a).map nmH) b with
    | false =>
      refine brT rfl ?_
      array_get_dec
      exact ⟨by simp only [isFi, ca, cb, Bool.false_and, Bool.and_false], k12⟩
    | true =>
    refine brF rfl ?_
    cases ha with
    | @tup n2 us es ha =>
      array_get_dec
      have f : (us.all isHo && rsS (us.map nmH)) = true := ca
      rw [Bool.and_eq_true] at f
      have ho := hos_of ha f.1
      have hc2 := Tl.kn hc k12
      have ha2 := TlL.kn ha k12
      have ot : Tl T2 Fo MM 1 (.tup [.int 1, .int 1]) (.tuple [.int 1, .int 1]) := .tup (.cons (.int _ (by unfold MM; decide)) (.cons (.int _ (by unfold MM; decide)) .nil))
      have hx : Tl T2 Fo MM 38 (.tup [c, .tup [.int 1, .int 1], .tup [.int 1, .int 1]]) (.tuple [z, .tuple [.int 1, .int 1], .tuple [.int 1, .int 1]]) :=
        .tup (n := 37) (.cons (hc2.up (Nat.le_refl _) (fun r vs f g => ⟨f, g⟩) _ (by omega)) (.cons (ot.up (Nat.le_refl _) (fun r vs f g => ⟨f, g⟩) _ (by omega)) (.cons (ot.up (Nat.le_refl _) (fun r vs f g => ⟨f, g⟩) _ (by omega)) .nil)))
      have hy : Tl T2 Fo MM (n2 + 1) (.tup us) (.tuple es) := .tup ha2
      refine ⟨.bl (hasS c us), T2, ?_, ?_⟩
      · unfold gInTD
        simp only [hx.toD 40 (by omega), hy.toD 40 (by omega)]
        rw [if_pos ⟨hx.shaped mm900 (by omega), hy.shaped mm900 (by omega)⟩, any_src hc2 ha2 fun x hx => (ho x hx).1]
      · refine ⟨?_, k12⟩
        have cb : isLis (us.map nmH) b = true := cb
        simp only [isFi, ca, its]
        rw [cb]
        rfl
    | _ => cases ca
  | _ =>
    refine tb rfl (brT rfl (brT rfl ?_))
    array_get_dec
    exact ⟨rfl, Kn.refl _⟩
end
end K09
namespace K09
open PySem PySem.Spec PyProof.Rows L2 G Th AL K37 KL Fr
open K37 (common_divisor_ common_divisor_B is_below_ is_below_B)
open K14 (is_number_ is_number_B)
open K07 (is_fraction_ is_fraction_B isFr fr_wp one_of isI_ex)
open K12 (isTu isTu_wp isI number_wp MM mm900 w_len cutD)
section
variable {S : Sto} {Fo : Nat → Prop} {m n : Nat} {v : Val} {d : PyData}
end
end K09
namespace K09
open PySem PySem.Spec PyProof.Rows L2 G Th AL K37 KL Fr
open K37 (common_divisor_ common_divisor_B is_below_ is_below_B)
open K14 (is_number_ is_number_B)
open K07 (is_fraction_ is_fraction_B isFr fr_wp one_of isI_ex)
open K12 (isTu isTu_wp isI number_wp MM mm900 w_len cutD)
section
variable {S : Sto} {Fo : Nat → Prop} {m n : Nat} {v : Val} {d : PyData} {fl : Fl} {es : List Ev} {x : Str} {s : Fq}
def falls (es : List Ev) (x : Str) (s : Fq) : Bool := match es.reverse.find? (fun e => decide (e.name = x)) with
  | none => false
  | some e => blw s e.stamp

def Rw (S : Sto) (es : List Ev) (h : Val) : Prop := h = .tup (es.map evV) ∨ ∃ r, h = .ref r ∧ S[r]? = some (.lst (es.map evV))
theorem kn_put {T U : Sto} {r : Nat} (k : Kn S T) (l : S.length ≤ r) (k2 : Kx r T U) : Kn S U := fun j o h => k2 j o (by have := lt_of_at h; omega) (k j o h)
end
end K09
namespace K09
open PySem PySem.Spec PyProof.Rows L2 G Th AL K37 KL Fr
open K07 (isFr)
open K08 (F8 L8 Sc wAt gaits pool8 least8 most_ok gait_q)
open K12 (isTu isI MM Thg Thgs g_tup g_str g_int g_non g_small)
section
variable {S : Sto} {Fo : Nat → Prop} {fl : Fl} {es : List Ev} {ws : List Fq} {x : Str} {s : Fq}

structure Hok (fl : Fl) (es : List Ev) : Prop where
  nm : ∀ i, i < es.length → (es.getD i dEv).name ∈ fl.hs.map Hs.name
  ok : ∀ i, i < es.length → Fr.Ok 20 (es.getD i dEv).stamp
  st : ∀ i, i < es.length → falls (es.take i) (es.getD i dEv).name (es.getD i dEv).stamp = false
  sd : ∀ i l, i < es.length → (es.getD i dEv).deed = .send l → ∃ lk, fl.ls[l]? = some lk ∧ lk.fr = (es.getD i dEv).name
  hr : ∀ i k, i < es.length → (es.getD i dEv).deed = .hear k → k < i ∧ ∃ l lk, (es.getD k dEv).deed = .send l ∧ fl.ls[l]? = some lk ∧ lk.to = (es.getD i dEv).name
theorem Hok.take (ho : Hok fl es) (k : Nat) : Hok fl (es.take k) := by
  have eg : ∀ {i}, i < (es.take k).length → i < es.length ∧ i < k ∧ (es.take k).getD i dEv = es.getD i dEv ∧ (es.take k).take i = es.take i := fun {i} h => by
    rw [List.length_take] at h
    refine ⟨by omega, by omega, ?_, ?_⟩
    · simp [List.getD, List.getElem?_take, show i < k by omega]
    · rw [List.take_take, Nat.min_eq_left (by omega)]
  refine ⟨fun i h => ?_, fun i h => ?_, fun i h => ?_, fun i l h e => ?_, fun i j h e => ?_⟩
  · obtain ⟨a, _, b, _⟩ := eg h; rw [b]; exact ho.nm i a
  · obtain ⟨a, _, b, _⟩ := eg h; rw [b]; exact ho.ok i a
  · obtain ⟨a, _, b, c⟩ := eg h; rw [b, c]; exact ho.st i a
  · obtain ⟨a, _, b, c⟩ := eg h; rw [b] at e ⊢; exact ho.sd i l a e
  · obtain ⟨a, a2, b, c⟩ := eg h
    rw [b] at e ⊢
    obtain ⟨h1, h2⟩ := ho.hr i j a e
    refine ⟨h1, ?_⟩
    rw [show (es.take k).getD j dEv = es.getD j dEv by simp [List.getD, List.getElem?_take, show j < k by omega]]
    exact h2
theorem t_fr {n : Nat} (h : Fr.Ok n s) (hn : n ≤ 98) {w : Nat} (hw : (n + 1) * 2 ≤ w) : Thg S Fo 1 w (frV s) := by
  have lim : (2 : Nat) ^ 98 ≤ MM := by unfold MM; decide
  have le : 2 ^ n ≤ 2 ^ 98 := Nat.pow_le_pow_right (by decide) hn
  exact g_tup (n := 0) (w := n) (.cons (g_int (b := n) h.b1 (by have := h.b1; omega) (Nat.le_refl _)) (.cons (g_int (b := n) h.b2 (by have := h.b2; omega) (Nat.le_refl _)) Thgs.nil)) hw
theorem t_nm (h : x ∈ pool8) {n w : Nat} (hw : 8 ≤ w) : Thg S Fo n w (.str x) := by
  simp only [pool8, List.mem_cons, List.not_mem_nil, or_false] at h
  rcases h with rfl | rfl | rfl | rfl | rfl | rfl | rfl | rfl <;> exact g_str (by decide +kernel) (by decide +kernel) hw
theorem Thgs.map {α : Type} {f : α → Val} {n w : Nat} : ∀ {l : List α}, (∀ a ∈ l, Thg S Fo n w (f a)) → Thgs S Fo n w (l.map f)
  | [], _ => Thgs.nil
  | a :: l, h => .cons (h a List.mem_cons_self) (Thgs.map fun b hb => h b (List.mem_cons_of_mem _ hb))
theorem t_hs (fo : F8 fl) {h : Hs} (hm : h ∈ fl.hs) : Thg S Fo 2 130 (hsV h) := by
  obtain ⟨⟨_, a⟩, ⟨_, b⟩, _⟩ := gait_q (fo.gait h hm)
  exact g_tup (n := 1) (w := 42) (.cons (t_nm (fo.sub.mem (List.mem_map_of_mem hm)) (by decide)) (.cons (t_fr a (by decide) (by decide)) (.cons (t_fr b (by decide) (by decide)) Thgs.nil))) (by simp)
theorem t_lk (fo : F8 fl) {l : Lk} (hm : l ∈ fl.ls) : Thg S Fo 2 172 (lkV l) := by
  have g := fo.lk l hm
  obtain ⟨ol, om⟩ := most_ok g
  have tm : Thg S Fo 1 42 (oV l.most) := by
    cases e : l.most with
    | none => exact g_non
    | some m => exact t_fr (om m e) (by decide) (by decide)
  exact g_tup (n := 1) (w := 42) (.cons (t_nm (fo.sub.mem g.fr) (by decide)) (.cons (t_nm (fo.sub.mem g.to) (by decide)) (.cons (t_fr ol (by decide) (by decide)) (.cons tm Thgs.nil)))) (by simp)
end
end K09
namespace K04
open PySem PySem.Spec PyProof.Rows L2 G Th AL K37 KL Fr
open K13 (is_numberL_ is_numberL_B)
open K09 (is_word_ is_word_B isCh isW isTx isTx_wp chV_len vLenS abc sE flat_strs in_strs)
open K12 (isTu isTu_wp isI numberL_wp MM mm900 vEqNilT TlL.filter)
open K07 (vEqNilO)
section
variable {S : Sto} {Fo : Nat → Prop} {m n : Nat} {v : Val} {d : PyData}
theorem abc_in (c : Nat) : isCh (.str ⟨#[c]⟩) = (decide (97 ≤ c) && decide (c ≤ 122)) := by
  show inTx ⟨#[c]⟩ abc = _
  unfold inTx
  rw [StrLaws.found_one]
  have e : abc.cps.toList = [97, 98, 99, 100, 101, 102, 103, 104, 105, 106, 107, 108, 109, 110, 111, 112, 113, 114, 115, 116, 117, 118, 119, 120, 121, 122] := by decide +kernel
  rw [e, Bool.eq_iff_iff, Bool.and_eq_true, decide_eq_true_iff, decide_eq_true_iff, decide_eq_true_iff]
  simp only [List.mem_cons, List.not_mem_nil, or_false]
  omega
theorem lt1 {a b : Nat} : ([a] < [b]) ↔ a < b := by
  rw [List.cons_lt_cons_iff]
  simp
theorem le_a (c : Nat) : (!decide ((⟨#[c]⟩ : Str).cps.toList < ("a" : Str).cps.toList)) = decide (97 ≤ c) := by
  have ea : ("a" : Str).cps.toList = [97] := by decide +kernel
  rw [ea, Bool.eq_iff_iff]
  show (!decide ([c] < [97])) = true ↔ _
  rw [Bool.not_eq_true', decide_eq_false_iff_not, decide_eq_true_iff, lt1]
  omega
theorem le_z (c : Nat) : (!decide (("z" : Str).cps.toList < (⟨#[c]⟩ : Str).cps.toList)) = decide (c ≤ 122) := by
  have ez : ("z" : Str).cps.toList = [122] := by decide +kernel
  rw [ez, Bool.eq_iff_iff]
  show (!decide ([122] < [c])) = true ↔ _
  rw [Bool.not_eq_true', decide_eq_false_iff_not, decide_eq_true_iff, lt1]
  omega
theorem emp_all {α : Type} {f : α → Bool} : ∀ l : List α, (l.filter fun v => !f v).isEmpty = l.all f
  | [] => rfl
  | v :: l => by
    rw [List.filter_cons, List.all_cons]
    cases h : f v with
    | true => simp only [Bool.not_true, Bool.false_eq_true, if_false, Bool.true_and]; exact emp_all l
    | false => simp
theorem chs_tl {x : Str} (hx : PyData.strOk x = true) : ∃ ds, TlL S Fo m n (chV x) ds := by
  have : ∀ l : List Val, (∀ v ∈ l, ∃ d, Tl S Fo m n v d) → ∃ ds, TlL S Fo m n l ds := fun l => by
    induction l with
    | nil => exact fun _ => ⟨_, .nil⟩
    | cons a l ih =>
      intro h
      obtain ⟨d, hd⟩ := h a List.mem_cons_self
      obtain ⟨ds, hds⟩ := ih fun v hv => h v (List.mem_cons_of_mem _ hv)
      exact ⟨_, .cons hd hds⟩
  refine this _ fun v hv => ?_
  obtain ⟨c, hc, rfl⟩ := List.mem_map.mp hv
  refine ⟨_, .str _ ?_ (by simp)⟩
  unfold PyData.strOk at hx ⊢
  rw [Array.all_eq_true'] at hx
  have := hx c (Array.mem_toList_iff.mp hc)
  simpa using this
theorem wordL_wp (h : Tl S Fo m n v d) : Wp (is_wordL_ [v] S) fun u T => u = .bl (isW v) ∧ Kn S T := by
  refine AL.wf ?_; simp only [List.map_cons, List.map_nil, List.length_cons, List.length_nil, Nat.reduceAdd, Nat.reduceSub, List.replicate_succ, List.replicate_zero, List.cons_append, List.nil_append]; unfold is_wordL_B; array_get_dec
  refine isTx_wp h ?_
  cases h with
  | str x hx l =>
    array_get_dec
    refine vLenS rfl l ?_
    array_get_dec
    have e1 : decide ((0 : Int) < x.cps.size) = decide (1 ≤ x.cps.size) := by rw [decide_eq_decide]; omega
    have e2 : decide ((x.cps.size : Int) < 9) = decide (x.cps.size ≤ 8) := by rw [decide_eq_decide]; omega
    refine Br.of (fun c => ?_) (fun c => ?_)
    · array_get_dec
      refine Br.of (fun c2 => ?_) (fun c2 => ?_)
      rotate_left
      · refine ⟨?_, Kn.refl _⟩
        rw [e2] at c2
        simp only [isW, c2, Bool.and_false, Bool.false_and]
        all_goals rw [e2, c2]
      · array_get_dec
        refine wiC (wv rfl ⟨x, rfl, ?_⟩)
        refine lc_pure (fun v => !isCh v) id trivial (by rw [chV_len]; omega) (fun v hv => ?_) ?_
        · obtain ⟨c, hc, rfl⟩ := List.mem_map.mp hv
          refine bn rfl ?_
          array_get_dec
          refine vLeT rfl rfl ?_
          rw [le_a, abc_in]
          array_get_dec
          refine Br.of (fun c3 => ?_) (fun c3 => ?_)
          · rw [c3]
            array_get_dec
            refine vLeT rfl rfl ?_
            rw [le_z]
            array_get_dec
            refine ⟨by rw [Bool.true_and], rfl, fun _ => ?_⟩
            array_get_dec
            exact ⟨rfl, rfl⟩
          · rw [c3]
            array_get_dec
            refine ⟨rfl, rfl, fun _ => ?_⟩
            array_get_dec
            exact ⟨rfl, rfl⟩
        · intro T r e_r l_T g_r k_T
          array_get_dec
          intro T2 r2 e_r2 l_T2 g_r2 k_T2
          obtain ⟨ds, hds⟩ := chs_tl (S := T2) (Fo := fun _ => False) (m := 0) (n := 0) hx
          obtain ⟨es, hes⟩ := TlL.filter (fun v => !isCh v) hds
          refine vEqNilO (by decide) (by decide) hes (by rw [← List.map_id ((chV x).filter _)]; exact k_T2 _ _ g_r) g_r2 ?_
          refine ⟨?_, k_T.trans k_T2⟩
          rw [emp_all]
          rw [e1] at c
          rw [e2] at c2
          simp only [isW, c, c2, Bool.true_and]
    · rw [e1] at c
      array_get_dec
      refine ⟨?_, Kn.refl _⟩
      simp only [isW, c, Bool.false_and]
      all_goals rw [e1, c]
  | _ => array_get_dec; exact ⟨rfl, Kn.refl _⟩
end
end K04
namespace K04
open PySem PySem.Spec PyProof.Rows L2 G Th AL K37 KL Fr
open K13 (is_numberL_ is_numberL_B)
open K07 (is_fraction_ is_fraction_B is_fractionL_ is_fractionL_B isFr frL_wp vEqNilO)
open K09 (is_word_ is_word_B isCh isW isTx isTx_wp chV_len vLenS sE three falls blw Tl.kn)
open K12 (isTu isTu_wp isI numberL_wp MM mm900 vEqNilT TlL.filter)
section
variable {S : Sto} {Fo : Nat → Prop} {m n : Nat} {v : Val} {d : PyData} {fl : Fl} {es : List Ev} {x : Str} {s : Fq}
end
end K04
namespace K05
open PySem PySem.Spec PyProof.Rows L2 G Th AL K37 KL Fr
open K13 (is_numberL_ is_numberL_B)
open K07 (is_fraction_ is_fraction_B is_fractionL_ is_fractionL_B isFr frL_wp vEqNilO)
open K09 (isCh isW isTx isTx_wp three four isHo isHo_no isLi isLi_no hoOk moOk fq fr_get blw sE isW_str Tl.kn)
open K04 (is_wordL_ wordL_wp)
open K12 (isTu isTu_wp isI numberL_wp MM mm900 vEqNilT)
section
variable {S : Sto} {Fo : Nat → Prop} {m n : Nat} {v : Val} {d : PyData}
theorem ho_eq (s f : Fq) : hoOk s f = ((decide (0 < s.1) && decide (s.1 ≤ s.2)) && decide (f.2 ≤ f.1)) := by
  unfold hoOk blw
  rw [Bool.eq_iff_iff]
  simp only [Bool.and_eq_true, Bool.not_eq_true', decide_eq_true_eq, decide_eq_false_iff_not]
  constructor
  · rintro ⟨a, b, c⟩
    exact ⟨⟨by omega, by omega⟩, by omega⟩
  · rintro ⟨⟨a, b⟩, c⟩
    exact ⟨by omega, by omega, by omega⟩
theorem houseL_wp (h : Tl S Fo MM n v d) (hn : n ≤ 36) (hw : d.weight ≤ 700000) : Wp (is_houseL_ [v] S) fun u T => u = .bl (isHo v) ∧ Kn S T := by
  refine AL.wf ?_; simp only [List.map_cons, List.map_nil, List.length_cons, List.length_nil, Nat.reduceAdd, Nat.reduceSub, List.replicate_succ, List.replicate_zero, List.cons_append, List.nil_append]; unfold is_houseL_B; array_get_dec
  refine isTu_wp h ?_
  cases h with
  | @tup n' vs ds h =>
    refine tb rfl (brF rfl ?_)
    array_get_dec
    rcases three h with l | ⟨a, b, c, x, y, z, rfl, rfl, ha, hb, hc⟩
    · refine brT (by rw [Bool.not_eq_true', decide_eq_false_iff_not]; omega) ?_
      repeat refine brT rfl ?_
      array_get_dec
      exact ⟨by rw [isHo_no l], Kn.refl _⟩
    have wt : x.weight ≤ 700000 ∧ y.weight ≤ 700000 ∧ z.weight ≤ 700000 := by
      simp only [PyData.weight, PyData.weightAll] at hw
      omega
    refine brF rfl ?_
    array_get_dec
    refine (wordL_wp ha).imp ?_
    rintro _ T1 ⟨rfl, k1⟩
    refine tb rfl ?_
    cases cw : isW a with
    | false =>
      refine brT rfl ?_
      repeat refine brT rfl ?_
      array_get_dec
      exact ⟨by simp only [isHo, cw, Bool.false_and], k1⟩
    | true =>
    refine brF rfl ?_
    array_get_dec
    refine (frL_wp (Tl.kn hb k1) mm900 (by omega) (by omega)).imp ?_
    rintro _ T2 ⟨rfl, k2⟩
    have k12 := k1.trans k2
    refine tb rfl ?_
    cases cb : isFr b with
    | false =>
      refine brT rfl ?_
      repeat refine brT rfl ?_
      array_get_dec
      exact ⟨by simp only [isHo, cb, Bool.false_and, Bool.and_false], k12⟩
    | true =>
    refine brF rfl ?_
    array_get_dec
    refine (frL_wp (Tl.kn hc k12) mm900 (by omega) (by omega)).imp ?_
    rintro _ T3 ⟨rfl, k3⟩
    have k13 := k12.trans k3
    refine tb rfl ?_
    cases cc : isFr c with
    | false =>
      refine brT rfl ?_
      repeat refine brT rfl ?_
      array_get_dec
      exact ⟨by simp only [isHo, cc, Bool.false_and, Bool.and_false], k13⟩
    | true =>
    refine brF rfl ?_
    obtain ⟨s, rfl, es, os⟩ := fr_get hb cb
    obtain ⟨f, rfl, ef, of⟩ := fr_get hc cc
    have eh : isHo (.tup [a, frV s, frV f]) = hoOk s f := by
      show (isW a && (isFr (frV s) && (isFr (frV f) && hoOk s f))) = hoOk s f
      rw [cw, cb, cc]
      rfl
    rw [eh, ho_eq]
    array_get_dec
    by_cases p1 : 0 < s.1
    rotate_left
    · rw [decide_eq_false p1]
      refine brF rfl ?_
      refine tb rfl (brF rfl ?_)
      exact ⟨rfl, k13⟩
    rw [decide_eq_true p1]
    refine brT rfl ?_
    array_get_dec
    by_cases p2 : s.1 ≤ s.2
    rotate_left
    · rw [decide_eq_false p2]
      refine brF rfl ?_
      exact ⟨rfl, k13⟩
    rw [decide_eq_true p2]
    refine brT rfl ?_
    array_get_dec
    exact ⟨by simp, k13⟩
  | _ =>
    refine tb rfl (brT rfl ?_)
    repeat refine brT rfl ?_
    array_get_dec
    exact ⟨rfl, Kn.refl _⟩
theorem four' {vs : List Val} {ds : List PyData} (h : TlL S Fo m n vs ds) : vs.length ≠ 4 ∨ ∃ a b c e x y z w, vs = [a, b, c, e] ∧ ds = [x, y, z, w] ∧ Tl S Fo m n a x ∧ Tl S Fo m n b y ∧ Tl S Fo m n c z ∧ Tl S Fo m n e w := by
  cases h with
  | nil => exact .inl (by simp)
  | cons h1 h => cases h with
    | nil => exact .inl (by simp)
    | cons h2 h => cases h with
      | nil => exact .inl (by simp)
      | cons h3 h => cases h with
        | nil => exact .inl (by simp)
        | cons h4 h => cases h with
          | nil => exact .inr ⟨_, _, _, _, _, _, _, _, rfl, rfl, h1, h2, h3, h4⟩
          | cons h5 h => exact .inl (by simp)
theorem mo_eq (z x : Fq) : (!blw x z) = decide (z.1 * x.2 ≤ x.1 * z.2) := by
  unfold blw
  rw [Bool.eq_iff_iff, Bool.not_eq_true', decide_eq_false_iff_not, decide_eq_true_eq]
  exact Int.not_lt
theorem linkL_wp (h : Tl S Fo MM n v d) (hn : n ≤ 36) (hw : d.weight ≤ 700000) : Wp (is_linkL_ [v] S) fun u T => u = .bl (isLi v) ∧ Kn S T := by
  refine AL.wf ?_; simp only [List.map_cons, List.map_nil, List.length_cons, List.length_nil, Nat.reduceAdd, Nat.reduceSub, List.replicate_succ, List.replicate_zero, List.cons_append, List.nil_append]; unfold is_linkL_B; array_get_dec
  refine isTu_wp h ?_
  cases h with
  | @tup n' vs ds h =>
    refine tb rfl (brF rfl ?_)
    array_get_dec
    rcases four' h with l | ⟨a, b, c, e, x, y, z, w, rfl, rfl, ha, hb, hc, he⟩
    · refine brT (by rw [Bool.not_eq_true', decide_eq_false_iff_not]; omega) ?_
      repeat refine brT rfl ?_
      array_get_dec
      exact ⟨by rw [isLi_no l], Kn.refl _⟩
    refine brF rfl ?_
    array_get_dec
    refine (wordL_wp ha).imp ?_
    rintro _ T1 ⟨rfl, k1⟩
    refine tb rfl ?_
    cases ca : isW a with
    | false =>
      refine brT rfl ?_
      repeat refine brT rfl ?_
      array_get_dec
      exact ⟨by simp only [isLi, ca, Bool.false_and], k1⟩
    | true =>
    refine brF rfl ?_
    array_get_dec
    refine (wordL_wp (Tl.kn hb k1)).imp ?_
    rintro _ T2 ⟨rfl, k2⟩
    have k12 := k1.trans k2
    refine tb rfl ?_
    cases cb : isW b with
    | false =>
      refine brT rfl ?_
      repeat refine brT rfl ?_
      array_get_dec
      exact ⟨by simp only [isLi, cb, Bool.false_and, Bool.and_false], k12⟩
    | true =>
    refine brF rfl ?_
    obtain ⟨xa, rfl⟩ := isW_str ca
    obtain ⟨xb, rfl⟩ := isW_str cb
    have ee : isLi (.tup [.str xa, .str xb, c, e]) = (!decide (xa = xb) && (isFr c && (!blw (fq c) (0, 1) && moOk (fq c) e))) := by
      show (isW (.str xa) && (isW (.str xb) && (!decide (xa = xb) && (isFr c && (!blw (fq c) (0, 1) && moOk (fq c) e))))) = _
      rw [ca, cb]
      rfl
    rw [ee]
    have wt : z.weight ≤ 700000 ∧ w.weight ≤ 700000 := by
      simp only [PyData.weight, PyData.weightAll] at hw
      omega
    array_get_dec
    by_cases c1 : xa = xb
    · rw [decide_eq_true c1]
      refine brT rfl ?_
      repeat refine brT rfl ?_
      array_get_dec
      exact ⟨rfl, k12⟩
    rw [decide_eq_false c1, Bool.not_false, Bool.true_and]
    refine brF rfl ?_
    array_get_dec
    refine (frL_wp (Tl.kn hc k12) mm900 (by omega) (by omega)).imp ?_
    rintro _ T3 ⟨rfl, k3⟩
    have k13 := k12.trans k3
    refine tb rfl ?_
    cases cc : isFr c with
    | false =>
      refine brT rfl ?_
      repeat refine brT rfl ?_
      array_get_dec
      exact ⟨by rw [Bool.false_and], k13⟩
    | true =>
    refine brF rfl ?_
    obtain ⟨s, rfl, es, os⟩ := fr_get hc cc
    rw [es, Bool.true_and]
    have e0 : blw s (0, 1) = decide (s.1 < 0) := by
      unfold blw
      rw [Int.mul_one, Int.zero_mul]
    rw [e0]
    array_get_dec
    by_cases c2 : s.1 < 0
    · rw [decide_eq_true c2]
      repeat refine brT rfl ?_
      array_get_dec
      exact ⟨rfl, k13⟩
    rw [decide_eq_false c2, Bool.not_false, Bool.true_and]
    refine brF rfl ?_
    array_get_dec
    have he3 := Tl.kn he k13
    cases hnn : AL.isNon e with
    | true =>
      refine brT rfl ?_
      array_get_dec
      exact ⟨by unfold moOk; rw [hnn]; rfl, k13⟩
    | false =>
      refine brF rfl ?_
      array_get_dec
      refine (frL_wp he3 mm900 (by omega) (by omega)).imp ?_
      rintro _ T4 ⟨rfl, k4⟩
      refine tb rfl ?_
      cases ce : isFr e with
      | false =>
        refine brF rfl ?_
        refine ⟨?_, k13.trans k4⟩
        unfold moOk
        rw [hnn, ce]
        rfl
      | true =>
      refine brT rfl ?_
      obtain ⟨f, rfl, ef, of⟩ := fr_get he ce
      have em : moOk s (frV f) = decide (s.1 * f.2 ≤ f.1 * s.2) := by
        rw [← mo_eq]
        unfold moOk
        rw [ef, ce, hnn]
        rfl
      rw [em]
      array_get_dec
      · exact ⟨rfl, k13.trans k4⟩
      · exact wide_mul os.b1 of.b2 (by decide) (by decide) (by decide)
      · exact wide_mul of.b1 os.b2 (by decide) (by decide) (by decide)
  | _ =>
    refine tb rfl (brT rfl ?_)
    repeat refine brT rfl ?_
    array_get_dec
    exact ⟨rfl, Kn.refl _⟩
end
end K05
namespace K05
open PySem PySem.Spec PyProof.Rows L2 G AL
open K09 (rsS)
theorem lt_tr {a b c : Str} (h : a.cps.toList < b.cps.toList) (h' : b.cps.toList < c.cps.toList) : a.cps.toList < c.cps.toList := List.lt_trans h h'
theorem rs_pw : ∀ {l : List Str}, rsS l = true → l.Pairwise fun a b => a.cps.toList < b.cps.toList
  | [], _ => .nil
  | [a], _ => List.pairwise_singleton _ _
  | a :: b :: l, h => by
    have h : (decide (a.cps.toList < b.cps.toList) && rsS (b :: l)) = true := h
    rw [Bool.and_eq_true, decide_eq_true_eq] at h
    have ih := rs_pw h.2
    refine List.pairwise_cons.mpr ⟨fun x hx => ?_, ih⟩
    rcases List.mem_cons.mp hx with rfl | z
    · exact h.1
    · exact lt_tr h.1 ((List.pairwise_cons.mp ih).1 x z)
theorem pw_rs : ∀ {l : List Str}, (l.Pairwise fun a b => a.cps.toList < b.cps.toList) → rsS l = true
  | [], _ => rfl
  | [a], _ => rfl
  | a :: b :: l, h => by
    show (decide (a.cps.toList < b.cps.toList) && rsS (b :: l)) = true
    obtain ⟨h1, h2⟩ := List.pairwise_cons.mp h
    rw [Bool.and_eq_true, decide_eq_true_eq]
    exact ⟨h1 b List.mem_cons_self, pw_rs h2⟩
theorem sort_rs (l : List Str) : decide (l = sortTx l) = rsS l := by
  rw [Bool.eq_iff_iff, decide_eq_true_eq]
  have p2 : (sortTx l).Pairwise (fun a b => leS a b = true) := List.pairwise_mergeSort leS_trans leS_total _
  have pm : (sortTx l).Perm (onceS l) := List.mergeSort_perm _ _
  have nd : (sortTx l).Nodup := pm.nodup_iff.mpr (once_nd l)
  constructor
  · intro e
    rw [e]
    refine pw_rs ((p2.and nd).imp fun {a b} ⟨h1, h2⟩ => ?_)
    cases z : leS b a with
    | true => exact absurd (leS_anti h1 z) h2
    | false =>
      refine Decidable.not_not.mp fun c => ?_
      rw [leS_iff.mpr c] at z
      cases z
  · intro h
    have pw := rs_pw h
    have nl : l.Nodup := pw.imp fun {a b} z e => by
      rw [e] at z
      exact List.lt_irrefl _ z
    have p1 : l.Pairwise (fun a b => leS a b = true) := pw.imp fun {a b} z => by
      rw [leS_iff]
      exact List.lt_asymm z
    refine List.Perm.eq_of_pairwise (fun a b _ _ h1 h2 => leS_anti h1 h2) p1 p2 ?_
    rw [once_id nl] at pm
    exact pm.symm
section
variable {S : Sto} {Fo : Nat → Prop} {m n : Nat}
theorem tl_strs : ∀ {l : List Str}, (∀ x ∈ l, PyData.strOk x = true ∧ x.cps.size ≤ 70) → TlL S Fo m n (l.map .str) (l.map .str)
  | [], _ => .nil
  | x :: l, h => .cons (.str x (h x List.mem_cons_self).1 (h x List.mem_cons_self).2) (tl_strs fun y hy => h y (List.mem_cons_of_mem _ hy))
theorem eqv_strs : ∀ a b : List Str, PyData.eqvAll (a.map .str) (b.map .str) = decide (a = b)
  | [], [] => by simp [PyData.eqvAll]
  | [], b :: bs => by simp [PyData.eqvAll]
  | a :: as, [] => by simp [PyData.eqvAll]
  | a :: as, b :: bs => by
    have ih := eqv_strs as bs
    rw [List.map_cons, List.map_cons]
    unfold PyData.eqvAll
    rw [ih]
    unfold PyData.eqv
    rw [Bool.eq_iff_iff, Bool.and_eq_true, beq_iff_eq, decide_eq_true_eq, decide_eq_true_eq, List.cons.injEq]
theorem vNeTx {Q : Val → Sto → Prop} {p r : Nat} {a b : List Str} (oa : ∀ x ∈ a, PyData.strOk x = true ∧ x.cps.size ≤ 70) (ob : ∀ x ∈ b, PyData.strOk x = true ∧ x.cps.size ≤ 70)
    (ha : S[p]? = some (.lst (a.map .str))) (hb : S[r]? = some (.lst (b.map .str))) (q : Q (.bl (!decide (a = b))) S) : Wp (gNe (.ref p) (.ref r) S) Q := by
  have e1 : eqS (.ref p) (.ref r) = none := rfl
  have t1 : Tl S (fun _ => True) 1 2 (.ref p) (.list (a.map .str)) := .lst trivial ha (tl_strs oa)
  have t2 : Tl S (fun _ => True) 1 2 (.ref r) (.list (b.map .str)) := .lst trivial hb (tl_strs ob)
  have small : (1 : Nat) < 2 ^ 900 := Nat.one_lt_two_pow (by decide)
  refine ⟨_, S, ?_, q⟩
  unfold gNe eqA
  rw [e1]
  simp only [t1.toD 40 (by omega), t2.toD 40 (by omega)]
  rw [if_pos ⟨t1.shaped small (by omega), t2.shaped small (by omega)⟩]
  rw [← eqv_strs]
  rfl
theorem mem_sort {l : List Str} {x : Str} : x ∈ sortTx l ↔ x ∈ l := (List.mergeSort_perm (onceS l) leS).mem_iff.trans mem_once
theorem name_ok {h : K37.Hs} {d : PyData} (t : Tl S Fo m n (K37.hsV h) d) : PyData.strOk h.name = true ∧ h.name.cps.size ≤ 70 := by
  cases t with
  | tup t => cases t with
    | cons a t => cases a with
      | str _ x y => exact ⟨x, y⟩
theorem few {us : List Val} {es : List PyData} (h : TlL S Fo m n us es) : (∀ x ∈ us, x = K37.hsV (K09.hsOf x)) → 7 * us.length ≤ PyData.weightAll es := by
  induction us generalizing es with
  | nil => intro; simp
  | cons x us ih =>
    intro f
    cases h with
    | cons t h =>
      have i2 := ih h fun y hy => f y (List.mem_cons_of_mem _ hy)
      rw [f x List.mem_cons_self] at t
      rw [K09.hs_d t, List.length_cons]
      simp only [PyData.weightAll, PyData.weight]
      omega
end
end K05
namespace K48
open PySem PySem.Spec PyProof.Rows L2 G Th AL
open K37 (common_divisor_ common_divisor_B is_below_ is_below_B)

end K48
namespace K49
open PySem PySem.Spec PyProof.Rows L2 G Th AL
open K37
end K49
namespace K52
open PySem PySem.Spec PyProof.Rows L2 G Th AL
open K37
open K49
end K52
namespace K51
open PySem PySem.Spec PyProof.Rows L2 G Th AL
open K37
open K49
open K52
end K51
namespace AL
open PySem PySem.Spec PyProof.Rows L2 G Th
variable [TT]
section
variable {X : Cx} {K : PySem.W.Frag}
end
end AL
namespace K50
open PySem PySem.Spec PyProof.Rows L2 G Th AL
open K37 (common_divisor_ common_divisor_B is_below_ is_below_B)



end K50
namespace Od
open PySem PySem.Spec PyProof.Rows L2 SeqAt
end Od
namespace AL
open PySem PySem.Spec PyProof.Rows L2 G Th Od
end AL
namespace Od
open PySem PySem.Spec PyProof.Rows L2 SeqAt
end Od
namespace AL
open PySem PySem.Spec PyProof.Rows L2 G Th Od
variable [TT]
section
variable {X : Cx} {K : PySem.W.Frag}
end
end AL
namespace K55
open PySem PySem.Spec PyProof.Rows L2 G Th AL

end K55
namespace K55
open PySem PySem.Spec PyProof.Rows L2 G Th AL KL Fr Od
open K57 (Tf)
open K37 (fmod_lt p60 p40 p62 natV at_ints)
open K08 (ws_cut)
section
variable {S : Sto} {Fo : Nat → Prop} {m n : Nat} {v : Val} {d : PyData}
theorem TlL.one (h : Tl S Fo m n v d) : TlL S Fo m n [v] [d] := .cons h .nil
end
end K55
namespace K50
open PySem PySem.Spec PyProof.Rows L2 G Th AL KL Fr Od
open K37 (fmod_lt p60 p40 p62 Tp)

open K08 (ws_cut)
open K55 (TlL.one)

structure Menu (S : Sto) (Fo : Nat → Prop) (m M : Nat) (ms : List Val) : Prop where
  at_ : S[M]? = some (.lst ms)
  ne : 0 < ms.length
  few : ms.length ≤ 100
  one : M ≠ 1
  tl : ∀ v ∈ ms, ∃ d, Tl S Fo m 1 v d ∧ d.weight ≤ 200
section
variable {S : Sto} {Fo : Nat → Prop} {m n M : Nat} {v : Val} {d : PyData} {ms : List Val}
theorem Menu.up {m' : Nat} (h : Menu S Fo m M ms) (hm : m ≤ m') : Menu S Fo m' M ms := ⟨h.at_, h.ne, h.few, h.one, fun v hv => by
  obtain ⟨d, a, b⟩ := h.tl v hv
  exact ⟨d, a.up hm (fun r vs f g => ⟨f, g⟩) 1 (Nat.le_refl _), b⟩⟩
theorem wl : ∀ ds : List PyData, ds.length ≤ PyData.weightAll ds
  | [] => Nat.zero_le _
  | a :: b => by have := wl b; simp only [PyData.weightAll, List.length_cons]; omega
end
end K50
namespace K49
open PySem PySem.Spec PyProof.Rows L2 G Th AL K37 KL Fr
structure Slew (sl : Fq) (u : Int) : Prop where
  ex : ∃ a : Int, Is sl a u ∧ 0 ≤ a ∧ a ≤ u
  pos : 0 < u
  top : u ≤ 99
section
variable {sl : Fq} {u : Int}
theorem Slew.qn (s : Slew sl u) : QN u 99 sl := by
  obtain ⟨a, h1, h2, h3⟩ := s.ex
  exact ⟨a, h1, by have := s.top; omega⟩
theorem Slew.ok (s : Slew sl u) : Fr.Ok 7 sl := s.qn.ok (by decide) (by have := s.pos; have := s.top; show u.natAbs < 128; omega)
theorem Slew.q (s : Slew sl u) : 0 ≤ q sl ∧ Fr.q sl ≤ 1 := by
  obtain ⟨a, h1, h2, h3⟩ := s.ex
  have e : Fr.q sl = (a : Rat) / (u : Rat) := by rw [h1.1]; exact q_mk h1.2
  have up : (0 : Rat) < (u : Rat) := Rat.intCast_pos.mpr s.pos
  rw [e]
  refine ⟨le_div up ?_, div_le up ?_⟩
  · rw [Rat.mul_zero]
    exact Rat.intCast_nonneg.mpr h2
  · rw [Rat.mul_one]
    exact Rat.intCast_le_intCast.mpr h3
end
section
variable {fl : Fl} {es : List Ev} {sl : Fq} {u : Int}
theorem QN.bd {M : Nat} {x : Fq} (hu : 0 < u) (ht : u ≤ 99) (h : QN (240 * u) M x) (hM : M < 2 ^ 40) : Fr.Ok 40 x ∧ Bd x := by
  have o := h.ok hM (by have : (2 : Nat) ^ 40 = 1099511627776 := by decide
                        omega)
  exact ⟨o, .of o (by decide)⟩
end
section
variable {S : Sto}
end
end K49
namespace K49
open PySem PySem.Spec PyProof.Rows L2 G Th AL K37 KL Fr
section
variable {S : Sto}

def PrB (p : Pr) : Prop := ∀ b x, sel b p = some x → Fr.Ok 40 x
theorem PrB.bd {p : Pr} (h : PrB p) : ∀ b, BdO (sel b p) := fun b x hx => .of (h b x hx) (by decide)
end
section
variable {fl : Fl} {es : List Ev} {sl : Fq} {u : Int} {S : Sto}
end
end K49
namespace K49
open PySem PySem.Spec PyProof.Rows L2 G Th AL K37 KL Fr

theorem q0 : q ((0, 1) : Fq) = 0 := by rw [q_int]; rfl
section
variable {fl : Fl} {es : List Ev} {sl : Fq} {u : Int} {S : Sto}

end
end K49
namespace K49
open PySem PySem.Spec PyProof.Rows L2 G Th AL K37 KL Fr
end K49
namespace K52
open PySem PySem.Spec PyProof.Rows L2 G Th AL K37 KL Fr K49
section
variable {fl : Fl} {es : List Ev} {xs : List Fq} {S : Sto}

end
end K52
namespace K51
open PySem PySem.Spec PyProof.Rows L2 G Th AL K37 KL Fr K49 K52
section
variable {S : Sto}
end

section
variable {fl : Fl} {es : List Ev} {xs : List Fq} {sl : Fq} {u : Int} {S : Sto}
end
end K51
namespace K51
open PySem PySem.Spec PyProof.Rows L2 G Th AL K37 KL Fr K49 K52
section
variable {fl : Fl} {es : List Ev} {xs : List Fq} {sl : Fq} {u : Int} {S : Sto} {bg : Int} {hrs : List Int}

end
end K51
namespace K51
open PySem PySem.Spec PyProof.Rows L2 G Th AL K37 KL Fr K49 K52
end K51
namespace K55
open PySem PySem.Spec PyProof.Rows L2 G Th AL KL Fr Od
open K57 (Tf)
open K37 (fmod_lt p60 p40 p62 natV at_ints)
open K08 (ws_cut)
section
variable {S : Sto} {Fo : Nat → Prop} {m n : Nat} {v : Val} {d : PyData}
theorem vEqNilD {Q : Val → Sto → Prop} {a b : Nat} {vs : List Val} {ds : List PyData} (hm : m < 2 ^ 900) (hn : n ≤ 37) (h : TlL S Fo m n vs ds) (ha : S[a]? = some (.lst vs)) (hb : S[b]? = some (.lst [])) (q : Q (.bl vs.isEmpty) S) : Wp (gEq (.ref a) (.ref b) S) Q := by
  have e1 : eqS (.ref a) (.ref b) = none := rfl
  have hT : Tl S (fun _ => True) m (n + 1) (.ref a) (.list ds) := .lst trivial ha (h.up (Nat.le_refl _) (fun r vs _ g => ⟨trivial, g⟩) _ (Nat.le_refl _))
  have hU : Tl S (fun _ => True) m (n + 1) (.ref b) (.list []) := .lst trivial hb .nil
  refine ⟨_, S, ?_, q⟩
  unfold gEq eqA
  rw [e1]
  simp only [hT.toD 40 (by omega), hU.toD 40 (by omega)]
  rw [if_pos ⟨hT.shaped hm (by omega), hU.shaped hm (by omega)⟩]
  cases h with
  | nil => rfl
  | cons a b => rfl
end
end K55
namespace K50
open PySem PySem.Spec PyProof.Rows L2 G Th AL KL Fr Od
open K37 (fmod_lt p60 p40 p62 Tp cd_eq common_divisor_ common_divisor_B)
open K08 (ws_cut)
open K55 (TlL.one)

section
variable {S : Sto} {Fo : Nat → Prop} {m n M : Nat} {v : Val} {d : PyData} {vs : List Val} {ds : List PyData}
theorem vNeNilD {Q : Val → Sto → Prop} {a b : Nat} (hm : m < 2 ^ 900) (hn : n ≤ 37) (h : TlL S Fo m n vs ds) (ha : S[a]? = some (.lst vs)) (hb : S[b]? = some (.lst [])) (q : Q (.bl (!vs.isEmpty)) S) : Wp (gNe (.ref a) (.ref b) S) Q := by
  obtain ⟨v, T, e, rfl, rfl⟩ := K55.vEqNilD (Q := fun v T => v = .bl vs.isEmpty ∧ S = T) hm hn h ha hb ⟨rfl, rfl⟩
  refine ⟨_, S, ?_, q⟩
  unfold gEq at e
  unfold gNe
  cases hh : eqA S (.ref a) (.ref b) with
  | none => rw [hh] at e; cases e
  | some c =>
    rw [hh, Option.map_some] at e
    injection e with e
    injection e with e _
    injection e with e
    rw [e]
    rfl
end
end K50
namespace K05
open PySem PySem.Spec PyProof.Rows L2 G Th AL K37 KL Fr
open K07 (is_fraction_ is_fraction_B is_fractionL_ is_fractionL_B isFr frL_wp vEqNilO)
open K09 (isCh isW isTx isTx_wp three four isHo isHo_no isLi isLi_no hoOk moOk fq fr_get blw sE isW_str Tl.kn TlL.kn isHos isLis isFi isFi_no hasS its nmH hsOf lkOf rsS hos_of li_of names_eq lc_mapK vInL any_src hs_d)
open K04 (is_wordL_ wordL_wp)
open K12 (isTu isTu_wp isI numberL_wp MM mm900 vEqNilT)
open K50 (vNeNilD)
section
variable {S : Sto} {Fo : Nat → Prop} {m n : Nat} {v : Val} {d : PyData}

theorem lc_keep {ok : Sto → Prop} {p : Pat} {t : BF} {f : EF} {ρ : Rho} {A : List Val → Sto → Prop} (hok : ∀ V, ok V) (L : List Val) (b : Val → Bool) (hl : L.length < 900000)
    (h : ∀ a ∈ L, ∀ V, Kn S V → Bn (p.bind a ρ) fun ρ1 => Wp (t ρ1 V) fun c T => c = b a ∧ Kn S T ∧ (b a = true → Wp (f ρ1 T) fun y W => y = a ∧ T = W)) (q : ∀ V, Kn S V → A (L.filter b) V) : Wp (lcR p t f ok ρ L [] S) A := by
  refine lc_inv (fun i a V => a = (L.take i).filter b ∧ Kn S V) (by omega) ⟨rfl, Kn.refl _⟩ (fun i a V _ _ => hok V) (fun i a V ⟨e, _⟩ => ?_) ?_ ?_
  · rw [e]
    have := List.length_filter_le b (L.take i)
    rw [List.length_take] at this
    omega
  · rintro i v a V hv ⟨rfl, kV⟩
    obtain ⟨lt, ex⟩ := List.getElem?_eq_some_iff.mp hv
    obtain ⟨ρ1, hb, z⟩ := h v (List.mem_of_getElem? hv) V kV
    refine ⟨ρ1, hb, z.imp fun c T ⟨c1, kT, z2⟩ => ?_⟩
    subst c1
    have tk : L.take (i + 1) = L.take i ++ [v] := by rw [List.take_succ_eq_append_getElem lt, ex]
    rw [tk, List.filter_append]
    refine Br.of (fun c => ?_) (fun c => ?_)
    · refine (z2 c).imp fun y U ⟨y1, y2⟩ => ?_
      subst y1 y2
      rw [List.filter_cons_of_pos c]
      exact ⟨rfl, kT⟩
    · rw [List.filter_cons_of_neg (by simpa using c)]
      exact ⟨by simp, kT⟩
  · rintro a V ⟨rfl, kV⟩
    rw [List.take_length]
    exact q V kV
theorem w_of_mem : ∀ {ds : List PyData} {d : PyData}, d ∈ ds → d.weight ≤ PyData.weightAll ds
  | [], _, h => by cases h
  | e :: ds, d, h => by
    rcases List.mem_cons.mp h with rfl | h
    · simp only [PyData.weightAll]; omega
    · have := w_of_mem h
      simp only [PyData.weightAll]; omega
theorem isFi_h {h l s : Val} (c : isHos h = false) : isFi (.tup [h, l, s]) = false := by simp only [isFi, c, Bool.false_and]
theorem isFi_l {h l s : Val} (c : isLis ((its h).map nmH) l = false) : isFi (.tup [h, l, s]) = false := by simp only [isFi, c, Bool.false_and, Bool.and_false]
theorem none_kept {b : Val → Bool} : ∀ l : List Val, (l.filter fun x => !b x).isEmpty = l.all b
  | [] => rfl
  | x :: l => by
    rw [List.filter_cons, List.all_cons]
    cases e : b x with
    | true => simpa using none_kept l
    | false => rfl
theorem fieldL_wp (h : Tl S Fo MM n v d) (hn : n ≤ 36) (hw : d.weight ≤ 26000) : Wp (is_fieldL_ [v] S) fun u T => u = .bl (isFi v) ∧ Kn S T := by
  refine AL.wf ?_; simp only [List.map_cons, List.map_nil, List.length_cons, List.length_nil, Nat.reduceAdd, Nat.reduceSub, List.replicate_succ, List.replicate_zero, List.cons_append, List.nil_append]; unfold is_fieldL_B; array_get_dec
  refine isTu_wp h ?_
  cases h with
  | @tup n' vs ds h =>
    refine tb rfl (brF rfl ?_)
    array_get_dec
    rcases three h with l | ⟨a, b, c, x, y, z, rfl, rfl, ha, hb, hc⟩
    · refine brT (by rw [Bool.not_eq_true', decide_eq_false_iff_not]; omega) ?_
      repeat refine brT rfl ?_
      array_get_dec
      exact ⟨by rw [isFi_no l], Kn.refl _⟩
    refine brF rfl ?_
    have wt : x.weight ≤ 26000 ∧ y.weight ≤ 26000 ∧ z.weight ≤ 26000 := by
      simp only [PyData.weight, PyData.weightAll] at hw
      omega
    array_get_dec
    refine (wordL_wp hc).imp ?_
    rintro _ T1 ⟨rfl, k1⟩
    refine tb rfl ?_
    cases cc : isW c with
    | false =>
      refine brT rfl ?_
      repeat refine brT rfl ?_
      array_get_dec
      refine ⟨?_, k1⟩
      cases ch : isHos a with
      | false => rw [isFi_h ch]
      | true =>
        have e : hasS c (its a) = false := by
          cases e : hasS c (its a) with
          | false => rfl
          | true =>
            cases ha with
            | @tup n2 us es ha =>
              have f : (us.all isHo && rsS (us.map nmH)) = true := ch
              rw [Bool.and_eq_true] at f
              obtain ⟨x, hx, y⟩ := List.any_eq_true.mp e
              have ho := (hos_of ha f.1 x hx).2.2.2.1
              rw [Bool.and_eq_true] at y
              have y1 := y.1
              cases c with
              | str z =>
                have y2 : nmH x = z := by simpa [sE] using y1
                rw [y2, cc] at ho
                cases ho
              | _ => cases y1
            | _ => cases ch
        simp only [isFi, e, Bool.and_false]
    | true =>
    refine brF rfl ?_
    repeat refine brF rfl ?_
    array_get_dec
    refine isTu_wp (Tl.kn ha k1) ?_
    cases ha with
    | @tup n2 us es ha =>
      refine tb rfl (brF rfl ?_)
      array_get_dec
      refine .inl ⟨_, rfl, ?_⟩
      have hwe : PyData.weightAll es ≤ 26000 := by
        have w1 := wt.1
        simp only [PyData.weight] at w1
        omega
      have hlen : us.length < 900000 := by
        have := K12.w_len es
        have := ha.len
        omega
      refine lc_keep (fun _ => trivial) us (fun x => !isHo x) hlen (fun x hx V kV => ?_) (fun V kV => ?_)
      · obtain ⟨dx, hdx, hx⟩ := (TlL.kn ha (k1.trans kV)).mem hx
        refine bn rfl ?_
        array_get_dec
        refine (houseL_wp hx (by omega) (by have := w_of_mem hdx; omega)).imp ?_
        rintro _ W ⟨rfl, kW⟩
        array_get_dec
        exact ⟨rfl, kV.trans kW, fun _ => by array_get_dec; exact ⟨rfl, rfl⟩⟩
      · intro U1 q1 e_q1 l_U1 g_q1 k_U1
        array_get_dec
        intro U2 qe e_qe l_U2 g_qe k_U2
        have kU := (k1.trans kV).trans (k_U1.trans k_U2)
        obtain ⟨fs, hfs⟩ := K12.TlL.filter (fun x => !isHo x) (TlL.kn ha kU)
        refine vNeNilD mm900 (by omega) hfs (k_U2 _ _ g_q1) g_qe ?_
        rw [none_kept]
        refine tb rfl ?_
        cases c1 : us.all isHo with
        | false =>
          refine brT rfl ?_
          array_get_dec
          exact ⟨by rw [isFi_h]; simp only [isHos, c1, Bool.false_and], kU⟩
        | true =>
        refine brF rfl ?_
        array_get_dec
        refine isTu_wp (Tl.kn hb kU) ?_
        cases hb with
        | @tup n3 ls gs hb =>
          refine tb rfl (brF rfl ?_)
          array_get_dec
          refine .inl ⟨_, rfl, ?_⟩
          have hwl : PyData.weightAll gs ≤ 26000 := by
            have w2 := wt.2.1
            simp only [PyData.weight] at w2
            omega
          have llen : ls.length < 900000 := by
            have := K12.w_len gs
            have := hb.len
            omega
          refine lc_keep (fun _ => trivial) ls (fun x => !isLi x) llen (fun x hx V kV => ?_) (fun V kV => ?_)
          · obtain ⟨dx, hdx, hx⟩ := (TlL.kn hb (kU.trans kV)).mem hx
            refine bn rfl ?_
            array_get_dec
            refine (linkL_wp hx (by omega) (by have := w_of_mem hdx; omega)).imp ?_
            rintro _ W ⟨rfl, kW⟩
            array_get_dec
            exact ⟨rfl, kV.trans kW, fun _ => by array_get_dec; exact ⟨rfl, rfl⟩⟩
          intro U3 q3 e_q3 l_U3 g_q3 k_U3
          array_get_dec
          intro U4 q4 e_q4 l_U4 g_q4 k_U4
          have kU4 := (kU.trans kV).trans (k_U3.trans k_U4)
          obtain ⟨fs2, hfs2⟩ := K12.TlL.filter (fun x => !isLi x) (TlL.kn hb kU4)
          refine vNeNilD mm900 (by omega) hfs2 (k_U4 _ _ g_q3) g_q4 ?_
          rw [none_kept]
          refine tb rfl ?_
          cases c2 : ls.all isLi with
          | false =>
            refine brT rfl ?_
            array_get_dec
            exact ⟨by rw [isFi_l]; simp only [isLis, c2, Bool.false_and], kU4⟩
          | true =>
          refine brF rfl ?_
          array_get_dec
          have ho := hos_of (TlL.kn ha kU4) c1
          refine .inl ⟨_, rfl, ?_⟩
          refine lc_mapK (fun _ _ => trivial) us (fun x => .str (nmH x)) hlen (fun x hx V kV => ?_) (fun V kV => ?_)
          · refine bn rfl ?_
            array_get_dec
            refine ⟨rfl, rfl, ?_⟩
            have e1 := (ho x hx).1
            have w1 : Wp (gIxA (hsV (hsOf x)) (.int 0) V) fun y W => y = Val.str (nmH x) ∧ Kn V W := by
              apply AL.vIxT
              · rfl
              · rfl
              · rfl
              exact ⟨rfl, Kn.refl _⟩
            rw [← e1] at w1
            exact w1
          intro U5 q5 e_q5 l_U5 g_q5 k_U5
          array_get_dec
          have short : us.length ≤ 4000 := by
            have := few (TlL.kn ha kU4) fun x hx => (ho x hx).1
            omega
          have nok : ∀ x ∈ us.map nmH, PyData.strOk x = true ∧ x.cps.size ≤ 70 := fun x hx => by
            obtain ⟨y, hy, rfl⟩ := List.mem_map.mp hx
            obtain ⟨dy, _, ty⟩ := (TlL.kn ha kU4).mem hy
            rw [(ho y hy).1] at ty
            exact name_ok ty
          have g5 : U5[q5]? = some (.lst ((us.map nmH).map .str)) := by
            rw [g_q5, List.map_map]
            rfl
          refine vSortTx (l := us.map nmH) rfl g5 (by rw [List.length_map]; exact short) ?_
          intro U6 q6 e_q6 l_U6 g_q6 k_U6
          refine vNeTx nok (fun x hx => nok x (mem_sort.mp hx)) (k_U6 _ _ g5) g_q6 ?_
          rw [sort_rs]
          have kU6 := (kU4.trans kV).trans (k_U5.trans k_U6)
          refine tb rfl ?_
          cases c3 : rsS (us.map nmH) with
          | false =>
            refine brT rfl ?_
            repeat refine brT rfl ?_
            array_get_dec
            exact ⟨by rw [isFi_h]; simp only [isHos, c3, Bool.and_false], kU6⟩
          | true =>
          refine brF rfl ?_
          array_get_dec
          have hx : Tl U6 Fo MM 38 (.tup [c, .tup [.int 1, .int 1], .tup [.int 1, .int 1]]) (.tuple [z, .tuple [.int 1, .int 1], .tuple [.int 1, .int 1]]) := by
            have ot : Tl U6 Fo MM 37 (.tup [.int 1, .int 1]) (.tuple [.int 1, .int 1]) := .tup (n := 36) (.cons (.int _ (by unfold MM; decide)) (.cons (.int _ (by unfold MM; decide)) .nil))
            exact .tup (n := 37) (.cons ((Tl.kn hc kU6).up (Nat.le_refl _) (fun r vs f g => ⟨f, g⟩) _ (by omega)) (.cons ot (.cons ot .nil)))
          have hy : Tl U6 Fo MM (n2 + 1) (.tup us) (.tuple es) := .tup (TlL.kn ha kU6)
          have w2 : Wp (gNInTD (.tup [c, .tup [.int 1, .int 1], .tup [.int 1, .int 1]]) (.tup us) U6) fun v T => v = .bl (!hasS c us) ∧ U6 = T := by
            refine ⟨_, U6, ?_, rfl, rfl⟩
            unfold gNInTD
            simp only [hx.toD 40 (by omega), hy.toD 40 (by omega)]
            rw [if_pos ⟨hx.shaped mm900 (by omega), hy.shaped mm900 (by omega)⟩, any_src (Tl.kn hc kU6) (TlL.kn ha kU6) fun x hx => (ho x hx).1]
          refine w2.imp ?_
          rintro _ _ ⟨rfl, rfl⟩
          refine tb rfl ?_
          cases c4 : hasS c us with
          | false =>
            refine brT rfl ?_
            repeat refine brT rfl ?_
            array_get_dec
            exact ⟨by simp only [isFi, its, c4, Bool.and_false], kU6⟩
          | true =>
          refine brF rfl ?_
          repeat refine brF rfl ?_
          array_get_dec
          refine .inl ⟨_, rfl, ?_⟩
          have g5' : U6[q5]? = some (.lst ((us.map nmH).map .str)) := k_U6 _ _ g5
          refine lc_keep (fun _ => trivial) ls (fun x => !(decide ((lkOf x).fr ∈ us.map nmH) && decide ((lkOf x).to ∈ us.map nmH))) llen (fun x hx V kV => ?_) (fun V kV => ?_)
          · obtain ⟨dx, hdx, tx⟩ := (TlL.kn hb kU6).mem hx
            have lx := (li_of tx (List.all_eq_true.mp c2 x hx)).1
            refine bn rfl ?_
            array_get_dec
            have w1 : ∀ V, Wp (gIxA (lkV (lkOf x)) (.int 0) V) fun y W => y = Val.str (lkOf x).fr ∧ V = W := fun V => by
              apply AL.vIxT
              · rfl
              · rfl
              · rfl
              exact ⟨rfl, rfl⟩
            have w2 : ∀ V, Wp (gIxA (lkV (lkOf x)) (.int 1) V) fun y W => y = Val.str (lkOf x).to ∧ V = W := fun V => by
              apply AL.vIxT
              · rfl
              · rfl
              · rfl
              exact ⟨rfl, rfl⟩
            rw [← lx] at w1 w2
            refine (w1 _).imp ?_
            rintro _ _ ⟨rfl, rfl⟩
            array_get_dec
            refine vInL (kV _ _ g5') ?_
            refine tb rfl ?_
            rw [if_pos rfl]
            cases f1 : decide ((lkOf x).fr ∈ us.map nmH) with
            | false =>
              refine brT rfl ?_
              exact ⟨rfl, kV, fun _ => by array_get_dec; exact ⟨rfl, rfl⟩⟩
            | true =>
              refine brF rfl ?_
              array_get_dec
              refine (w2 _).imp ?_
              rintro _ _ ⟨rfl, rfl⟩
              array_get_dec
              refine vInL (kV _ _ g5') ?_
              rw [if_pos rfl]
              try refine tb rfl ?_
              exact ⟨rfl, kV, fun _ => by array_get_dec; exact ⟨rfl, rfl⟩⟩
          intro U7 q7 e_q7 l_U7 g_q7 k_U7
          array_get_dec
          intro U8 q8 e_q8 l_U8 g_q8 k_U8
          have kU8 := (kU6.trans kV).trans (k_U7.trans k_U8)
          obtain ⟨fs3, hfs3⟩ := K12.TlL.filter (fun x => !(decide ((lkOf x).fr ∈ us.map nmH) && decide ((lkOf x).to ∈ us.map nmH))) (TlL.kn hb kU8)
          refine K55.vEqNilD mm900 (by omega) hfs3 (k_U8 _ _ g_q7) g_q8 ?_
          rw [none_kept (b := fun x => decide ((lkOf x).fr ∈ us.map nmH) && decide ((lkOf x).to ∈ us.map nmH))]
          try array_get_dec
          refine ⟨?_, kU8⟩
          simp only [isFi, isHos, isLis, its, c1, c2, c3, c4, Bool.and_true, Bool.true_and]
          try rfl
        | _ =>
          refine tb rfl (brT rfl ?_)
          repeat refine brT rfl ?_
          array_get_dec
          exact ⟨by rw [isFi_l rfl], kU⟩
    | _ =>
      refine tb rfl (brT rfl ?_)
      repeat refine brT rfl ?_
      array_get_dec
      exact ⟨rfl, k1⟩
  | _ =>
    refine tb rfl (brT rfl ?_)
    repeat refine brT rfl ?_
    array_get_dec
    exact ⟨rfl, Kn.refl _⟩
end
end K05
namespace K05
open PySem PySem.Spec PyProof.Rows L2 G Th AL K37 KL Fr
open K09 (isTx isTx_wp three isFi its tl_len Tl.kn TlL.kn hsOf hs_d falls blw)

open K12 (isTu isTu_wp isI MM mm900)
section
variable {S : Sto} {Fo : Nat → Prop} {m n : Nat} {v : Val} {d : PyData} {fl : Fl} {es : List Ev}
end
end K05
namespace K04
open PySem PySem.Spec PyProof.Rows L2 G Th AL K37 KL Fr

open K12 (isTu isTu_wp isI MM mm900)
section
variable {S : Sto} {Fo : Nat → Prop} {m n : Nat} {v : Val} {d : PyData} {fl : Fl} {es : List Ev} {x : Str} {s : Fq}
end
end K04
namespace K04
open PySem PySem.Spec PyProof.Rows L2 G Th AL K37 KL Fr
open K08 (feedL_ feedL_B drawL_ drawL_B divisorL_ divisorL_B madeL_ madeL_B fieldL_ fieldL_B)
open K08 (F8 Sc wAt gaits ws_cut pool8 at_map)
open K12 (spoiltL_ spoiltL_B spoiltL_n)
open K12 (Thg Thgs F1 F2 g_int g_tup g_lst g_non g_bl g_small g_str MM mm900 mm199 isTu spoilt_wp)
open K09 (t_fr t_nm Hok)
open K07 (vSlAL)
section
variable {S : Sto} {Fo : Nat → Prop} {m n : Nat} {v : Val} {d : PyData} {fl : Fl} {es : List Ev} {x : Str} {s : Fq}
theorem spoilF {B : Int} {M w : Nat} {ms : List Val} (T : Tp S B) (hF : ∀ r, S.length ≤ r → Fo r) (hz : ∀ r, Fo r → r ≠ 1) (hM : M ≠ 1) (gM : S[M]? = some (.lst ms)) (hms : Thgs S Fo 1 110 ms) (l0 : 0 < ms.length) (l1 : ms.length < 1000) (hv : Thg S Fo n w v) (hn : n < 8) (hw : w ≤ 100000) (hB : B + 48 < 2 ^ 40) :
    Wp (spoiltL_ [.ref 1, v, .ref M] S) fun v' U => Thg U Fo (n + 1) (2 * w + 120) v' ∧ Tp U (B + 48) ∧ Kx 1 S U := by
  obtain ⟨ds, a, b⟩ := hms.ex
  obtain ⟨d, x, y⟩ := hv.ex
  refine (spoilt_wp (Fo := Fo) (m := MM) 8 n T hF hz hM gM a l0 l1 b x hn (by omega) (by omega) (by omega) mm199).imp ?_
  rintro v' U ⟨⟨d', e, f⟩, t, k⟩
  exact ⟨⟨d', e.up (Nat.le_refl _) (fun r vs f g => ⟨f, g⟩) _ (by omega), by omega⟩, t.mono (by omega), k⟩
structure Il (S : Sto) (q n w N : Nat) : Prop where
  ex : ∃ vs, S[q]? = some (.lst vs) ∧ Thgs S (F2 q) n w vs ∧ vs.length ≤ N
theorem Il.lt {q n w N : Nat} (h : Il S q n w N) : q < S.length := by
  obtain ⟨vs, a, _⟩ := h.ex
  exact lt_of_at a
def Nm (x : Str) : Prop := x = "q" ∨ x ∈ pool8
theorem Nm.t {x : Str} (h : Nm x) {n w : Nat} (hw : 8 ≤ w) : Thg S Fo n w (.str x) := by
  rcases h with rfl | h
  · exact g_str (by decide +kernel) (by decide +kernel) hw
  · exact t_nm h hw
theorem mk_t {n w : Nat} (hw : 18 ≤ w) : Thg S Fo (n + 1) w (.tup [.str "mark"]) := g_tup (n := n) (w := 8) (.cons (g_str (by decide +kernel) (by decide +kernel) (by decide)) Thgs.nil) (by simp only [List.length_cons, List.length_nil]; omega)
theorem cut_memG {α : Type} {l : List α} {lo hi : Option Int} {v : α} (h : v ∈ cutL l lo hi) : v ∈ l := by
  unfold cutL at h
  exact List.mem_of_mem_drop (List.mem_of_mem_take h)
theorem cut_len' {α : Type} {l : List α} {lo hi : Option Int} : (cutL l lo hi).length ≤ l.length := by
  unfold cutL
  rw [List.length_take, List.length_drop]
  omega
def Dn (v : Val) : Prop := v = .tup [.str "mark"] ∨ ∃ (w : Str) (i : Int), (w = "send" ∨ w = "hear") ∧ i.natAbs < 64 ∧ v = .tup [.str w, .int i]
theorem Dn.t {v : Val} (h : Dn v) {w : Nat} (hw : 18 ≤ w) : Thg S Fo 1 w v := by
  rcases h with rfl | ⟨x, i, hx, hi, rfl⟩
  · exact mk_t (n := 0) hw
  · exact g_tup (n := 0) (w := 8) (.cons (by rcases hx with rfl | rfl <;> exact g_str (by decide +kernel) (by decide +kernel) (by decide)) (.cons (g_small hi (by decide)) Thgs.nil)) (by simp only [List.length_cons, List.length_nil]; omega)
theorem Il.put {T : Sto} {q n w N N' : Nat} {us : List Val} (h : Il S q n w N) (k : Kx q S T) (g : ∀ vs, S[q]? = some (.lst vs) → T[q]? = some (.lst (vs ++ us))) (hu : Thgs T (F2 q) n w us) (hN : N + us.length ≤ N') : Il T q n w N' := by
  obtain ⟨vs, a, b, c⟩ := h.ex
  exact ⟨vs ++ us, g vs a, (b.up fun r xs f z => ⟨f, k r _ f.2 z⟩).app hu, by rw [List.length_append]; omega⟩
theorem Il.kx {T : Sto} {q n w N : Nat} (h : Il S q n w N) (hq : q ≠ 1) (k : Kx 1 S T) : Il T q n w N := by
  obtain ⟨vs, a, b, c⟩ := h.ex
  exact ⟨vs, k _ _ hq a, b.up fun r xs f z => ⟨f, k r _ f.1 z⟩, c⟩
theorem mem_rng {lo : Int} {k : Nat} {v : Val} (h : v ∈ rangeV lo k) : ∃ j < k, v = .int (lo + (j : Int)) := by
  unfold rangeV at h
  obtain ⟨j, hj, rfl⟩ := List.mem_map.mp h
  exact ⟨j, List.mem_range.mp hj, rfl⟩
theorem len_rng {lo : Int} {k : Nat} {f : Val → Val} : (((rangeV lo k).filter fun _ => true).map f).length = k := by
  rw [List.length_map, List.filter_eq_self.mpr (fun _ _ => rfl), rangeV_len]
end
end K04
namespace K05
open PySem PySem.Spec PyProof.Rows L2 G Th AL K37 KL Fr
open K08 (feedL_ feedL_B drawL_ drawL_B)
open K08 (F8 Sc ws_cut pool8 at_map)
open K12 (Thg Thgs F1 F2 g_int g_tup g_lst g_non g_bl g_small g_str MM mm900 mm199 isTu w_int)
open K09 (t_fr t_nm Hok t_hs t_lk)
open K04 (Il Dn cut_memG cut_len' mk_t)
section
variable {S : Sto} {Fo : Nat → Prop} {m n : Nat} {v : Val} {d : PyData} {fl : Fl} {es : List Ev} {x : Str} {s : Fq}
theorem g_two {a b : Val} {w1 w2 w : Nat} (ha : Thg S Fo n w1 a) (hb : Thg S Fo n w2 b) (l : w1 + w2 + 2 ≤ w) : Thg S Fo (n + 1) w (.tup [a, b]) := by
  obtain ⟨x, a1, a2⟩ := ha.ex
  obtain ⟨y, b1, b2⟩ := hb.ex
  exact ⟨_, .tup (.cons a1 (.cons b1 .nil)), by simp only [PyData.weight, PyData.weightAll]; omega⟩
theorem g_three {a b c : Val} {w1 w2 w3 w : Nat} (ha : Thg S Fo n w1 a) (hb : Thg S Fo n w2 b) (hc : Thg S Fo n w3 c) (l : w1 + w2 + w3 + 3 ≤ w) : Thg S Fo (n + 1) w (.tup [a, b, c]) := by
  obtain ⟨x, a1, a2⟩ := ha.ex
  obtain ⟨y, b1, b2⟩ := hb.ex
  obtain ⟨z, c1, c2⟩ := hc.ex
  exact ⟨_, .tup (.cons a1 (.cons b1 (.cons c1 .nil))), by simp only [PyData.weight, PyData.weightAll]; omega⟩
theorem t_fl (fo : F8 fl) : Thg S Fo 4 2200 (flV fl) := by
  have a : Thg S Fo 3 786 (.tup (fl.hs.map hsV)) := g_tup (K09.Thgs.map fun h hm => t_hs fo hm) (by have := fo.few; rw [List.length_map]; omega)
  have b : Thg S Fo 3 1384 (.tup (fl.ls.map lkV)) := g_tup (K09.Thgs.map fun h hm => t_lk fo hm) (by have := fo.lfew; rw [List.length_map]; omega)
  exact g_three (n := 3) a b (t_nm (w := 8) (fo.sub.mem fo.src) (by decide)) (by decide)

def Ea (v : Val) : Prop := ∀ (S : Sto) (Fo : Nat → Prop), Thg S Fo 2 130 v
theorem Ea.all {us : List Val} (h : ∀ v ∈ us, Ea v) : Thgs S Fo 2 130 us := by
  induction us with
  | nil => exact Thgs.nil
  | cons a us ih => exact .cons (h a List.mem_cons_self S Fo) (ih fun v hv => h v (List.mem_cons_of_mem _ hv))
theorem Ea.tup {us : List Val} (h : ∀ v ∈ us, Ea v) {w : Nat} (l : 131 * us.length ≤ w) : Thg S Fo 3 w (.tup us) := g_tup (Ea.all h) l
end
end K05
namespace K05
open PySem PySem.Spec PyProof.Rows L2 G Th AL K37 KL Fr
open K08 (feedL_ feedL_B drawL_ drawL_B fieldL_ fieldL_B)
open K12 (spoiltL_ spoiltL_B spoiltL_n)
open K08 (F8 Sc wAt gaits ws_cut feed_wp field_wp)
open K12 (Thg Thgs F1 F2 g_int g_tup g_lst g_non g_bl g_small g_str MM mm900)
open K09 (Hok)
open K04 (Il spoilF)
section
variable {S T : Sto} {Fo : Nat → Prop} {m n : Nat} {v : Val} {d : PyData}
theorem il_kn {q n w N : Nat} (h : Il S q n w N) (k : Kn S T) : Il T q n w N := by
  obtain ⟨vs, a, b, c⟩ := h.ex
  exact ⟨vs, k _ _ a, b.up fun r xs f z => ⟨f, k _ _ z⟩, c⟩
theorem il_mono {q n w N n' w' N' : Nat} (h : Il S q n w N) (hn : n ≤ n') (hw : w ≤ w') (hN : N ≤ N') : Il S q n' w' N' := by
  obtain ⟨vs, a, b, c⟩ := h.ex
  exact ⟨vs, a, b.mono hn hw, by omega⟩
theorem cat_wp {q r n w N : Nat} {us : List Val} {Q : Val → Sto → Prop} (I : Il S q n w N) (g : S[r]? = some (.lst us)) (hu : ∀ {T q'}, Kn S T → S.length ≤ q' → Thgs T (F2 q') n w us) (l : N + us.length ≤ 100000) (z : ∀ T q', Kn S T → S.length ≤ q' → Il T q' n w (N + us.length) → Q (.ref q') T) : Wp (gAdd (.ref q) (.ref r) S) Q := by
  obtain ⟨vs, a, b, c⟩ := I.ex
  refine vCatL rfl rfl a g (by omega) ?_
  intro T q2 e_q2 l_T g_q2 k_T
  refine z T q2 k_T (by omega) ⟨_, g_q2, ?_, by rw [List.length_append]; omega⟩
  exact Thgs.app (b.up fun r xs f y => ⟨⟨f.1, fun e => by have := lt_of_at y; omega⟩, k_T _ _ y⟩) (hu k_T (by omega))
theorem g_pair {i j : Int} (hi : i.natAbs < 64) (hj : j.natAbs < 64) {w : Nat} (hw : 14 ≤ w) : Thg S Fo 1 w (.tup [.int i, .int j]) := g_tup (n := 0) (w := 6) (.cons (g_small hi (by decide)) (.cons (g_small hj (by decide)) Thgs.nil)) (by simp only [List.length_cons, List.length_nil]; omega)
theorem hs1 {x : Str} (h : ∀ {n w : Nat}, 8 ≤ w → Thg S Fo n w (.str x)) : Thg S Fo 2 60 (.tup [.str x, .tup [.int 1, .int 1], .tup [.int 1, .int 1]]) := g_tup (n := 1) (w := 14) (.cons (h (by decide)) (.cons (g_pair (by decide) (by decide) (by decide)) (.cons (g_pair (by decide) (by decide) (by decide)) Thgs.nil))) (by simp)
end
end K05
namespace K03
open PySem PySem.Spec PyProof.Rows L2 G Th AL K37 KL Fr
open K12 (Thg Thgs F1 F2 g_int g_tup g_lst g_non g_bl g_small g_str MM mm900 mm199 w_int)
open K04 (Il)
open K05 (il_kn il_mono cat_wp g_two g_three)
def sumW (f : Val → Option Nat) : List Val → Option Nat
  | [] => some 0
  | v :: vs => match f v with
    | none => none
    | some a => match sumW f vs with
      | none => none
      | some b => some (a + 1 + b)

def chk : Nat → Val → Option Nat
  | _, .non => some 0
  | _, .bl _ => some 0
  | _, .int i => if i.natAbs ≤ MM then some (Nat.log2 i.natAbs + 1) else none
  | _, .str x => if (PyData.strOk x && decide (x.cps.size ≤ 70)) = true then some x.cps.size else none
  | 0, _ => none
  | n + 1, .tup vs => sumW (chk n) vs
  | _ + 1, _ => none
def lit (n w : Nat) (v : Val) : Bool := match chk n v with
  | some a => decide (a ≤ w)
  | none => false
section
variable {S : Sto} {Fo : Nat → Prop}
theorem sum_t {n : Nat} (ih : ∀ v w, chk n v = some w → Thg S Fo n w v) : ∀ {vs : List Val} {w : Nat}, sumW (chk n) vs = some w → ∃ ds, TlL S Fo MM n vs ds ∧ PyData.weightAll ds ≤ w
  | [], w, h => ⟨[], .nil, by simp [PyData.weightAll]⟩
  | v :: vs, w, h => by
    unfold sumW at h
    split at h
    · cases h
    · next a ea =>
      split at h
      · cases h
      · next b eb =>
        cases h
        obtain ⟨d, t, l⟩ := (ih v a ea).ex
        obtain ⟨ds, ts, ls⟩ := sum_t ih eb
        exact ⟨d :: ds, .cons t ts, by simp only [PyData.weightAll]; omega⟩
theorem chk_t : ∀ (n : Nat) (v : Val) (w : Nat), chk n v = some w → Thg S Fo n w v
  | n, .non, w, h => g_non
  | n, .bl b, w, h => g_bl b
  | n, .int i, w, h => by
    have h : (if i.natAbs ≤ MM then some (Nat.log2 i.natAbs + 1) else none) = some w := by cases n <;> exact h
    split at h
    · next c =>
      cases h
      refine g_int (b := Nat.log2 i.natAbs + 1) ?_ c (Nat.le_refl _)
      exact Nat.lt_log2_self
    · cases h
  | n, .str x, w, h => by
    have h : (if (PyData.strOk x && decide (x.cps.size ≤ 70)) = true then some x.cps.size else none) = some w := by cases n <;> exact h
    split at h
    · next c =>
      cases h
      rw [Bool.and_eq_true, decide_eq_true_eq] at c
      exact ⟨.str x, .str x c.1 c.2, Nat.le_refl _⟩
    · cases h
  | 0, .tup vs, w, h => by cases h
  | n + 1, .tup vs, w, h => by
    obtain ⟨ds, ts, ls⟩ := sum_t (chk_t n) (h : sumW (chk n) vs = some w)
    exact ⟨.tuple ds, .tup ts, ls⟩
  | 0, .ref r, w, h => by cases h
  | n + 1, .ref r, w, h => by cases h
  | 0, .scr ns, w, h => by cases h
  | n + 1, .scr ns, w, h => by cases h
  | 0, .lam .., w, h => by cases h
  | n + 1, .lam .., w, h => by cases h
  | 0, .exc .., w, h => by cases h
  | n + 1, .exc .., w, h => by cases h
  | 0, .ptu vs, w, h => by cases h
  | n + 1, .ptu vs, w, h => by cases h
theorem lit_t {n w : Nat} {v : Val} (h : lit n w v = true) : Thg S Fo n w v := by
  unfold lit at h
  split at h
  · next a e => exact (chk_t n v a e).mono (Nat.le_refl _) (of_decide_eq_true h)
  · cases h
theorem lit_ts {n w : Nat} {vs : List Val} (h : vs.all (lit n w) = true) : Thgs S Fo n w vs := by
  induction vs with
  | nil => exact Thgs.nil
  | cons a vs ih =>
    rw [List.all_cons, Bool.and_eq_true] at h
    exact .cons (lit_t h.1) (ih h.2)

theorem cat_lit {q r n w N : Nat} {us : List Val} {Q : Val → Sto → Prop} (I : Il S q n w N) (g : S[r]? = some (.lst us)) (hu : us.all (lit n w) = true) (l : N + us.length ≤ 100000) (z : ∀ T q', Kn S T → S.length ≤ q' → Il T q' n w (N + us.length) → Q (.ref q') T) : Wp (gAdd (.ref q) (.ref r) S) Q :=
  cat_wp I g (fun _ _ => lit_ts hu) l z
theorem near_parts_wp (h2 : 2 ≤ S.length) : Wp (near_partsL_ [] S) fun v T => ∃ q, v = .ref q ∧ S.length ≤ q ∧ Il T q 2 400 26 ∧ Kn S T := by
  have cp : CPow 10 30 := ⟨by decide, by decide, by decide⟩
  refine AL.wf ?_; simp only [List.map_cons, List.map_nil, List.length_cons, List.length_nil, Nat.reduceAdd, Nat.reduceSub, List.replicate_succ, List.replicate_zero, List.cons_append, List.nil_append]; unfold near_partsL_B; array_get_dec
  intro S1 q1 e_q1 l_S1 g_q1 k_S1
  have I1 : Il S1 q1 2 400 4 := ⟨_, g_q1, lit_ts (by decide +kernel), by simp⟩
  array_get_dec
  intro S2 q2 e_q2 l_S2 g_q2 k_S2
  refine cat_lit (il_kn I1 k_S2) g_q2 (by decide +kernel) (by simp) ?_
  intro S3 q3 k3 l3 I3
  array_get_dec
  intro S4 q4 e_q4 l_S4 g_q4 k_S4
  array_get_dec
  intro S5 q5 e_q5 l_S5 g_q5 k_S5
  refine cat_wp (il_kn I3 (k_S4.trans k_S5)) g_q5 (fun {T q'} k l => .cons (lit_t (by decide +kernel)) (.cons ?_ Thgs.nil)) (by simp) ?_
  · exact g_lst (n := 1) (w := 100) (lit_ts (by decide +kernel)) (by simp) ⟨by have := k3.len; have := k_S1.len; have := k_S2.len; omega, by have := k_S5.len; have := lt_of_at g_q4; omega⟩ (k _ _ (k_S5 _ _ g_q4))
  intro S6 q6 k6 l6 I6
  array_get_dec
  refine vPow rfl rfl ?_ cp
  array_get_dec
  refine vPow rfl rfl ?_ cp
  array_get_dec
  intro S7 q7 e_q7 l_S7 g_q7 k_S7
  refine cat_lit (il_kn I6 k_S7) g_q7 (by decide +kernel) (by simp) ?_
  intro S8 q8 k8 l8 I8
  array_get_dec
  intro S9 q9 e_q9 l_S9 g_q9 k_S9
  refine cat_lit (il_kn I8 k_S9) g_q9 (by decide +kernel) (by simp) ?_
  intro S10 q10 k10 l10 I10
  array_get_dec
  intro S11 q11 e_q11 l_S11 g_q11 k_S11
  refine cat_lit (il_kn I10 k_S11) g_q11 (by decide +kernel) (by simp) ?_
  intro S12 q12 k12 l12 I12
  array_get_dec
  intro S13 q13 e_q13 l_S13 g_q13 k_S13
  refine cat_lit (il_kn I12 k_S13) g_q13 (by decide +kernel) (by simp) ?_
  intro S14 q14 k14 l14 I14
  array_get_dec
  intro S15 q15 e_q15 l_S15 g_q15 k_S15
  refine cat_lit (il_kn I14 k_S15) g_q15 (by decide +kernel) (by simp) ?_
  intro S16 q16 k16 l16 I16
  have kk : Kn S S16 := k_S1.trans (k_S2.trans (k3.trans (k_S4.trans (k_S5.trans (k6.trans (k_S7.trans (k8.trans (k_S9.trans (k10.trans (k_S11.trans (k12.trans (k_S13.trans (k14.trans (k_S15.trans k16))))))))))))))
  exact ⟨q16, rfl, by have := ((k_S1.trans (k_S2.trans (k3.trans (k_S4.trans (k_S5.trans (k6.trans (k_S7.trans (k8.trans (k_S9.trans (k10.trans (k_S11.trans (k12.trans (k_S13.trans (k14.trans k_S15)))))))))))))) : Kn S S15).len; omega, il_mono I16 (Nat.le_refl _) (Nat.le_refl _) (by simp), kk⟩
end
end K03
namespace K03
open PySem PySem.Spec PyProof.Rows L2 G Th AL K37 KL Fr
open K08 (F8 pool8 at_map)
open K12 (Thg Thgs F1 F2 g_int g_tup g_lst g_non g_bl g_small g_str MM mm900 mm199 w_int)
open K09 (t_fr t_nm t_hs t_lk)
open K04 (Il cut_memG cut_len')
open K05 (il_kn il_mono cat_wp g_two g_three)
section
variable {S : Sto} {Fo : Nat → Prop} {fl : Fl}

def El (v : Val) : Prop := ∀ (S : Sto) (Fo : Nat → Prop), Thg S Fo 2 172 v
theorem El.all {us : List Val} (h : ∀ v ∈ us, El v) : Thgs S Fo 2 172 us := by
  induction us with
  | nil => exact Thgs.nil
  | cons a us ih => exact .cons (h a List.mem_cons_self S Fo) (ih fun v hv => h v (List.mem_cons_of_mem _ hv))
theorem el_hs (fo : F8 fl) : ∀ v ∈ fl.hs.map hsV, El v := fun v hv => by
  obtain ⟨h, hm, rfl⟩ := List.mem_map.mp hv
  exact fun S Fo => (t_hs fo hm).mono (Nat.le_refl _) (by decide)
theorem el_ls (fo : F8 fl) : ∀ v ∈ fl.ls.map lkV, El v := fun v hv => by
  obtain ⟨l, hm, rfl⟩ := List.mem_map.mp hv
  exact fun S Fo => t_lk fo hm
theorem t3 {hs ls : List Val} {s : Val} (hh : ∀ v ∈ hs, El v) (hl : ∀ v ∈ ls, El v) (l1 : hs.length ≤ 12) (l2 : ls.length ≤ 17) (h : Thg S Fo 3 8 s) : Thg S Fo 4 5100 (.tup [.tup hs, .tup ls, s]) :=
  g_three (n := 3) (g_tup (n := 2) (w := 172) (w' := 2076) (El.all hh) (by omega)) (g_tup (n := 2) (w := 172) (w' := 2941) (El.all hl) (by omega)) h (by decide)
theorem near_wp (h2 : 2 ≤ S.length) (fo : F8 fl) : Wp (nearL_ [flV fl] S) fun v T => ∃ q, v = .ref q ∧ S.length ≤ q ∧ Il T q 4 5100 24 ∧ Kn S T := by
  have eh := el_hs fo
  have el := el_ls fo
  have lh : (fl.hs.map hsV).length ≤ 6 := by rw [List.length_map]; exact fo.few
  have ll : (fl.ls.map lkV).length ≤ 8 := by rw [List.length_map]; exact fo.lfew
  have sr : ∀ {S : Sto} {Fo : Nat → Prop}, Thg S Fo 3 8 (.str fl.src) := fun {S Fo} => t_nm (fo.sub.mem fo.src) (by decide)
  obtain ⟨ini, own, ei⟩ : ∃ ini own, fl.hs = ini ++ [own] := by
    rcases List.eq_nil_or_concat fl.hs with e | ⟨l, b, e⟩
    · have := fo.ne; rw [e] at this; simp at this
    · exact ⟨l, b, by rw [e, List.concat_eq_append]⟩
  have om : own.name ∈ pool8 := fo.sub.mem (List.mem_map_of_mem (by rw [ei]; simp))
  have at1 : atI (fl.hs.map hsV) (-1) = some (hsV own) := by rw [ei, List.map_append]; exact K13.at_last
  have l1 : ∀ lo hi, (cutL (fl.hs.map hsV) lo hi).length ≤ 6 := fun lo hi => Nat.le_trans cut_len' lh
  have cm : ∀ lo hi, ∀ u ∈ cutL (fl.hs.map hsV) lo hi, El u := fun lo hi u hu => eh u (cut_memG hu)
  refine AL.wf ?_; simp only [List.map_cons, List.map_nil, List.length_cons, List.length_nil, Nat.reduceAdd, Nat.reduceSub, List.replicate_succ, List.replicate_zero, List.cons_append, List.nil_append]; unfold nearL_B; array_get_dec
  refine vIxT rfl rfl at1 ?_
  array_get_dec
  refine vListT (vs := [.tup (fl.hs.map hsV), .tup (fl.ls.map lkV), .str fl.src]) rfl ?_
  intro S1 q1 e_q1 l_S1 g_q1 k_S1
  array_get_dec
  refine vSlA (vs := [.tup (fl.hs.map hsV), .tup (fl.ls.map lkV), .str fl.src]) rfl ?_
  rw [show cutL [Val.tup (fl.hs.map hsV), .tup (fl.ls.map lkV), .str fl.src] none (some 2) = [.tup (fl.hs.map hsV), .tup (fl.ls.map lkV)] from K12.cutN _ 2 (by simp)]
  array_get_dec
  refine vAddT (a := [.tup (fl.hs.map hsV), .tup (fl.ls.map lkV), .str fl.src]) rfl rfl (by simp) ?_
  array_get_dec
  refine vRevT rfl ?_
  array_get_dec
  intro S2 q2 e_q2 l_S2 g_q2 k_S2
  array_get_dec
  refine vSlA rfl ?_
  refine vAddT rfl rfl (by have := l1 (some (-1)) none; omega) ?_
  array_get_dec
  refine vApp rfl g_q2 ?_ (small (by simp))
  intro S3 l_S3 g_S3 k_S3
  have k02 : Kn S S2 := k_S1.trans k_S2
  have k03 : Kn S S3 := K09.kn_put k02 (by omega) k_S3
  have gq1 : S3[q1]? = some (.lst [.tup (fl.hs.map hsV), .tup (fl.ls.map lkV), .str fl.src]) := k_S3 _ _ (by omega) (k_S2 _ _ g_q1)
  have lS3 := k03.len
  have tf : ∀ {S : Sto} {Fo : Nat → Prop}, Thg S Fo 4 5100 (flV fl) := t3 eh el (by omega) (by omega) sr
  have hth : ∀ {S : Sto} {Fo : Nat → Prop} {us : List Val}, (∀ v ∈ us, El v) → us.length ≤ 12 → Thg S Fo 3 2076 (.tup us) := fun h l => g_tup (n := 2) (w := 172) (El.all h) (by omega)
  have I3 : Il S3 q2 4 5100 6 := by
    refine ⟨_, g_S3, ?_, by simp⟩
    refine .cons tf (.cons ?_ (.cons ?_ (.cons ?_ (.cons ?_ (.cons ?_ Thgs.nil)))))
    · obtain ⟨x, a1, a2⟩ := (hth (S := S3) (Fo := F2 q2) eh (by omega)).ex
      obtain ⟨y, b1, b2⟩ := (hth (S := S3) (Fo := F2 q2) el (by omega)).ex
      obtain ⟨z, c1, c2⟩ := (sr (S := S3) (Fo := F2 q2)).ex
      exact ⟨_, .lst (n := 3) ⟨by omega, by omega⟩ gq1 (.cons a1 (.cons b1 (.cons c1 .nil))), by simp only [PyData.weight, PyData.weightAll]; omega⟩
    · exact g_two (n := 3) (hth eh (by omega)) (hth el (by omega)) (by decide)
    · obtain ⟨x, a1, a2⟩ := (hth (S := S3) (Fo := F2 q2) eh (by omega)).ex
      obtain ⟨y, b1, b2⟩ := (hth (S := S3) (Fo := F2 q2) el (by omega)).ex
      obtain ⟨z, c1, c2⟩ := (sr (S := S3) (Fo := F2 q2)).ex
      exact ⟨_, .tup (n := 3) (.cons a1 (.cons b1 (.cons c1 (.cons .non .nil)))), by simp only [PyData.weight, PyData.weightAll]; omega⟩
    · exact t3 (fun v hv => eh v (List.mem_reverse.mp hv)) el (by rw [List.length_reverse]; omega) (by omega) sr
    · refine t3 (fun v hv => ?_) el (by have := l1 (some (-1)) none; rw [List.length_append]; omega) (by omega) sr
      rcases List.mem_append.mp hv with h | h
      · exact eh v h
      · exact cm _ _ v h
  clear g_q1 g_q2 g_S3 k_S1 k_S2 k_S3 k02
  array_get_dec
  refine vAddT rfl rfl (by omega) ?_
  array_get_dec
  refine vRevT rfl ?_
  array_get_dec
  refine vListT rfl ?_
  intro S4 q4 e_q4 l_S4 g_q4 k_S4
  array_get_dec
  intro S5 q5 e_q5 l_S5 g_q5 k_S5
  refine cat_wp (il_kn I3 (k_S4.trans k_S5)) g_q5 (fun {T q'} k l => .cons (t3 eh (fun v hv => (List.mem_append.mp hv).elim (el v) (el v)) (by omega) (by rw [List.length_append]; omega) sr) (.cons (t3 eh (fun v hv => el v (List.mem_reverse.mp hv)) (by omega) (by rw [List.length_reverse]; omega) sr) (.cons ?_ Thgs.nil))) (by simp) ?_
  · have g4 := k _ _ (k_S5 _ _ g_q4)
    have : Thg T (F2 q') 3 2076 (.ref q4) := g_lst (n := 2) (w := 172) (El.all el) (by omega) ⟨by omega, by have := lt_of_at g_q4; have := k_S5.len; omega⟩ g4
    exact g_three (n := 3) (hth eh (by omega)) this sr (by decide)
  intro S6 q6 k6 l6 I6
  array_get_dec
  intro S7 q7 e_q7 l_S7 g_q7 k_S7
  have z1 : ∀ {S : Sto} {Fo : Nat → Prop}, Thg S Fo 3 8 (.str (Str.ofString "zzz")) := g_str (by decide +kernel) (by decide +kernel) (by decide)
  have z2 : ∀ {S : Sto} {Fo : Nat → Prop}, Thg S Fo 3 8 (.str (Str.ofString "")) := g_str (by decide +kernel) (by decide +kernel) (by decide)
  refine cat_wp (il_kn I6 k_S7) g_q7 (fun {T q'} k l => .cons (t3 eh el (by omega) (by omega) z1) (.cons (t3 eh el (by omega) (by omega) z2) (.cons (t3 eh el (by omega) (by omega) g_non) Thgs.nil))) (by simp) ?_
  intro S8 q8 k8 l8 I8
  array_get_dec
  refine vSlA rfl ?_
  array_get_dec
  intro S9 q9 e_q9 l_S9 g_q9 k_S9
  refine cat_wp (il_kn I8 k_S9) g_q9 (fun {T q'} k l => .cons (t3 (cm _ _) el (by have := l1 (some 1) none; omega) (by omega) sr) (.cons (lit_t (by decide +kernel)) Thgs.nil)) (by simp) ?_
  intro S10 q10 k10 l10 I10
  have k010 : Kn S S10 := k03.trans (k_S4.trans (k_S5.trans (k6.trans (k_S7.trans (k8.trans (k_S9.trans k10))))))
  have n10 : S.length ≤ q10 := by
    have k09 : Kn S S9 := k03.trans (k_S4.trans (k_S5.trans (k6.trans (k_S7.trans (k8.trans k_S9)))))
    have := k09.len
    omega
  have I10 : Il S10 q10 4 5100 14 := il_mono I10 (Nat.le_refl _) (Nat.le_refl _) (by simp)
  have up : ∀ {V W : Sto} {k : Nat} (u : Val), Il V q10 4 5100 k → Kn S V → (∀ vs, V[q10]? = some (.lst vs) → W[q10]? = some (.lst (vs ++ [u]))) → Kx q10 V W → (∀ {S : Sto} {Fo : Nat → Prop}, Thg S Fo 4 5100 u) → Il W q10 4 5100 (k + 1) ∧ Kn S W := fun u I kV g kW hu =>
      ⟨I.put kW g (.cons hu Thgs.nil) (by simp), K09.kn_put kV n10 kW⟩
  clear I3 I6 I8 k03 k_S4 k_S5 k6 k_S7 k8 k_S9 k10 g_q4 g_q5 g_q7 g_q9 gq1 l6 l8 l10
  array_get_dec
  refine .inl ⟨_, rfl, ?_⟩
  refine ws_loop (fun i ρ V => (∃ z3 : Option Val, ρ = [some (flV fl), some (hsV own), some (.ref q10), z3, none, some (.tup (fl.hs.map hsV)), some (.tup (fl.ls.map lkV)), some (.str fl.src)]) ∧ Il V q10 4 5100 (14 + i) ∧ Kn S V) ⟨⟨_, rfl⟩, I10, k010⟩ (fun _ _ _ _ _ => trivial) ?_ ?_
  · rintro i v ρ V hv ⟨⟨z3, rfl⟩, I, kV⟩
    obtain ⟨h, hm, rfl⟩ := List.mem_map.mp (List.mem_of_getElem? hv)
    have li : i < 6 := by have := (List.getElem?_eq_some_iff.mp hv).1; omega
    obtain ⟨vs, gq, hvs, lvs⟩ := I.ex
    refine bn rfl ?_
    dsimp only [List.set_cons_zero, List.set_cons_succ]
    array_get_dec
    refine vApp rfl gq ?_ (small (by omega))
    intro W l_W g_W k_W
    obtain ⟨I2, k2⟩ := up _ I kV (fun ws g => by rw [gq] at g; cases g; exact g_W) k_W (t3 eh el (by omega) (by omega) (t_nm (fo.sub.mem (List.mem_map_of_mem hm)) (by decide)))
    exact ⟨⟨_, rfl⟩, I2, k2⟩
  rintro ρ V ⟨⟨z3, rfl⟩, I, kV⟩
  have I : Il V q10 4 5100 20 := il_mono I (Nat.le_refl _) (Nat.le_refl _) (by omega)
  obtain ⟨vs, gq, hvs, lvs⟩ := I.ex
  array_get_dec
  refine vSlA rfl ?_
  array_get_dec
  refine vAddT rfl rfl (by have := l1 none (some (-1)); simp only [List.length_singleton]; omega) ?_
  array_get_dec
  refine vApp rfl gq ?_ (small (by omega))
  intro W l_W g_W k_W
  have on : ∀ {S : Sto} {Fo : Nat → Prop} {n : Nat}, Thg S Fo n 8 (.str own.name) := t_nm om (by decide)
  have pr : ∀ {S : Sto} {Fo : Nat → Prop} {i j : Int}, i.natAbs < 64 → j.natAbs < 64 → Thg S Fo 1 42 (.tup [.int i, .int j]) := fun hi hj => g_tup (n := 0) (w := 6) (.cons (g_small hi (by decide)) (.cons (g_small hj (by decide)) Thgs.nil)) (by simp)
  have eo : El (.tup [.str own.name, .tup [.int 1, .int 2], .tup [.int 1, .int 1]]) := fun S Fo => g_tup (n := 1) (w := 42) (.cons (on.mono (Nat.le_refl _) (by decide)) (.cons (pr (by decide) (by decide)) (.cons (pr (by decide) (by decide)) Thgs.nil))) (by simp)
  obtain ⟨I2, k2⟩ := up _ I kV (fun ws g => by rw [gq] at g; cases g; exact g_W) k_W (t3 (fun v hv => (List.mem_append.mp hv).elim (cm _ _ v) (fun h => by rw [List.mem_singleton.mp h]; exact eo)) el (by have := l1 none (some (-1)); rw [List.length_append]; simp only [List.length_singleton]; omega) (by omega) on)
  array_get_dec
  refine .inl ⟨_, rfl, ?_⟩
  have z3' : ∀ {S : Sto} {Fo : Nat → Prop} {n : Nat}, Thg S Fo n 42 (.str (Str.ofString "zzz")) := g_str (by decide +kernel) (by decide +kernel) (by decide)
  have on2 : ∀ {S : Sto} {Fo : Nat → Prop} {n : Nat}, Thg S Fo n 42 (.str own.name) := on.mono (Nat.le_refl _) (by decide)
  have hL : ∀ v ∈ [Val.tup [.str own.name, .str (Str.ofString "zzz"), .tup [.int 0, .int 1], .non], .tup [.str (Str.ofString "zzz"), .str own.name, .tup [.int 0, .int 1], .non], .tup [.str own.name, .str own.name, .tup [.int 0, .int 1], .non]], El v := fun v hv S Fo => by
    simp only [List.mem_cons, List.not_mem_nil, or_false] at hv
    rcases hv with rfl | rfl | rfl
    · exact g_tup (n := 1) (w := 42) (.cons on2 (.cons z3' (.cons (pr (by decide) (by decide)) (.cons g_non Thgs.nil)))) (by simp)
    · exact g_tup (n := 1) (w := 42) (.cons z3' (.cons on2 (.cons (pr (by decide) (by decide)) (.cons g_non Thgs.nil)))) (by simp)
    · exact g_tup (n := 1) (w := 42) (.cons on2 (.cons on2 (.cons (pr (by decide) (by decide)) (.cons g_non Thgs.nil)))) (by simp)
  refine ws_loop (fun i ρ V => (∃ z4 : Option Val, ρ = [some (flV fl), some (hsV own), some (.ref q10), z3, z4, some (.tup (fl.hs.map hsV)), some (.tup (fl.ls.map lkV)), some (.str fl.src)]) ∧ Il V q10 4 5100 (21 + i) ∧ Kn S V) ⟨⟨_, rfl⟩, I2, k2⟩ (fun _ _ _ _ _ => trivial) ?_ ?_
  · rintro i v ρ V hv ⟨⟨z4, rfl⟩, I, kV⟩
    have ev := hL v (List.mem_of_getElem? hv)
    have li : i < 3 := (List.getElem?_eq_some_iff.mp hv).1
    obtain ⟨vs, gq, hvs, lvs⟩ := I.ex
    refine bn rfl ?_
    dsimp only [List.set_cons_zero, List.set_cons_succ]
    array_get_dec
    refine vAddT rfl rfl (by simp only [List.length_singleton]; omega) ?_
    array_get_dec
    refine vApp rfl gq ?_ (small (by omega))
    intro W l_W g_W k_W
    obtain ⟨I2, k2⟩ := up _ I kV (fun ws g => by rw [gq] at g; cases g; exact g_W) k_W (t3 eh (fun u hu => (List.mem_append.mp hu).elim (el u) (fun h => by rw [List.mem_singleton.mp h]; exact ev)) (by omega) (by rw [List.length_append]; simp only [List.length_singleton]; omega) sr)
    exact ⟨⟨_, rfl⟩, I2, k2⟩
  rintro ρ V ⟨⟨z4, rfl⟩, I, kV⟩
  array_get_dec
  exact ⟨q10, rfl, n10, I, kV⟩
end
end K03
namespace K03
open PySem PySem.Spec PyProof.Rows L2 G Th AL K37 KL Fr
open K08 (feedL_ feedL_B drawL_ drawL_B fieldL_ fieldL_B)
open K12 (spoiltL_ spoiltL_B spoiltL_n)
open K08 (F8 ws_cut feed_wp)
open K12 (Thg Thgs F1 F2 g_int g_tup g_lst g_non g_bl g_small g_str MM mm900)
open K09 (is_house_ is_house_B is_link_ is_link_B is_field_ is_field_B isHo isLi isFi house_wp link_wp)
open K05 (is_houseL_ is_linkL_ is_fieldL_ houseL_wp linkL_wp fieldL_wp il_kn il_mono cat_wp g_two g_three)
open K04 (Il spoilF cut_memG cut_len')
section
variable {S : Sto} {Fo : Nat → Prop}
abbrev ltr : Str := "abcdefghij"
def lt1 (j : Int) : Str := ⟨#[97 + j.toNat]⟩
theorem vLet {Q : Val → Sto → Prop} {j : Int} (j0 : 0 ≤ j) (j1 : j < 10) (q : Q (.str (lt1 j)) S) : Wp (gIxA (.str ltr) (.int j) S) Q := by
  have hl : ltr.length ≤ sizeLine := small (by decide +kernel)
  have ev : ltr.cps.toList = [97, 98, 99, 100, 101, 102, 103, 104, 105, 106] := by decide +kernel
  have e : ∀ k : Nat, k < 10 → atI ltr.cps.toList (k : Int) = some (97 + k) := by rw [ev]; decide
  obtain ⟨k, rfl⟩ := Int.eq_ofNat_of_zero_le j0
  refine ⟨_, S, ?_, q⟩
  show (if ltr.length ≤ sizeLine then (atI ltr.cps.toList (k : Int)).map fun c => (Val.str ⟨#[c]⟩, S) else none) = _
  rw [if_pos hl, e k (by omega)]
  rfl
theorem vAddTs {Q : Val → Sto → Prop} {a b : Str} (l : a.cps.size + b.cps.size < 1000) (q : Q (.str (a ++ b)) S) : Wp (gAddT (.str a) (.str b) S) Q := by
  refine ⟨_, S, ?_, q⟩
  show (if a.cps.size + b.cps.size ≤ sizeLine then _ else _) = _
  rw [if_pos (Nat.le_of_lt (small (by omega)))]
def nm2 (i : Int) : Str := lt1 (i / 10) ++ lt1 (i.fmod 10)
def hE : Val → Val
  | .int i => .tup [.str (nm2 i), .tup [.int 1, .int 1], .tup [.int 1, .int 1]]
  | _ => .non
def lE : Val → Val
  | .int i => .tup [.str (Str.ofString "aa"), .str (nm2 i), .tup [.int 0, .int 1], .non]
  | _ => .non
theorem M_get {k : Nat} (h : k < 100) : (((rangeV 0 (Int.toNat 100)).filter fun _ => true).map hE)[k]? = some (.tup [.str (nm2 (k : Int)), .tup [.int 1, .int 1], .tup [.int 1, .int 1]]) := by
  rw [List.filter_eq_self.mpr (fun _ _ => rfl)]
  unfold rangeV
  rw [List.getElem?_map, List.getElem?_map, List.getElem?_range (by exact h)]
  rw [Option.map_some, Option.map_some, Int.zero_add]
  rfl
theorem hE_lit : ∀ j : Nat, j < 100 → lit 2 40 (hE (.int (0 + (j : Int)))) = true := by decide +kernel
theorem lE_lit : ∀ j : Nat, j < 99 → lit 2 40 (lE (.int (1 + (j : Int)))) = true := by decide +kernel
end
theorem law_true (ns : List Int) (h : ns.length ≤ 63) : ∃ S', law_ [.scr ns] [] = some (.bl true, S') := by
  suffices z : Wp (law_ [.scr ns] []) fun v _ => v = .bl true by
    obtain ⟨v, S', e, rfl⟩ := z
    exact ⟨S', e⟩
  have h37 : (2 : Int) ^ 37 = 137438953472 := by decide
  have h40 := p40
  have h60 := p60
  have cp : CPow 10 30 := ⟨by decide, by decide, by decide⟩
  refine AL.wf ?_; simp only [List.map_cons, List.map_nil, List.length_cons, List.length_nil, Nat.reduceAdd, Nat.reduceSub, List.replicate_succ, List.replicate_zero, List.cons_append, List.nil_append]; unfold law_B; array_get_dec
  refine (feed_wp ns h).imp ?_
  rintro _ S0 ⟨rfl, t0⟩
  array_get_dec
  refine (K08.field_wp t0 (by omega)).imp ?_
  rintro _ S1 ⟨fl, rfl, fo, t1, _⟩
  array_get_dec
  refine ⟨_, rfl, ?_, by decide, by decide⟩
  refine lc_pure (fun _ => true) hE trivial (by rw [rangeV_len]; decide) (fun v hv => ?_) ?_
  · obtain ⟨j, hj, rfl⟩ := K04.mem_rng hv
    have hj : j < 100 := hj
    refine bn rfl ?_
    array_get_dec
    refine ⟨rfl, rfl, fun _ => ?_⟩
    array_get_dec
    rotate_left
    · exact K08.wd (by decide) (by decide)
    refine vLet (by omega) (by omega) ?_
    array_get_dec
    rotate_left
    · decide
    refine vLet (by rw [Int.fmod_eq_emod_of_nonneg _ (by decide)]; omega) (by rw [Int.fmod_eq_emod_of_nonneg _ (by decide)]; omega) ?_
    refine vAddTs (by show 1 + 1 < 1000; decide) ?_
    array_get_dec
    exact ⟨rfl, rfl⟩
  have mg := fun {k : Nat} (h : k < 100) => M_get h
  have hM : ∀ v ∈ ((rangeV 0 (Int.toNat 100)).filter fun _ => true).map hE, lit 2 40 v = true := fun v hv => by
    obtain ⟨u, hu, rfl⟩ := List.mem_map.mp hv
    obtain ⟨j, hj, rfl⟩ := K04.mem_rng (List.mem_filter.mp hu).1
    exact hE_lit j hj
  have lM : (((rangeV 0 (Int.toNat 100)).filter fun _ => true).map hE).length = 100 := K04.len_rng
  generalize ((rangeV 0 (Int.toNat 100)).filter fun _ => true).map hE = M at hM lM mg
  intro S2 r2 e_r2 l_S2 g_r2 k_S2
  array_get_dec
  refine ⟨_, _, rfl, ?_, by decide, by decide, by decide, by decide⟩
  refine lc_pure (fun _ => true) lE trivial (by rw [rangeV_len]; decide) (fun v hv => ?_) ?_
  · obtain ⟨j, hj, rfl⟩ := K04.mem_rng hv
    have hj : j < 99 := hj
    refine bn rfl ?_
    array_get_dec
    refine ⟨rfl, rfl, fun _ => ?_⟩
    array_get_dec
    have ej : (1 : Int) + (j : Int) = ((1 + j : Nat) : Int) := by omega
    rw [ej]
    refine vIxT rfl rfl (atI_nat (mg (by omega))) ?_
    array_get_dec
    exact ⟨rfl, rfl⟩
  have hL : ∀ v ∈ ((rangeV 1 (Int.toNat (100 - 1))).filter fun _ => true).map lE, lit 2 40 v = true := fun v hv => by
    obtain ⟨u, hu, rfl⟩ := List.mem_map.mp hv
    obtain ⟨j, hj, rfl⟩ := K04.mem_rng (List.mem_filter.mp hu).1
    exact lE_lit j hj
  have lL : (((rangeV 1 (Int.toNat (100 - 1))).filter fun _ => true).map lE).length = 99 := K04.len_rng
  generalize ((rangeV 1 (Int.toNat (100 - 1))).filter fun _ => true).map lE = L at hL lL
  intro S3 r3 e_r3 l_S3 g_r3 k_S3
  array_get_dec
  intro S4 r4 e_r4 l_S4 g_r4 k_S4
  array_get_dec
  refine vPow rfl rfl ?_ cp
  array_get_dec
  intro S5 q4 e_q4 l_S5 g_q4 k_S5
  array_get_dec
  have two := t1.two
  have t5 : Tp S5 100 := ((((t1.fr k_S2).fr k_S3).fr k_S4).fr k_S5).mono (by omega)
  refine (near_parts_wp (by omega)).imp ?_
  rintro _ S6 ⟨qp, rfl, hqp, Ip, k6⟩
  array_get_dec
  refine (near_wp (by have := k6.len; omega) fo).imp ?_
  rintro _ S7 ⟨qn, rfl, hqn, In, k7⟩
  array_get_dec
  have k57 := k6.trans k7
  have s5 := k57.len
  have gM7 := k57 _ _ g_q4
  have g47 : S7[r4]? = some (.lst []) := k57 _ _ (k_S5 _ _ g_r4)
  have e3 : r4 ≠ 1 := by omega
  have r42 : 2 ≤ r4 := by omega
  have e4 : q4 ≠ 1 := by omega
  have lq4 : q4 < S7.length := lt_of_at gM7
  have lr4 : r4 < S5.length := lt_of_at (k_S5 _ _ g_r4)
  have t7 := t5.fr k57
  have hms : ∀ {T : Sto} {Fo : Nat → Prop}, Fo r4 → T[r4]? = some (.lst []) → Thgs T Fo 1 110 [Val.non, Val.bl true, Val.int 0, Val.int 1, Val.str (Str.ofString ""), Val.str (Str.ofString "a"), Val.str (Str.ofString "zz"), Val.tup [], Val.ref r4, Val.tup [Val.int 0, Val.int 1], Val.tup [Val.int 1, Val.int 1], Val.tup [Val.int 1, Val.int 2], Val.int (10 ^ Int.toNat 30)] := fun f g =>
    .app (vs := [Val.non, Val.bl true, Val.int 0, Val.int 1, Val.str (Str.ofString ""), Val.str (Str.ofString "a"), Val.str (Str.ofString "zz"), Val.tup []]) (lit_ts (by decide +kernel)) (.cons (g_lst (n := 0) (w := 0) Thgs.nil (by simp) f g) (lit_ts (by decide +kernel)))
  have lms : [Val.non, Val.bl true, Val.int 0, Val.int 1, Val.str (Str.ofString ""), Val.str (Str.ofString "a"), Val.str (Str.ofString "zz"), Val.tup [], Val.ref r4, Val.tup [Val.int 0, Val.int 1], Val.tup [Val.int 1, Val.int 1], Val.tup [Val.int 1, Val.int 2], Val.int (10 ^ Int.toNat 30)].length = 13 := rfl
  generalize [Val.non, Val.bl true, Val.int 0, Val.int 1, Val.str (Str.ofString ""), Val.str (Str.ofString "a"), Val.str (Str.ofString "zz"), Val.tup [], Val.ref r4, Val.tup [Val.int 0, Val.int 1], Val.tup [Val.int 1, Val.int 1], Val.tup [Val.int 1, Val.int 2], Val.int (10 ^ Int.toNat 30)] = mvs at gM7 hms lms
  have litM : ∀ {S : Sto} {Fo : Nat → Prop} {us : List Val} {N : Nat}, (∀ v ∈ us, lit 2 40 v = true) → us.length ≤ N → Thg S Fo 3 (41 * N) (.tup us) := fun h l => g_tup (n := 2) (w := 40) (lit_ts (List.all_eq_true.mpr h)) (Nat.mul_le_mul_left 41 l)
  have jj : ∀ {S : Sto} {Fo : Nat → Prop}, Thg S Fo 3 8 (.str (Str.ofString "jj")) := lit_t (by decide +kernel)
  clear k_S2 k_S3 k_S4 k_S5 g_r2 g_r3 g_r4 t5 t1 t0
  obtain ⟨us, gus, hus, lus⟩ := (il_mono In (n' := 7) (w' := 26000) (by decide) (by decide) (Nat.le_refl _)).ex
  show Wp (gAdd (.ref qp) (.ref qn) S7) _
  refine cat_wp (il_mono (il_kn Ip k7) (n' := 7) (w' := 26000) (by decide) (by decide) (Nat.le_refl _)) gus (fun k l => hus.up fun r xs f z => ⟨⟨f.1, fun e => by have := lt_of_at z; omega⟩, k _ _ z⟩) (by omega) ?_
  intro S8 q8 k8 l8 I8
  have I8 : Il S8 q8 7 26000 50 := il_mono I8 (Nat.le_refl _) (Nat.le_refl _) (by omega)
  array_get_dec
  refine vSlA rfl ?_
  array_get_dec
  refine vRevTo (k := 3) rfl (by omega) ?_
  have c3 : (cutL M none (some (-2))).length ≤ 100 := Nat.le_trans cut_len' (by omega)
  refine vAddT rfl rfl (by rw [List.length_take, List.length_reverse]; omega) ?_
  array_get_dec
  intro S9 q9 e_q9 l_S9 g_q9 k_S9
  refine cat_wp (il_kn I8 k_S9) g_q9 (fun k l => .cons ?_ (.cons ?_ Thgs.nil)) (by simp) ?_
  · exact (g_three (n := 3) (litM (N := 100) hM (by omega)) (litM (N := 99) hL (by omega)) jj (w := 8200) (by decide)).mono (by decide) (by decide)
  · exact (g_three (n := 3) (litM (N := 110) (fun v hv => (List.mem_append.mp hv).elim (fun h => hM v (cut_memG h)) (fun h => hM v (List.mem_reverse.mp (List.mem_of_mem_take h)))) (by rw [List.length_append, List.length_take, List.length_reverse]; omega)) (litM (N := 0) (us := []) (by simp) (by simp)) jj (w := 8200) (by decide)).mono (by decide) (by decide)
  intro S10 q10 k10 l10 I10
  have I10 : Il S10 q10 7 26000 52 := il_mono I10 (Nat.le_refl _) (Nat.le_refl _) (by simp)
  array_get_dec
  have lh : (fl.hs.map hsV).length ≤ 6 := by rw [List.length_map]; exact fo.few
  have ll : (fl.ls.map lkV).length ≤ 8 := by rw [List.length_map]; exact fo.lfew
  refine vAddT rfl rfl (by omega) ?_
  array_get_dec
  refine vListT rfl ?_
  intro S11 r11 e_r11 l_S11 g_r11 k_S11
  show Wp (gAdd (.ref q10) (.ref r11) S11) _
  have el : ∀ v ∈ fl.hs.map hsV ++ fl.ls.map lkV, El v := fun v hv => (List.mem_append.mp hv).elim (el_hs fo v) (el_ls fo v)
  refine cat_wp (il_kn I10 k_S11) g_r11 (fun k l => (El.all el).mono (by decide) (by decide)) (by rw [List.length_append]; omega) ?_
  intro S12 q12 k12 l12 I12
  have k712 : Kn S7 S12 := k8.trans (k_S9.trans (k10.trans (k_S11.trans k12)))
  have e12 : r4 < q12 := by
    have := (k8.trans (k_S9.trans (k10.trans k_S11)) : Kn S7 S11).len
    omega
  have I12 : Il S12 q12 7 26000 66 := il_mono I12 (Nat.le_refl _) (Nat.le_refl _) (by rw [List.length_append]; omega)
  have gM := k712 _ _ gM7
  have g4 := k712 _ _ g47
  have t12 := t7.fr k712
  clear gM7 g47 t7 k712 I10 I8 Ip In k8 k_S9 k10 k_S11 k12 g_q9 g_r11 hus gus k6 k7 k57 g_q4 l8 l10 l12
  array_get_dec
  refine ⟨_, rfl, ?_, by decide, by decide⟩
  have th := fun {S : Sto} {Fo : Nat → Prop} => K05.t_fl (S := S) (Fo := Fo) fo
  refine ws_loop (fun i ρ V => ∃ q z8 z9 z10 z11 z12 z13 z14, ρ = [some (.scr ns), some (.ref 1), some (flV fl), some (.str (Str.ofString "abcdefghij")), some (.tup M), some (.tup [.tup M, .tup L, .str (Str.ofString "jj")]), some (.ref q4), some (.ref q), z8, z9, z10, z11, z12, z13, z14] ∧ r4 < q ∧ Il V q 7 26000 (66 + 2 * i) ∧ V[r4]? = some (.lst []) ∧ V[q4]? = some (.lst mvs) ∧ Tp V (200 + 100 * (i : Nat))) ⟨q12, _, _, _, _, _, _, _, rfl, e12, I12, g4, gM, t12.mono (by omega)⟩ (fun _ _ _ _ _ => trivial) ?_ ?_
  · rintro i v ρ U hv ⟨q, z8, z9, z10, z11, z12, z13, z14, rfl, hq, I, g4, gM, tu⟩
    obtain ⟨rfl, hi⟩ := rangeV_get hv
    have hi : i < 8 := hi
    refine bn rfl ?_
    dsimp only [List.set_cons_zero, List.set_cons_succ]
    array_get_dec
    have two := tu.two
    have ql := I.lt
    refine (spoilF (Fo := F2 q) tu (fun r hr => ⟨by omega, by omega⟩) (fun r f => f.1) e4 gM (hms ⟨e3, ?_⟩ g4) (by omega) (by omega) th (by decide) (by decide) (by omega)).imp ?_
    · omega
    rintro x U1 ⟨hx, tu1, k1⟩
    have g41 := k1 _ _ e3 g4
    have gM1 := k1 _ _ e4 gM
    have I1 := I.kx (by omega) k1
    have ql1 := I1.lt
    have two1 := tu1.two
    array_get_dec
    refine (spoilF (Fo := F2 q) tu1 (fun r hr => ⟨by omega, by omega⟩) (fun r f => f.1) e4 gM1 (hms ⟨e3, ?_⟩ g41) (by omega) (by omega) hx (by decide) (by decide) (by omega)).imp ?_
    · omega
    rintro y U2 ⟨hy, tu2, k2⟩
    have g42 := k2 _ _ e3 g41
    have gM2 := k2 _ _ e4 gM1
    have I2 := I1.kx (by omega) k2
    have hx2 := hx.up (T := U2) (Fo' := F2 q) fun r us f z => ⟨f, k2 _ _ f.1 z⟩
    array_get_dec
    intro U3 r3 e_r3 l_U3 g_r3 k_U3
    refine cat_wp (il_kn I2 k_U3) g_r3 (fun {T q'} k l => ?_) (by simp only [List.length_cons, List.length_nil]; omega) ?_
    · have up : ∀ r (us : List Val), F2 q r → U2[r]? = some (.lst us) → F2 q' r ∧ T[r]? = some (.lst us) := fun r us f z => ⟨⟨f.1, fun e => by have := lt_of_at z; omega⟩, k _ _ (k_U3 _ _ z)⟩
      exact .cons ((hx2.up up).mono (by decide) (by decide)) (.cons ((hy.up up).mono (by decide) (by decide)) Thgs.nil)
    intro U4 q5 k4 l4 I4
    have k34 := k_U3.trans k4
    refine bn rfl ?_
    exact ⟨q5, _, _, _, _, _, _, _, rfl, by have := lt_of_at g42; have := k_U3.len; omega, I4, k34 _ _ g42, k34 _ _ gM2, (tu2.fr k34).mono (by push_cast; omega)⟩
  clear gM g4 t12 I12
  rintro ρ U ⟨q, z8, z9, z10, z11, z12, z13, z14, rfl, hq, I, g4, gM, tu⟩
  have I : Il U q 7 26000 82 := I
  have tu : Tp U 1000 := tu
  array_get_dec
  refine vSlA rfl ?_
  array_get_dec
  refine vSlA rfl ?_
  have lc1 : (cutL (fl.hs.map hsV) none (some 2)).length ≤ 6 := Nat.le_trans cut_len' lh
  have lc2 : (cutL (fl.ls.map lkV) none (some 2)).length ≤ 8 := Nat.le_trans cut_len' ll
  refine vAddT rfl rfl (by omega) ?_
  array_get_dec
  refine vListT rfl ?_
  have ep : ∀ v ∈ cutL (fl.hs.map hsV) none (some 2) ++ cutL (fl.ls.map lkV) none (some 2), El v := fun v hv => (List.mem_append.mp hv).elim (fun h => el_hs fo v (cut_memG h)) (fun h => el_ls fo v (cut_memG h))
  have lp : (cutL (fl.hs.map hsV) none (some 2) ++ cutL (fl.ls.map lkV) none (some 2)).length ≤ 14 := by rw [List.length_append]; omega
  generalize cutL (fl.hs.map hsV) none (some 2) ++ cutL (fl.ls.map lkV) none (some 2) = ps at ep lp
  intro U0 rp e_rp l_U0 g_rp k_U0
  have two := tu.two
  have e5 : rp ≠ 1 := by omega
  array_get_dec
  refine .inr ⟨_, _, rfl, g_rp, ?_⟩
  refine ws_loop (fun i ρ V => ∃ q z8 z9 z10 z11 z12 z13 z14, ρ = [some (.scr ns), some (.ref 1), some (flV fl), some (.str (Str.ofString "abcdefghij")), some (.tup M), some (.tup [.tup M, .tup L, .str (Str.ofString "jj")]), some (.ref q4), some (.ref q), z8, z9, z10, z11, z12, z13, z14] ∧ r4 < q ∧ Il V q 7 26000 (82 + 4 * i) ∧ V[r4]? = some (.lst []) ∧ V[q4]? = some (.lst mvs) ∧ Tp V (1000 + 400 * (i : Nat)) ∧ V[rp]? = some (.lst ps)) ⟨q, _, _, _, _, _, _, _, rfl, hq, il_kn I k_U0, k_U0 _ _ g4, k_U0 _ _ gM, (tu.fr k_U0).mono (by omega), g_rp⟩ (fun i ρ V _ ⟨_, _, _, _, _, _, _, _, _, _, _, _, _, _, z⟩ => z) ?_ ?_
  · clear I g4 gM tu hq
    rintro i v ρ U hv ⟨q, z8, z9, z10, z11, z12, z13, z14, rfl, hq, I, g4, gM, tu, gp⟩
    have ev := ep v (List.mem_of_getElem? hv)
    have li := (List.getElem?_eq_some_iff.mp hv).1
    refine bn rfl ?_
    dsimp only [List.set_cons_zero, List.set_cons_succ]
    array_get_dec
    refine ⟨_, rfl, ?_, by decide, by decide⟩
    refine lc_inv (fun j a V => a.length = j ∧ Il V q 7 26000 (82 + 4 * i) ∧ V[r4]? = some (.lst []) ∧ V[q4]? = some (.lst mvs) ∧ Tp V (1000 + 400 * (i : Nat) + 50 * (j : Nat)) ∧ V[rp]? = some (.lst ps) ∧ Thgs V (F2 q) 7 26000 a) (by rw [rangeV_len]; decide) ⟨rfl, I, g4, gM, tu.mono (by omega), gp, Thgs.nil⟩ (fun _ _ _ _ _ => trivial) (fun i a V h => by have := h.1; omega) ?_ ?_
    · clear I g4 gM tu gp
      rintro j w a V hw ⟨la, I, g4, gM, tu, gp, ha⟩
      obtain ⟨rfl, hj⟩ := rangeV_get hw
      have hj : j < 4 := hj
      refine bn rfl ?_
      array_get_dec
      have two := tu.two
      have ql := I.lt
      refine (spoilF (Fo := F2 q) tu (fun r hr => ⟨by omega, by omega⟩) (fun r f => f.1) e4 gM (hms ⟨e3, ?_⟩ g4) (by omega) (by omega) (ev V (F2 q)) (by decide) (by decide) (by omega)).imp ?_
      · omega
      rintro x V1 ⟨hx, tu1, k1⟩
      exact ⟨by rw [List.length_append, la]; rfl, I.kx (by omega) k1, k1 _ _ e3 g4, k1 _ _ e4 gM, tu1.mono (by push_cast; omega), k1 _ _ e5 gp, (ha.up fun r us f z => ⟨f, k1 _ _ f.1 z⟩).app (.cons (hx.mono (by decide) (by decide)) Thgs.nil)⟩
    clear I g4 gM tu gp
    rintro a V ⟨la, I, g4, gM, tu, gp, ha⟩
    rw [rangeV_len] at la tu
    have la : a.length = 4 := la
    intro V1 r1 e_r1 l_V1 g_r1 k_V1
    show Wp (gAdd (.ref q) (.ref r1) V1) _
    refine cat_wp (il_kn I k_V1) g_r1 (fun {T q'} k l => ha.up fun r us f z => ⟨⟨f.1, fun e => by have := lt_of_at z; omega⟩, k _ _ (k_V1 _ _ z)⟩) (by omega) ?_
    intro V2 q2 k2 l2 I2
    rw [la] at I2
    have k12 := k_V1.trans k2
    refine bn rfl ?_
    exact ⟨q2, _, _, _, _, _, _, _, rfl, by have := lt_of_at g4; have := k_V1.len; omega, I2, k12 _ _ g4, k12 _ _ gM, (tu.fr k12).mono (by push_cast; omega), k12 _ _ gp⟩
  clear I g4 gM tu hq g_rp k_U0
  rintro ρ U ⟨q, z8, z9, z10, z11, z12, z13, z14, rfl, hq, I, g4, gM, tu, _⟩
  have I : Il U q 7 26000 138 := il_mono I (Nat.le_refl _) (Nat.le_refl _) (by omega)
  array_get_dec
  show Wp (gAdd (.ref q) (.ref q4) U) _
  have lr := lt_of_at g4
  refine cat_wp I gM (fun {T q'} k l => (hms ⟨e3, fun e => by omega⟩ (k _ _ g4)).mono (by decide) (by decide)) (by omega) ?_
  clear I g4 gM tu hq
  intro U q5 k5 l5 I
  obtain ⟨vs, gq, hvs, lvs⟩ := I.ex
  array_get_dec
  refine .inr ⟨_, _, rfl, gq, ?_⟩
  refine ws_loop (fun i ρ W => (∃ z10 z12 z13 z14, ρ = [some (.scr ns), some (.ref 1), some (flV fl), some (.str (Str.ofString "abcdefghij")), some (.tup M), some (.tup [.tup M, .tup L, .str (Str.ofString "jj")]), some (.ref q4), some (.ref q), z8, z9, z10, z11, z12, z13, z14]) ∧ Kn U W) ⟨⟨_, _, _, _, rfl⟩, Kn.refl _⟩ (fun i ρ W _ z => z.2 _ _ gq) ?_ ?_
  · rintro j v ρ W hv ⟨⟨z10, z12, z13, z14, rfl⟩, kW⟩
    obtain ⟨d, hd, wd⟩ := (hvs.get hv).ex
    have tl : ∀ {V : Sto}, Kn U V → Tl V (F2 q5) MM 7 v d := fun k => hd.up (Nat.le_refl _) (fun r us f z => ⟨f, k _ _ z⟩) _ (Nat.le_refl _)
    have rp : ∀ {V : Sto}, Kn U V → gRepr [v] V = some (.str d.shown, V) := fun k => (tl k).repr mm900 (by decide) (by omega)
    have rb : ∀ {V : Sto} {r : Nat}, V[r]? = some (.lst [.bl (isHo v), .bl (isLi v), .bl (isFi v)]) → gRepr [.ref r] V = some (.str (PyData.list [.bool (isHo v), .bool (isLi v), .bool (isFi v)]).shown, V) := fun {V r} g => (Tl.lst (S := V) (Fo := fun _ => True) (m := MM) (n := 0) trivial g (.cons (.bl _) (.cons (.bl _) (.cons (.bl _) .nil)))).repr mm900 (by decide) (by simp only [PyData.weight, PyData.weightAll]; omega)
    refine bn rfl ?_
    dsimp only [List.set_cons_zero, List.set_cons_succ]
    array_get_dec
    refine Wp.of (rp kW) ?_
    array_get_dec
    refine (house_wp (tl kW)).imp ?_
    rintro _ W1 ⟨rfl, k1⟩
    have kW1 := kW.trans k1
    array_get_dec
    refine (link_wp (tl kW1)).imp ?_
    rintro _ W2 ⟨rfl, k2⟩
    have kW2 := kW1.trans k2
    array_get_dec
    refine (K09.field_wp (tl kW2) (by decide) (by omega)).imp ?_
    rintro _ W3 ⟨rfl, k3⟩
    have kW3 := kW2.trans k3
    array_get_dec
    intro W4 r4 e_r4 l_W4 g_r4 k_W4
    have kW4 := kW3.trans k_W4
    array_get_dec
    refine (houseL_wp (tl kW4) (by decide) (by omega)).imp ?_
    rintro _ W5 ⟨rfl, k5⟩
    have kW5 := kW4.trans k5
    array_get_dec
    refine (linkL_wp (tl kW5) (by decide) (by omega)).imp ?_
    rintro _ W6 ⟨rfl, k6⟩
    have kW6 := kW5.trans k6
    array_get_dec
    refine (fieldL_wp (tl kW6) (by decide) (by omega)).imp ?_
    rintro _ W7 ⟨rfl, k7⟩
    have kW7 := kW6.trans k7
    array_get_dec
    intro W8 r8 e_r8 l_W8 g_r8 k_W8
    have kW8 := kW7.trans k_W8
    array_get_dec
    refine Wp.of (rb (k_W8 _ _ (k7 _ _ (k6 _ _ (k5 _ _ g_r4))))) ?_
    array_get_dec
    refine Wp.of (rb g_r8) ?_
    array_get_dec
    refine brF (by simp) ?_
    array_get_dec
    refine Wp.of (rp kW8) ?_
    array_get_dec
    refine brF (by simp) ?_
    exact ⟨⟨_, _, _, _, rfl⟩, kW8⟩
  · rintro ρ W ⟨⟨z10, z12, z13, z14, rfl⟩, kW⟩
    array_get_dec
    rfl
end K03
namespace K03
open PySem PySem.Spec PyProof.Rows L2 G Th AL
open K37 (common_divisor_ common_divisor_B is_below_ is_below_B)
open K08 (feedL_ feedL_B drawL_ drawL_B divisorL_ divisorL_B madeL_ madeL_B fieldL_ fieldL_B)
open K13 (is_numberL_ is_numberL_B)
open K14 (is_number_ is_number_B)
open K12 (spoiltL_ spoiltL_B spoiltL_n)
open K07 (is_fraction_ is_fraction_B is_fractionL_ is_fractionL_B)
open K09 (is_word_ is_word_B rises_ rises_B is_house_ is_house_B is_link_ is_link_B are_houses_ are_houses_B are_links_ are_links_B is_field_ is_field_B)
open K04 (is_wordL_ is_wordL_B)
open K05 (is_houseL_ is_houseL_B is_linkL_ is_linkL_B is_fieldL_ is_fieldL_B)
theorem all_mk {l : PySem.W.OpenLaw} {w : World} {K : PySem.W.Frag} {h : Heap} {mg : Str → Option Value} {fa : Addr} (X : K.In h) (G : h.Ns mainGlobals mg) (hfa : mg "law" = some (.ref fa))
    {o0 : Value} {od0 an0 : Option Addr} {sl0 : Array (Option Value)} {kV0 dc0 pm0 cd0 ct0 : Value} {f0 : Addr} {o1 : Value} {od1 an1 : Option Addr} {sl1 : Array (Option Value)} {kV1 dc1 pm1 cd1 ct1 : Value} {f1 : Addr} {o2 : Value} {od2 an2 : Option Addr} {sl2 : Array (Option Value)} {kV2 dc2 pm2 cd2 ct2 : Value} {f2 : Addr} {o3 : Value} {od3 an3 : Option Addr} {sl3 : Array (Option Value)} {kV3 dc3 pm3 cd3 ct3 : Value} {f3 : Addr} {o4 : Value} {od4 an4 : Option Addr} {sl4 : Array (Option Value)} {kV4 dc4 pm4 cd4 ct4 : Value} {f4 : Addr} {o5 : Value} {od5 an5 : Option Addr} {sl5 : Array (Option Value)} {kV5 dc5 pm5 cd5 ct5 : Value} {f5 : Addr} {o6 : Value} {od6 an6 : Option Addr} {sl6 : Array (Option Value)} {kV6 dc6 pm6 cd6 ct6 : Value} {f6 : Addr} {o7 : Value} {od7 an7 : Option Addr} {sl7 : Array (Option Value)} {kV7 dc7 pm7 cd7 ct7 : Value} {f7 : Addr} {o8 : Value} {od8 an8 : Option Addr} {sl8 : Array (Option Value)} {kV8 dc8 pm8 cd8 ct8 : Value} {f8 : Addr} {o9 : Value} {od9 an9 : Option Addr} {sl9 : Array (Option Value)} {kV9 dc9 pm9 cd9 ct9 : Value} {f9 : Addr} {o10 : Value} {od10 an10 : Option Addr} {sl10 : Array (Option Value)} {kV10 dc10 pm10 cd10 ct10 : Value} {f10 : Addr} {o11 : Value} {od11 an11 : Option Addr} {sl11 : Array (Option Value)} {kV11 dc11 pm11 cd11 ct11 : Value} {f11 : Addr} {o12 : Value} {od12 an12 : Option Addr} {sl12 : Array (Option Value)} {kV12 dc12 pm12 cd12 ct12 : Value} {f12 : Addr} {o13 : Value} {od13 an13 : Option Addr} {sl13 : Array (Option Value)} {kV13 dc13 pm13 cd13 ct13 : Value} {f13 : Addr} {o14 : Value} {od14 an14 : Option Addr} {sl14 : Array (Option Value)} {kV14 dc14 pm14 cd14 ct14 : Value} {f14 : Addr} {o15 : Value} {od15 an15 : Option Addr} {sl15 : Array (Option Value)} {kV15 dc15 pm15 cd15 ct15 : Value} {f15 : Addr} {o16 : Value} {od16 an16 : Option Addr} {sl16 : Array (Option Value)} {kV16 dc16 pm16 cd16 ct16 : Value} {f16 : Addr} {o17 : Value} {od17 an17 : Option Addr} {sl17 : Array (Option Value)} {kV17 dc17 pm17 cd17 ct17 : Value} {f17 : Addr} {o18 : Value} {od18 an18 : Option Addr} {sl18 : Array (Option Value)} {kV18 dc18 pm18 cd18 ct18 : Value} {f18 : Addr} {o19 : Value} {od19 an19 : Option Addr} {sl19 : Array (Option Value)} {kV19 dc19 pm19 cd19 ct19 : Value} {f19 : Addr} {o20 : Value} {od20 an20 : Option Addr} {sl20 : Array (Option Value)} {kV20 dc20 pm20 cd20 ct20 : Value} {f20 : Addr} {o21 : Value} {od21 an21 : Option Addr} {sl21 : Array (Option Value)} {kV21 dc21 pm21 cd21 ct21 : Value} {f21 : Addr} {o22 : Value} {od22 an22 : Option Addr} {sl22 : Array (Option Value)} {kV22 dc22 pm22 cd22 ct22 : Value} {f22 : Addr} {o23 : Value} {od23 an23 : Option Addr} {sl23 : Array (Option Value)} {kV23 dc23 pm23 cd23 ct23 : Value} {f23 : Addr} {o24 : Value} {od24 an24 : Option Addr} {sl24 : Array (Option Value)} {kV24 dc24 pm24 cd24 ct24 : Value} {f24 : Addr} {o25 : Value} {od25 an25 : Option Addr} {sl25 : Array (Option Value)} {kV25 dc25 pm25 cd25 ct25 : Value} {f25 : Addr}
    {u_LONGEST_WORD : Value}    {u_SMALL_LETTERS : Value}    {u_NOUGHT : Value}    {u_ONE : Value}
    (g_LONGEST_WORD : PySem.W.nsIn K mainGlobals "LONGEST_WORD" = some (some u_LONGEST_WORD)) (v_LONGEST_WORD : CV K u_LONGEST_WORD (.int 8))
    (g_SMALL_LETTERS : PySem.W.nsIn K mainGlobals "SMALL_LETTERS" = some (some u_SMALL_LETTERS)) (v_SMALL_LETTERS : CV K u_SMALL_LETTERS (.str "abcdefghijklmnopqrstuvwxyz"))
    (g_NOUGHT : PySem.W.nsIn K mainGlobals "NOUGHT" = some (some u_NOUGHT)) (v_NOUGHT : CV K u_NOUGHT (.tup [.int 0, .int 1]))
    (g_ONE : PySem.W.nsIn K mainGlobals "ONE" = some (some u_ONE)) (v_ONE : CV K u_ONE (.tup [.int 1, .int 1]))
    (a0 : PySem.W.nsIn K mainGlobals "is_number" = some (some (.ref f0))) (l0 : K.lookup f0 = some ⟨o0, od0, .func (PySem.W.fnOf "is_number" "is_number" (defArgs st_is_number_) (defBody st_is_number_) (defScope st_is_number_) .none kV0 dc0 pm0 an0 cd0 ct0), sl0⟩) (c0 : PySem.W.codeIn K cd0 "is_number" = true) (k0 : PySem.W.keepIn K (.ref f0) = true)
    (a1 : PySem.W.nsIn K mainGlobals "is_word" = some (some (.ref f1))) (l1 : K.lookup f1 = some ⟨o1, od1, .func (PySem.W.fnOf "is_word" "is_word" (defArgs st_is_word_) (defBody st_is_word_) (defScope st_is_word_) .none kV1 dc1 pm1 an1 cd1 ct1), sl1⟩) (c1 : PySem.W.codeIn K cd1 "is_word" = true) (k1 : PySem.W.keepIn K (.ref f1) = true)
    (a2 : PySem.W.nsIn K mainGlobals "rises" = some (some (.ref f2))) (l2 : K.lookup f2 = some ⟨o2, od2, .func (PySem.W.fnOf "rises" "rises" (defArgs st_rises_) (defBody st_rises_) (defScope st_rises_) .none kV2 dc2 pm2 an2 cd2 ct2), sl2⟩) (c2 : PySem.W.codeIn K cd2 "rises" = true) (k2 : PySem.W.keepIn K (.ref f2) = true)
    (a3 : PySem.W.nsIn K mainGlobals "common_divisor" = some (some (.ref f3))) (l3 : K.lookup f3 = some ⟨o3, od3, .func (PySem.W.fnOf "common_divisor" "common_divisor" (defArgs st_common_divisor_) (defBody st_common_divisor_) (defScope st_common_divisor_) .none kV3 dc3 pm3 an3 cd3 ct3), sl3⟩) (c3 : PySem.W.codeIn K cd3 "common_divisor" = true) (k3 : PySem.W.keepIn K (.ref f3) = true)
    (a4 : PySem.W.nsIn K mainGlobals "is_fraction" = some (some (.ref f4))) (l4 : K.lookup f4 = some ⟨o4, od4, .func (PySem.W.fnOf "is_fraction" "is_fraction" (defArgs st_is_fraction_) (defBody st_is_fraction_) (defScope st_is_fraction_) .none kV4 dc4 pm4 an4 cd4 ct4), sl4⟩) (c4 : PySem.W.codeIn K cd4 "is_fraction" = true) (k4 : PySem.W.keepIn K (.ref f4) = true)
    (a5 : PySem.W.nsIn K mainGlobals "is_below" = some (some (.ref f5))) (l5 : K.lookup f5 = some ⟨o5, od5, .func (PySem.W.fnOf "is_below" "is_below" (defArgs st_is_below_) (defBody st_is_below_) (defScope st_is_below_) .none kV5 dc5 pm5 an5 cd5 ct5), sl5⟩) (c5 : PySem.W.codeIn K cd5 "is_below" = true) (k5 : PySem.W.keepIn K (.ref f5) = true)
    (a6 : PySem.W.nsIn K mainGlobals "is_house" = some (some (.ref f6))) (l6 : K.lookup f6 = some ⟨o6, od6, .func (PySem.W.fnOf "is_house" "is_house" (defArgs st_is_house_) (defBody st_is_house_) (defScope st_is_house_) .none kV6 dc6 pm6 an6 cd6 ct6), sl6⟩) (c6 : PySem.W.codeIn K cd6 "is_house" = true) (k6 : PySem.W.keepIn K (.ref f6) = true)
    (a7 : PySem.W.nsIn K mainGlobals "is_link" = some (some (.ref f7))) (l7 : K.lookup f7 = some ⟨o7, od7, .func (PySem.W.fnOf "is_link" "is_link" (defArgs st_is_link_) (defBody st_is_link_) (defScope st_is_link_) .none kV7 dc7 pm7 an7 cd7 ct7), sl7⟩) (c7 : PySem.W.codeIn K cd7 "is_link" = true) (k7 : PySem.W.keepIn K (.ref f7) = true)
    (a8 : PySem.W.nsIn K mainGlobals "are_houses" = some (some (.ref f8))) (l8 : K.lookup f8 = some ⟨o8, od8, .func (PySem.W.fnOf "are_houses" "are_houses" (defArgs st_are_houses_) (defBody st_are_houses_) (defScope st_are_houses_) .none kV8 dc8 pm8 an8 cd8 ct8), sl8⟩) (c8 : PySem.W.codeIn K cd8 "are_houses" = true) (k8 : PySem.W.keepIn K (.ref f8) = true)
    (a9 : PySem.W.nsIn K mainGlobals "are_links" = some (some (.ref f9))) (l9 : K.lookup f9 = some ⟨o9, od9, .func (PySem.W.fnOf "are_links" "are_links" (defArgs st_are_links_) (defBody st_are_links_) (defScope st_are_links_) .none kV9 dc9 pm9 an9 cd9 ct9), sl9⟩) (c9 : PySem.W.codeIn K cd9 "are_links" = true) (k9 : PySem.W.keepIn K (.ref f9) = true)
    (a10 : PySem.W.nsIn K mainGlobals "is_field" = some (some (.ref f10))) (l10 : K.lookup f10 = some ⟨o10, od10, .func (PySem.W.fnOf "is_field" "is_field" (defArgs st_is_field_) (defBody st_is_field_) (defScope st_is_field_) .none kV10 dc10 pm10 an10 cd10 ct10), sl10⟩) (c10 : PySem.W.codeIn K cd10 "is_field" = true) (k10 : PySem.W.keepIn K (.ref f10) = true)
    (a11 : PySem.W.nsIn K mainGlobals "_law_feed" = some (some (.ref f11))) (l11 : K.lookup f11 = some ⟨o11, od11, .func (PySem.W.fnOf "_law_feed" "_law_feed" (defArgs st_feedL_) (defBody st_feedL_) (defScope st_feedL_) .none kV11 dc11 pm11 an11 cd11 ct11), sl11⟩) (c11 : PySem.W.codeIn K cd11 "_law_feed" = true) (k11 : PySem.W.keepIn K (.ref f11) = true)
    (a12 : PySem.W.nsIn K mainGlobals "_law_draw" = some (some (.ref f12))) (l12 : K.lookup f12 = some ⟨o12, od12, .func (PySem.W.fnOf "_law_draw" "_law_draw" (defArgs st_drawL_) (defBody st_drawL_) (defScope st_drawL_) .none kV12 dc12 pm12 an12 cd12 ct12), sl12⟩) (c12 : PySem.W.codeIn K cd12 "_law_draw" = true) (k12 : PySem.W.keepIn K (.ref f12) = true)
    (a13 : PySem.W.nsIn K mainGlobals "_law_spoilt" = some (some (.ref f13))) (l13 : K.lookup f13 = some ⟨o13, od13, .func (PySem.W.fnOf "_law_spoilt" "_law_spoilt" (defArgs st_spoiltL_) (defBody st_spoiltL_) (defScope st_spoiltL_) .none kV13 dc13 pm13 an13 cd13 ct13), sl13⟩) (c13 : PySem.W.codeIn K cd13 "_law_spoilt" = true) (k13 : PySem.W.keepIn K (.ref f13) = true)
    (a14 : PySem.W.nsIn K mainGlobals "_law_divisor" = some (some (.ref f14))) (l14 : K.lookup f14 = some ⟨o14, od14, .func (PySem.W.fnOf "_law_divisor" "_law_divisor" (defArgs st_divisorL_) (defBody st_divisorL_) (defScope st_divisorL_) .none kV14 dc14 pm14 an14 cd14 ct14), sl14⟩) (c14 : PySem.W.codeIn K cd14 "_law_divisor" = true) (k14 : PySem.W.keepIn K (.ref f14) = true)
    (a15 : PySem.W.nsIn K mainGlobals "_law_made" = some (some (.ref f15))) (l15 : K.lookup f15 = some ⟨o15, od15, .func (PySem.W.fnOf "_law_made" "_law_made" (defArgs st_madeL_) (defBody st_madeL_) (defScope st_madeL_) .none kV15 dc15 pm15 an15 cd15 ct15), sl15⟩) (c15 : PySem.W.codeIn K cd15 "_law_made" = true) (k15 : PySem.W.keepIn K (.ref f15) = true)
    (a16 : PySem.W.nsIn K mainGlobals "_law_field" = some (some (.ref f16))) (l16 : K.lookup f16 = some ⟨o16, od16, .func (PySem.W.fnOf "_law_field" "_law_field" (defArgs st_fieldL_) (defBody st_fieldL_) (defScope st_fieldL_) .none kV16 dc16 pm16 an16 cd16 ct16), sl16⟩) (c16 : PySem.W.codeIn K cd16 "_law_field" = true) (k16 : PySem.W.keepIn K (.ref f16) = true)
    (a17 : PySem.W.nsIn K mainGlobals "_law_is_number" = some (some (.ref f17))) (l17 : K.lookup f17 = some ⟨o17, od17, .func (PySem.W.fnOf "_law_is_number" "_law_is_number" (defArgs st_is_numberL_) (defBody st_is_numberL_) (defScope st_is_numberL_) .none kV17 dc17 pm17 an17 cd17 ct17), sl17⟩) (c17 : PySem.W.codeIn K cd17 "_law_is_number" = true) (k17 : PySem.W.keepIn K (.ref f17) = true)
    (a18 : PySem.W.nsIn K mainGlobals "_law_is_fraction" = some (some (.ref f18))) (l18 : K.lookup f18 = some ⟨o18, od18, .func (PySem.W.fnOf "_law_is_fraction" "_law_is_fraction" (defArgs st_is_fractionL_) (defBody st_is_fractionL_) (defScope st_is_fractionL_) .none kV18 dc18 pm18 an18 cd18 ct18), sl18⟩) (c18 : PySem.W.codeIn K cd18 "_law_is_fraction" = true) (k18 : PySem.W.keepIn K (.ref f18) = true)
    (a19 : PySem.W.nsIn K mainGlobals "_law_is_word" = some (some (.ref f19))) (l19 : K.lookup f19 = some ⟨o19, od19, .func (PySem.W.fnOf "_law_is_word" "_law_is_word" (defArgs st_is_wordL_) (defBody st_is_wordL_) (defScope st_is_wordL_) .none kV19 dc19 pm19 an19 cd19 ct19), sl19⟩) (c19 : PySem.W.codeIn K cd19 "_law_is_word" = true) (k19 : PySem.W.keepIn K (.ref f19) = true)
    (a20 : PySem.W.nsIn K mainGlobals "_law_is_house" = some (some (.ref f20))) (l20 : K.lookup f20 = some ⟨o20, od20, .func (PySem.W.fnOf "_law_is_house" "_law_is_house" (defArgs st_is_houseL_) (defBody st_is_houseL_) (defScope st_is_houseL_) .none kV20 dc20 pm20 an20 cd20 ct20), sl20⟩) (c20 : PySem.W.codeIn K cd20 "_law_is_house" = true) (k20 : PySem.W.keepIn K (.ref f20) = true)
    (a21 : PySem.W.nsIn K mainGlobals "_law_is_link" = some (some (.ref f21))) (l21 : K.lookup f21 = some ⟨o21, od21, .func (PySem.W.fnOf "_law_is_link" "_law_is_link" (defArgs st_is_linkL_) (defBody st_is_linkL_) (defScope st_is_linkL_) .none kV21 dc21 pm21 an21 cd21 ct21), sl21⟩) (c21 : PySem.W.codeIn K cd21 "_law_is_link" = true) (k21 : PySem.W.keepIn K (.ref f21) = true)
    (a22 : PySem.W.nsIn K mainGlobals "_law_is_field" = some (some (.ref f22))) (l22 : K.lookup f22 = some ⟨o22, od22, .func (PySem.W.fnOf "_law_is_field" "_law_is_field" (defArgs st_is_fieldL_) (defBody st_is_fieldL_) (defScope st_is_fieldL_) .none kV22 dc22 pm22 an22 cd22 ct22), sl22⟩) (c22 : PySem.W.codeIn K cd22 "_law_is_field" = true) (k22 : PySem.W.keepIn K (.ref f22) = true)
    (a23 : PySem.W.nsIn K mainGlobals "_law_near_parts" = some (some (.ref f23))) (l23 : K.lookup f23 = some ⟨o23, od23, .func (PySem.W.fnOf "_law_near_parts" "_law_near_parts" (defArgs st_near_partsL_) (defBody st_near_partsL_) (defScope st_near_partsL_) .none kV23 dc23 pm23 an23 cd23 ct23), sl23⟩) (c23 : PySem.W.codeIn K cd23 "_law_near_parts" = true) (k23 : PySem.W.keepIn K (.ref f23) = true)
    (a24 : PySem.W.nsIn K mainGlobals "_law_near" = some (some (.ref f24))) (l24 : K.lookup f24 = some ⟨o24, od24, .func (PySem.W.fnOf "_law_near" "_law_near" (defArgs st_nearL_) (defBody st_nearL_) (defScope st_nearL_) .none kV24 dc24 pm24 an24 cd24 ct24), sl24⟩) (c24 : PySem.W.codeIn K cd24 "_law_near" = true) (k24 : PySem.W.keepIn K (.ref f24) = true)
    (a25 : PySem.W.nsIn K mainGlobals "law" = some (some (.ref f25))) (l25 : K.lookup f25 = some ⟨o25, od25, .func (PySem.W.fnOf "law" "law" (defArgs st_law_) (defBody st_law_) (defScope st_law_) .none kV25 dc25 pm25 an25 cd25 ct25), sl25⟩) (c25 : PySem.W.codeIn K cd25 "law" = true) (k25 : PySem.W.keepIn K (.ref f25) = true)
    (z_isinstance : PySem.W.nsIn K mainGlobals "isinstance" = some none) (z_int : PySem.W.nsIn K mainGlobals "int" = some none) (z_bool : PySem.W.nsIn K mainGlobals "bool" = some none) (z_all : PySem.W.nsIn K mainGlobals "all" = some none) (z_str : PySem.W.nsIn K mainGlobals "str" = some none) (z_len : PySem.W.nsIn K mainGlobals "len" = some none) (z_zip : PySem.W.nsIn K mainGlobals "zip" = some none) (z_abs : PySem.W.nsIn K mainGlobals "abs" = some none) (z_tuple : PySem.W.nsIn K mainGlobals "tuple" = some none) (z_list : PySem.W.nsIn K mainGlobals "list" = some none) (z_range : PySem.W.nsIn K mainGlobals "range" = some none) (z_sorted : PySem.W.nsIn K mainGlobals "sorted" = some none) (z_set : PySem.W.nsIn K mainGlobals "set" = some none) (z_repr : PySem.W.nsIn K mainGlobals "repr" = some none) :
    ∃ fd : FuncData, (∀ (s : Shared) (v : Value), BindsTo s fd ⟨[v], []⟩ [("_law_script", v)]) ∧ ∀ base : Heap, K.In base → base.Ns mainGlobals mg → FnG l.prog w K mg base 11 fa fd ["_law_script"] (spA K 1 law_) := by
  have e := hfa.symm.trans (PySem.W.mg_of X G a25)
  cases e
  have F0 := fun_mk (st := st_is_number_) l0 c0 k0
  have g0 := PySem.W.mg_of X G a0
  have b0 := F0.binds (ps := ["thing"]) fun _ _ _ _ _ _ us hl => match us, hl with | [_], _ => rfl
  have F1 := fun_mk (st := st_is_word_) l1 c1 k1
  have g1 := PySem.W.mg_of X G a1
  have b1 := F1.binds (ps := ["thing"]) fun _ _ _ _ _ _ us hl => match us, hl with | [_], _ => rfl
  have F2 := fun_mk (st := st_rises_) l2 c2 k2
  have g2 := PySem.W.mg_of X G a2
  have b2 := F2.binds (ps := ["things"]) fun _ _ _ _ _ _ us hl => match us, hl with | [_], _ => rfl
  have F3 := fun_mk (st := st_common_divisor_) l3 c3 k3
  have g3 := PySem.W.mg_of X G a3
  have b3 := F3.binds (ps := ["a", "b"]) fun _ _ _ _ _ _ us hl => match us, hl with | [_, _], _ => rfl
  have F4 := fun_mk (st := st_is_fraction_) l4 c4 k4
  have g4 := PySem.W.mg_of X G a4
  have b4 := F4.binds (ps := ["thing"]) fun _ _ _ _ _ _ us hl => match us, hl with | [_], _ => rfl
  have F5 := fun_mk (st := st_is_below_) l5 c5 k5
  have g5 := PySem.W.mg_of X G a5
  have b5 := F5.binds (ps := ["one", "other"]) fun _ _ _ _ _ _ us hl => match us, hl with | [_, _], _ => rfl
  have F6 := fun_mk (st := st_is_house_) l6 c6 k6
  have g6 := PySem.W.mg_of X G a6
  have b6 := F6.binds (ps := ["thing"]) fun _ _ _ _ _ _ us hl => match us, hl with | [_], _ => rfl
  have F7 := fun_mk (st := st_is_link_) l7 c7 k7
  have g7 := PySem.W.mg_of X G a7
  have b7 := F7.binds (ps := ["thing"]) fun _ _ _ _ _ _ us hl => match us, hl with | [_], _ => rfl
  have F8 := fun_mk (st := st_are_houses_) l8 c8 k8
  have g8 := PySem.W.mg_of X G a8
  have b8 := F8.binds (ps := ["thing"]) fun _ _ _ _ _ _ us hl => match us, hl with | [_], _ => rfl
  have F9 := fun_mk (st := st_are_links_) l9 c9 k9
  have g9 := PySem.W.mg_of X G a9
  have b9 := F9.binds (ps := ["thing", "houses"]) fun _ _ _ _ _ _ us hl => match us, hl with | [_, _], _ => rfl
  have F10 := fun_mk (st := st_is_field_) l10 c10 k10
  have g10 := PySem.W.mg_of X G a10
  have b10 := F10.binds (ps := ["thing"]) fun _ _ _ _ _ _ us hl => match us, hl with | [_], _ => rfl
  have F11 := fun_mk (st := st_feedL_) l11 c11 k11
  have g11 := PySem.W.mg_of X G a11
  have b11 := F11.binds (ps := ["_law_script"]) fun _ _ _ _ _ _ us hl => match us, hl with | [_], _ => rfl
  have F12 := fun_mk (st := st_drawL_) l12 c12 k12
  have g12 := PySem.W.mg_of X G a12
  have b12 := F12.binds (ps := ["_law_feed_here", "_law_many"]) fun _ _ _ _ _ _ us hl => match us, hl with | [_, _], _ => rfl
  have F13 := fun_mk (st := st_spoiltL_) l13 c13 k13
  have g13 := PySem.W.mg_of X G a13
  have b13 := F13.binds (ps := ["_law_feed_here", "_law_thing", "_law_menu"]) fun _ _ _ _ _ _ us hl => match us, hl with | [_, _, _], _ => rfl
  have F14 := fun_mk (st := st_divisorL_) l14 c14 k14
  have g14 := PySem.W.mg_of X G a14
  have b14 := F14.binds (ps := ["_law_one", "_law_other"]) fun _ _ _ _ _ _ us hl => match us, hl with | [_, _], _ => rfl
  have F15 := fun_mk (st := st_madeL_) l15 c15 k15
  have g15 := PySem.W.mg_of X G a15
  have b15 := F15.binds (ps := ["_law_a", "_law_b"]) fun _ _ _ _ _ _ us hl => match us, hl with | [_, _], _ => rfl
  have F16 := fun_mk (st := st_fieldL_) l16 c16 k16
  have g16 := PySem.W.mg_of X G a16
  have b16 := F16.binds (ps := ["_law_feed_here"]) fun _ _ _ _ _ _ us hl => match us, hl with | [_], _ => rfl
  have F17 := fun_mk (st := st_is_numberL_) l17 c17 k17
  have g17 := PySem.W.mg_of X G a17
  have b17 := F17.binds (ps := ["_law_thing"]) fun _ _ _ _ _ _ us hl => match us, hl with | [_], _ => rfl
  have F18 := fun_mk (st := st_is_fractionL_) l18 c18 k18
  have g18 := PySem.W.mg_of X G a18
  have b18 := F18.binds (ps := ["_law_thing"]) fun _ _ _ _ _ _ us hl => match us, hl with | [_], _ => rfl
  have F19 := fun_mk (st := st_is_wordL_) l19 c19 k19
  have g19 := PySem.W.mg_of X G a19
  have b19 := F19.binds (ps := ["_law_thing"]) fun _ _ _ _ _ _ us hl => match us, hl with | [_], _ => rfl
  have F20 := fun_mk (st := st_is_houseL_) l20 c20 k20
  have g20 := PySem.W.mg_of X G a20
  have b20 := F20.binds (ps := ["_law_thing"]) fun _ _ _ _ _ _ us hl => match us, hl with | [_], _ => rfl
  have F21 := fun_mk (st := st_is_linkL_) l21 c21 k21
  have g21 := PySem.W.mg_of X G a21
  have b21 := F21.binds (ps := ["_law_thing"]) fun _ _ _ _ _ _ us hl => match us, hl with | [_], _ => rfl
  have F22 := fun_mk (st := st_is_fieldL_) l22 c22 k22
  have g22 := PySem.W.mg_of X G a22
  have b22 := F22.binds (ps := ["_law_thing"]) fun _ _ _ _ _ _ us hl => match us, hl with | [_], _ => rfl
  have F23 := fun_mk (st := st_near_partsL_) l23 c23 k23
  have g23 := PySem.W.mg_of X G a23
  have b23 := F23.binds (ps := []) fun _ _ _ _ _ _ us hl => match us, hl with | [], _ => rfl
  have F24 := fun_mk (st := st_nearL_) l24 c24 k24
  have g24 := PySem.W.mg_of X G a24
  have b24 := F24.binds (ps := ["_law_field_here"]) fun _ _ _ _ _ _ us hl => match us, hl with | [_], _ => rfl
  have F25 := fun_mk (st := st_law_) l25 c25 k25
  have m_isinstance := PySem.W.mg_none_of X G z_isinstance
  have m_int := PySem.W.mg_none_of X G z_int
  have m_bool := PySem.W.mg_none_of X G z_bool
  have m_all := PySem.W.mg_none_of X G z_all
  have m_str := PySem.W.mg_none_of X G z_str
  have m_len := PySem.W.mg_none_of X G z_len
  have m_zip := PySem.W.mg_none_of X G z_zip
  have m_abs := PySem.W.mg_none_of X G z_abs
  have m_tuple := PySem.W.mg_none_of X G z_tuple
  have m_list := PySem.W.mg_none_of X G z_list
  have m_range := PySem.W.mg_none_of X G z_range
  have m_sorted := PySem.W.mg_none_of X G z_sorted
  have m_set := PySem.W.mg_none_of X G z_set
  have m_repr := PySem.W.mg_none_of X G z_repr
  have c_LONGEST_WORD : Cst K mg "LONGEST_WORD" (.int 8) := ⟨u_LONGEST_WORD, PySem.W.mg_of X G g_LONGEST_WORD, v_LONGEST_WORD⟩
  have c_SMALL_LETTERS : Cst K mg "SMALL_LETTERS" (.str "abcdefghijklmnopqrstuvwxyz") := ⟨u_SMALL_LETTERS, PySem.W.mg_of X G g_SMALL_LETTERS, v_SMALL_LETTERS⟩
  have c_NOUGHT : Cst K mg "NOUGHT" (.tup [.int 0, .int 1]) := ⟨u_NOUGHT, PySem.W.mg_of X G g_NOUGHT, v_NOUGHT⟩
  have c_ONE : Cst K mg "ONE" (.tup [.int 1, .int 1]) := ⟨u_ONE, PySem.W.mg_of X G g_ONE, v_ONE⟩
  refine ⟨PySem.W.fnOf "law" "law" (defArgs st_law_) (defBody st_law_) (defScope st_law_) .none kV25 dc25 pm25 an25 cd25 ct25, fun s v => .of_eq rfl, fun base _ _ => ?_⟩
  have d_is_number_ : Def l.prog w K mg base 1 "is_number" ["thing"] is_number_ := ok_is_number_ F0 b0 g0 m_isinstance m_int m_bool
  have d_is_word_ : Def l.prog w K mg base 1 "is_word" ["thing"] is_word_ := ok_is_word_ F1 b1 g1 c_LONGEST_WORD c_SMALL_LETTERS m_all m_isinstance m_str m_len
  have d_rises_ : Def l.prog w K mg base 1 "rises" ["things"] rises_ := ok_rises_ F2 b2 g2 m_all m_zip
  have d_common_divisor_ : Def l.prog w K mg base 1 "common_divisor" ["a", "b"] common_divisor_ := ok_common_divisor_ F3 b3 g3 m_abs
  have d_is_fraction_ : Def l.prog w K mg base 2 "is_fraction" ["thing"] is_fraction_ := ok_is_fraction_ F4 b4 g4 d_is_number_ d_common_divisor_ m_isinstance m_tuple m_len
  have d_is_below_ : Def l.prog w K mg base 1 "is_below" ["one", "other"] is_below_ := ok_is_below_ F5 b5 g5
  have d_is_house_ : Def l.prog w K mg base 3 "is_house" ["thing"] is_house_ := ok_is_house_ F6 b6 g6 d_is_below_ d_is_word_ d_is_fraction_ c_NOUGHT c_ONE m_isinstance m_tuple m_len
  have d_is_link_ : Def l.prog w K mg base 3 "is_link" ["thing"] is_link_ := ok_is_link_ F7 b7 g7 d_is_below_ d_is_word_ d_is_fraction_ c_NOUGHT m_isinstance m_tuple m_len
  have d_are_houses_ : Def l.prog w K mg base 4 "are_houses" ["thing"] are_houses_ := ok_are_houses_ F8 b8 g8 d_rises_ d_is_house_ m_isinstance m_tuple m_all
  have d_are_links_ : Def l.prog w K mg base 4 "are_links" ["thing", "houses"] are_links_ := ok_are_links_ F9 b9 g9 d_is_link_ m_all m_isinstance m_tuple
  have d_is_field_ : Def l.prog w K mg base 5 "is_field" ["thing"] is_field_ := ok_is_field_ F10 b10 g10 d_are_houses_ d_are_links_ c_ONE m_isinstance m_tuple m_len
  have d_feedL_ : Def l.prog w K mg base 1 "_law_feed" ["_law_script"] feedL_ := ok_feedL_ F11 b11 g11
  have d_drawL_ : Def l.prog w K mg base 1 "_law_draw" ["_law_feed_here", "_law_many"] drawL_ := ok_drawL_ F12 b12 g12 m_len
  have d_spoiltL_ : Def l.prog w K mg base 10 "_law_spoilt" ["_law_feed_here", "_law_thing", "_law_menu"] spoiltL_ := ok_spoiltL_ F13 b13 g13 d_drawL_ m_len m_tuple m_list m_isinstance
  have d_divisorL_ : Def l.prog w K mg base 1 "_law_divisor" ["_law_one", "_law_other"] divisorL_ := ok_divisorL_ F14 b14 g14
  have d_madeL_ : Def l.prog w K mg base 2 "_law_made" ["_law_a", "_law_b"] madeL_ := ok_madeL_ F15 b15 g15 d_divisorL_ m_abs
  have d_fieldL_ : Def l.prog w K mg base 3 "_law_field" ["_law_feed_here"] fieldL_ := ok_fieldL_ F16 b16 g16 d_drawL_ d_madeL_ m_range m_len m_tuple m_int
  have d_is_numberL_ : Def l.prog w K mg base 1 "_law_is_number" ["_law_thing"] is_numberL_ := ok_is_numberL_ F17 b17 g17 m_isinstance m_int m_bool
  have d_is_fractionL_ : Def l.prog w K mg base 2 "_law_is_fraction" ["_law_thing"] is_fractionL_ := ok_is_fractionL_ F18 b18 g18 d_divisorL_ d_is_numberL_ m_isinstance m_tuple m_len m_abs
  have d_is_wordL_ : Def l.prog w K mg base 1 "_law_is_word" ["_law_thing"] is_wordL_ := ok_is_wordL_ F19 b19 g19 m_isinstance m_str m_len
  have d_is_houseL_ : Def l.prog w K mg base 3 "_law_is_house" ["_law_thing"] is_houseL_ := ok_is_houseL_ F20 b20 g20 d_is_wordL_ d_is_fractionL_ m_isinstance m_tuple m_len
  have d_is_linkL_ : Def l.prog w K mg base 3 "_law_is_link" ["_law_thing"] is_linkL_ := ok_is_linkL_ F21 b21 g21 d_is_fractionL_ d_is_wordL_ m_isinstance m_tuple m_len
  have d_is_fieldL_ : Def l.prog w K mg base 4 "_law_is_field" ["_law_thing"] is_fieldL_ := ok_is_fieldL_ F22 b22 g22 d_is_wordL_ d_is_houseL_ d_is_linkL_ m_isinstance m_tuple m_len m_sorted m_set
  have d_near_partsL_ : Def l.prog w K mg base 1 "_law_near_parts" [] near_partsL_ := ok_near_partsL_ F23 b23 g23
  have d_nearL_ : Def l.prog w K mg base 1 "_law_near" ["_law_field_here"] nearL_ := ok_nearL_ F24 b24 g24 m_list
  exact ok_law_ F25 d_feedL_ d_fieldL_ d_spoiltL_ d_near_partsL_ d_nearL_ d_is_house_ d_is_link_ d_is_field_ d_is_houseL_ d_is_linkL_ d_is_fieldL_ m_tuple m_range m_list m_repr
end K03
open PySem PySem.W PyProof.Rows in
set_option maxRecDepth 100000 in
set_option maxHeartbeats 0 in
theorem PySem.Challenge.cw_ledclocks_k03_houses_links_fields_by_kin_holds : PySem.Challenge.rw_ledclocks_k03_houses_links_fields_by_kin.Holds := by
  w_on; o_law; k_head; (case hw => w_witness2)
  k_fill
  refine G.walk_g (l := PySem.Challenge.rw_ledclocks_k03_houses_links_fields_by_kin) (n := 63) (k := 11) (x := "_law_script") (sp := fun w => AL.spA _ 1 K03.law_) rfl (by decide) rfl ⟨rfl, by decide, by decide⟩ (fun w h Y => PySem.W.kIn_of Y) ?F (fun w _ a ns hl hO hS => AL.hsp_a K03.law_true hl hO hS)
  case F =>
    intro w mg fa h KX G hmg
    refine' K03.all_mk KX G hmg ?g_LONGEST_WORD ?v_LONGEST_WORD ?g_SMALL_LETTERS ?v_SMALL_LETTERS ?g_NOUGHT ?v_NOUGHT ?g_ONE ?v_ONE ?a0 ?l0 ?c0 ?k0 ?a1 ?l1 ?c1 ?k1 ?a2 ?l2 ?c2 ?k2 ?a3 ?l3 ?c3 ?k3 ?a4 ?l4 ?c4 ?k4 ?a5 ?l5 ?c5 ?k5 ?a6 ?l6 ?c6 ?k6 ?a7 ?l7 ?c7 ?k7 ?a8 ?l8 ?c8 ?k8 ?a9 ?l9 ?c9 ?k9 ?a10 ?l10 ?c10 ?k10 ?a11 ?l11 ?c11 ?k11 ?a12 ?l12 ?c12 ?k12 ?a13 ?l13 ?c13 ?k13 ?a14 ?l14 ?c14 ?k14 ?a15 ?l15 ?c15 ?k15 ?a16 ?l16 ?c16 ?k16 ?a17 ?l17 ?c17 ?k17 ?a18 ?l18 ?c18 ?k18 ?a19 ?l19 ?c19 ?k19 ?a20 ?l20 ?c20 ?k20 ?a21 ?l21 ?c21 ?k21 ?a22 ?l22 ?c22 ?k22 ?a23 ?l23 ?c23 ?k23 ?a24 ?l24 ?c24 ?k24 ?a25 ?l25 ?c25 ?k25        ?z_isinstance ?z_int ?z_bool ?z_all ?z_str ?z_len ?z_zip ?z_abs ?z_tuple ?z_list ?z_range ?z_sorted ?z_set ?z_repr
    (case g_LONGEST_WORD => k_is)
    (case v_LONGEST_WORD => open AL in exact cv_int)
    (case g_SMALL_LETTERS => k_is)
    (case v_SMALL_LETTERS => open AL in exact cv_str)
    (case g_NOUGHT => k_is)
    (case v_NOUGHT => open AL in exact (cv_tup (by k_is) rfl rfl (by decide) (cvs_cons cv_int (cvs_cons cv_int cvs_nil))))
    (case g_ONE => k_is)
    (case v_ONE => open AL in exact (cv_tup (by k_is) rfl rfl (by decide) (cvs_cons cv_int (cvs_cons cv_int cvs_nil))))
    (case a0 => k_is)
    (case l0 => k_is)
    (case c0 => k_is)
    (case k0 => k_is)
    (case a1 => k_is)
    (case l1 => k_is)
    (case c1 => k_is)
    (case k1 => k_is)
    (case a2 => k_is)
    (case l2 => k_is)
    (case c2 => k_is)
    (case k2 => k_is)
    (case a3 => k_is)
    (case l3 => k_is)
    (case c3 => k_is)
    (case k3 => k_is)
    (case a4 => k_is)
    (case l4 => k_is)
    (case c4 => k_is)
    (case k4 => k_is)
    (case a5 => k_is)
    (case l5 => k_is)
    (case c5 => k_is)
    (case k5 => k_is)
    (case a6 => k_is)
    (case l6 => k_is)
    (case c6 => k_is)
    (case k6 => k_is)
    (case a7 => k_is)
    (case l7 => k_is)
    (case c7 => k_is)
    (case k7 => k_is)
    (case a8 => k_is)
    (case l8 => k_is)
    (case c8 => k_is)
    (case k8 => k_is)
    (case a9 => k_is)
    (case l9 => k_is)
    (case c9 => k_is)
    (case k9 => k_is)
    (case a10 => k_is)
    (case l10 => k_is)
    (case c10 => k_is)
    (case k10 => k_is)
    (case a11 => k_is)
    (case l11 => k_is)
    (case c11 => k_is)
    (case k11 => k_is)
    (case a12 => k_is)
    (case l12 => k_is)
    (case c12 => k_is)
    (case k12 => k_is)
    (case a13 => k_is)
    (case l13 => k_is)
    (case c13 => k_is)
    (case k13 => k_is)
    (case a14 => k_is)
    (case l14 => k_is)
    (case c14 => k_is)
    (case k14 => k_is)
    (case a15 => k_is)
    (case l15 => k_is)
    (case c15 => k_is)
    (case k15 => k_is)
    (case a16 => k_is)
    (case l16 => k_is)
    (case c16 => k_is)
    (case k16 => k_is)
    (case a17 => k_is)
    (case l17 => k_is)
    (case c17 => k_is)
    (case k17 => k_is)
    (case a18 => k_is)
    (case l18 => k_is)
    (case c18 => k_is)
    (case k18 => k_is)
    (case a19 => k_is)
    (case l19 => k_is)
    (case c19 => k_is)
    (case k19 => k_is)
    (case a20 => k_is)
    (case l20 => k_is)
    (case c20 => k_is)
    (case k20 => k_is)
    (case a21 => k_is)
    (case l21 => k_is)
    (case c21 => k_is)
    (case k21 => k_is)
    (case a22 => k_is)
    (case l22 => k_is)
    (case c22 => k_is)
    (case k22 => k_is)
    (case a23 => k_is)
    (case l23 => k_is)
    (case c23 => k_is)
    (case k23 => k_is)
    (case a24 => k_is)
    (case l24 => k_is)
    (case c24 => k_is)
    (case k24 => k_is)
    (case a25 => k_is)
    (case l25 => k_is)
    (case c25 => k_is)
    (case k25 => k_is)
    (case z_isinstance => k_is)
    (case z_int => k_is)
    (case z_bool => k_is)
    (case z_all => k_is)
    (case z_str => k_is)
    (case z_len => k_is)
    (case z_zip => k_is)
    (case z_abs => k_is)
    (case z_tuple => k_is)
    (case z_list => k_is)
    (case z_range => k_is)
    (case z_sorted => k_is)
    (case z_set => k_is)
    (case z_repr => k_is)
