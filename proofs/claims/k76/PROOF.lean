import PyProof.Rows.All
import Wide.All
import OpenK.AllK
import Wide.FinOn
import HandS.ForMost
import HandS.Wide
import HandS.TryOnly
import HandS.Codes
import PyProof.ReprRoads
import HandS.Lambda
import HandS.Walk
import HandS.Strs
import HandS.Sort
import HandS.SortRule
import HandS.Style
import HandS.IsInst
import HandS.TupAny
import HandS.RaiseMore
import PyProof.StrOps2
import PyProof.StrLawsRepr
import KE.GoesMore
import PyProof.EnumMake
import PyProof.EnumFor
import PyProof.Draws
import HandS.Iter
import KE.GoesZip
import HandS.Zip
import KE.KSortTupAny
import HandS.SortOrd
import HandS.More
import HandS.Defaults
import HandS.MakeKwOnly
import HandS.DictComp
import HandS.Exc
import HandS.SetFor
import HandS.Deep
import HandS.ExcOwn
import HandS.ExcInit
import KE.KExcInit
import PyProof.CallStr
import PyProof.FitsInt
import HandS.ExcField
import HandS.EndBits
import KE.KExcIs
import KE.KTryMore
import PyProof.Rows.CountFlat
import PyProof.P3Eq
import HandS.TupLe
import HandS.HotCalls
import PyProof.Rows.InDataRows
import HandS.ExcIs
import PySem.Challenge.RW_ledclocks_k76_kept_by_own_going
set_option Elab.async false
set_option linter.all false
set_option maxRecDepth 100000
set_option maxHeartbeats 4000000
set_option exponentiation.threshold 3000
def PySem.W.Fast.tw11401595495862433762 : Nat := 0
def PySem.W.Fast.tw6913134921171204465 : Nat := 0
def PySem.W.Fast.tw786766394787186393 : Nat := 0
def PySem.W.Fast.tw8896889907830235687 : Nat := 0
def PySem.W.Fast.tw10575012446573844622 : Nat := 0
def PySem.W.Fast.tw8481747529557244059 : Nat := 0
def PySem.W.Fast.tw9134963554145404089 : Nat := 0
def PySem.W.Fast.tw11770864631462380122 : Nat := 0
def PySem.W.Fast.tw17570464756344326098 : Nat := 0
def PySem.W.Fast.tw2971996206221631184 : Nat := 0
def PySem.W.Fast.tw9044251663944087822 : Nat := 0
def PySem.W.Fast.tw9417575363187412552 : Nat := 0
def PySem.W.Fast.tw6946503491909863066 : Nat := 0
def PySem.W.Fast.tw8587164039774193767 : Nat := 0
def PySem.W.Fast.tw9263480606539550645 : Nat := 0
def PySem.W.Fast.tw2559441737410831623 : Nat := 0
def PySem.W.Fast.tw16489544545993007931 : Nat := 0
def PySem.W.Fast.tw5978478422093054807 : Nat := 0
def PySem.W.Fast.tw7582531739285387110 : Nat := 0
def PySem.W.Fast.tw17834124843047484714 : Nat := 0
def PySem.W.Fast.tw15820267116088768381 : Nat := 0
def PySem.W.Fast.tw17446280682196680493 : Nat := 0
def PySem.W.Fast.tw13580639935732433001 : Nat := 0
def PySem.W.Fast.tw7189626637653083464 : Nat := 0
set_option maxRecDepth 100000 in
set_option maxHeartbeats 0 in
open PySem PySem.W PyProof.Rows in
open_top headFirst for PySem.Challenge.rw_ledclocks_k76_kept_by_own_going
namespace G
open PySem PySem.Spec PyProof.Rows L2

structure FnG (P : Program) (w : World) (K : PySem.W.Frag) (mg : Str → Option Value) (base : Heap) (k : Nat) (f : Addr) (fd : FuncData) (ps : List Str) (sp : Sp) : Prop where
  len : ∀ vs H Q E, sp vs H Q E → vs.length = ps.length
  run : ∀ (A : Around) (outer : List Env) (s : Shared) (H : Hp) (args : Args) (us : List Value) (vs : List V) (Q : VK) (E : XK),
    A.guards = some [] → Room k A → Env0 P w K mg base A outer s H → BindsTo s fd args (ps.zip us) → Vals vs us → sp vs H Q E →
      codeAny (model P w) A (.call (.ref f) args) (CR CX0 outer P w H s Q E) s
section
variable {X : Cx} {k : Nat} {f : Addr} {fd : FuncData} {ps : List Str} {sp : Sp} {E : XK} {x : Str} {p pos : Pos} {e : Expr} {es : List Expr} {t : TA}
theorem run_g {pins : List (Addr × Obj)} {σ : L2.St} {H : Hp} {s : Shared} {Q : VK} {us : List Value} {vs : List V}
    (F : FnG X.prog X.w X.K X.mg X.base k f fd ps sp) (g : X.A.guards = some []) (hr : Room k X.A) (hb : Binds X.K fd ps [])
    (I : Inv X pins σ H s) (r : Vals vs us) (h : sp vs H Q E) :
    wpAny (model X.prog X.w) X.A (call (.ref f) us) (EP X pins σ Q) X.xe s := by
  have n1 : us.length = ps.length := r.length.symm.trans (F.len vs H Q E h)
  have b1 := hb s us I.kIn ((congrArg List.length (List.append_nil us)).trans n1)
  rw [List.append_nil] at b1
  refine wpAny_call (codeAny_mono (F.run X.A X.stack s H ⟨us, []⟩ us vs Q E g hr I.env0 b1 r h) ?_)
  intro res s' c
  match res, c with
  | .error _, c => exact False.elim c
  | .ok (.ret _), c => exact I.after c
  | .ok .next, c => exact False.elim c
  | .ok .brk, c => exact False.elim c
  | .ok .cont, c => exact False.elim c

theorem pe_callG (F : FnG X.prog X.w X.K X.mg X.base k f fd ps sp) (g : X.A.guards = some []) (hr : Room k X.A) (hgl : Gl X x) (hm : X.mg x = some (.ref f))
    (hk : PySem.W.keepIn X.K (.ref f) = true) (hb : Binds X.K fd ps []) (ha : PA X (e :: es) t)
    (hdb : (x == ("__debug__" : Str)) = false := by decide)
    (he : starEach (e :: es) X.env = (false, eval e X.env) :: starEach es X.env := by rfl)
    (hpl : (backTo pos (starEach es X.env)).any (·.1) = false := by rfl) :
    PE X (.Call (.Name x p) (e :: es) [] pos) (fun σ H Q => t σ H fun vs H1 => sp vs H1 Q E0) := by
  constructor
  intro pins s σ H Q I h
  apply wpAny_Call_Name_kw
  apply ld_glob I hgl hm _ hdb
  refine PySem.W.callWith_K (h₀ := X.base) I.ok.mod.kin hk (thn (ha.run pos pins s σ H _ I h) ?_) he hpl
  rintro us s1 ⟨vs, H1, I1, r, q⟩
  exact ⟨I1.kIn, run_g (E := E0) F g hr hb I1 r q⟩
end

theorem fn_g {P : Program} {w : World} {K : PySem.W.Frag} {mg : Str → Option Value} {base : Heap} {x qual : Str} {st : Stmt} {f : Addr} {fd : FuncData} {N ps : List Str} {k : Nat} {sp : Sp}
    (F : Fun K x qual st f fd) (S : FnScope N ps (defScope st)) (len : ∀ vs H Q E, sp vs H Q E → vs.length = ps.length)
    (body : ∀ (cdv : Value) (A : Around) (outer : List Env) (s : Shared) (H : Hp) (vs : List V) (Q : VK) (E : XK), A.guards = some [] →
      Room k (A.deeper (envOfC qual (defScope st) s.heap.objs.size f cdv)) → sp vs H Q E →
      ∃ t, PSs (cxOf CX0 P w K mg base N qual (defScope st) f cdv A outer s H E).nox (defBody st) t ∧ t { nx := fun _ H' => Q .non H', rt := Q } (start N vs) H) :
    FnG P w K mg base (k + 1) f fd ps sp := by
  obtain ⟨oc, od, kV, doc, pm, an, cdv, ct, osl, rfl, lk, hcd⟩ := F.ex
  refine ⟨len, ?_⟩
  intro A outer s H args us vs Q E g hr e0 hb r hsp
  have up : ∀ b o, base.get? b = some o → s.heap.get? b = some o := fun b o e => (e0.bs b o e).1
  have KX : K.In s.heap := e0.mod.kin.keeps up
  refine codeAny_call_function hr.depth (KX _ _ lk) rfl S.co S.gen rfl (PySem.W.codeRec_of KX hcd) (hb _ _ _ _ ?_)
  refine wpAny_newFunctionEnv_cells S.kind ?_ ?_
  · rintro ⟨n, v⟩ hy
    cases S.par n (List.of_mem_zip hy).1 with
    | inl q => exact .inl q
    | inr q => exact .inr ⟨q, PySem.W.cellsFrom_some _ _ _ (.inl q)⟩
  · rintro env rfl s1 x
    refine ⟨(e0.mod.nolimit.keeps up).keeps x.toInCall.keep, codeAny_func ?_⟩
    obtain ⟨t, ht, hq⟩ := body cdv A outer s H vs Q E g (hr.deeper _) hsp
    have I := inv_start (CX := CX0) (E := E) S hr.hd e0 (len _ _ _ _ hsp) r x
    refine wpAny_mono (ht.nox.run [] s1 (start N vs) H _ I hq) ?_ (fun e s' hs => hs)
    intro fl s' hs
    match fl, hs with
    | .ret u, ⟨v, σ', H', J, rv, q⟩ => exact ⟨v, H', J.os, J.bare, J.base, J.hok, rv, q⟩
    | .next, ⟨σ', H', J, q⟩ => exact ⟨.non, H', J.os, J.bare, J.base, J.hok, rfl, q⟩
    | .brk, ⟨_, _, _, q⟩ => exact False.elim q
    | .cont, ⟨_, _, _, q⟩ => exact False.elim q

theorem law_core {P : Program} {w : World} {K : PySem.W.Frag} {mg mb : Str → Option Value} {k : Nat} {fa a : Addr} {fd : FuncData} {x : Str} {sp : Sp} {s₁ : Shared} {vs : List Value}
    (KX : K.In s₁.heap) (hns : s₁.heap.Ns mainGlobals mg) (hb : s₁.heap.Ns builtinsNs mb) (hbb : ∀ x : Str, x ≠ "__name__" → mb x = bootBuiltins x) (hlim : s₁.heap.NoLimit) (hg : s₁.gens = #[])
    (ha : s₁.heap.get? a = some { cls := .type "list", data := .seq vs.toArray }) (hr : Room k callerA)
    (F : ∀ base : Heap, K.In base → base.Ns mainGlobals mg → FnG P w K mg base k fa fd [x] sp) (hbind : ∀ (s : Shared) (u : Value), BindsTo s fd ⟨[u], []⟩ [(x, u)])
    (H : Hp) (hO : Only H) (hok : HOk P w H s₁.heap) (hA : ∀ b, H b ≠ none → b = a) (hK : H a ≠ none → K.lookup a = none)
    (hsp : sp [.ref a] H (fun v _ => v = .bl true) fun _ _ _ => False) :
    codeAny (model P w) callerA (.call (.ref fa) ⟨[.ref a], []⟩) (fun r s' => r = .ok (.ret (.bool true)) ∧ OldK s₁.heap s'.heap ∧ s'.os = s₁.os ∧ AllBare s'.gens) s₁ := by
  have free : ∀ {b : Addr} {o : Obj}, s₁.heap.get? b = some o → (b = a → False) → H b = none := by
    intro b o _ hne
    cases q : H b with
    | none => rfl
    | some u => exact (hne (hA b (by simp [q]))).elim
  have hid : ∀ {b : Addr} {o : Obj}, s₁.heap.get? b = some o → H b = none → (hidT s₁.heap H).get? b = some o := fun e n => hidT_get e n
  have ns_of : ∀ {b : Addr} {m : Str → Option Value}, s₁.heap.Ns b m → (hidT s₁.heap H).Ns b m := by
    rintro b m ⟨o, es, ep, e, d, r⟩
    refine ⟨o, es, ep, hid e (free e fun z => ?_), d, r⟩
    subst z
    rw [ha] at e
    cases e
    cases (d : Data.seq vs.toArray _ = Data.dict es ep)
  have kin : K.In (hidT s₁.heap H) := by
    intro b o e
    have e2 := KX b o e
    cases q : H b with
    | none => exact hid e2 q
    | some u =>
      have z := hA b (by simp [q])
      subst z
      rw [hK (by simp [q])] at e
      cases e
  obtain ⟨mc, l1, l2⟩ := hlim
  have md : Mod K mg (hidT s₁.heap H) := ⟨kin, ns_of hns, ⟨mb, ns_of hb, hbb⟩, ⟨mc, ns_of l1, l2⟩⟩
  have none_in : ∀ {b : Addr} {Z : Prop}, b ∈ ([] : List Addr) → Z := fun z => (nomatch z)
  have e0 : Env0 P w K mg (hidT s₁.heap H) callerA [] s₁ H :=
    ⟨rfl, md, fun b o e => of_hidT e, Nat.le_of_eq (hidT_size _ _), trivial, fun b z => none_in z, hok, .of_eq hg⟩
  refine codeAny_mono ((F _ kin (ns_of hns)).run callerA [] s₁ H ⟨[.ref a], []⟩ [.ref a] [.ref a] _ _ rfl hr e0 (hbind s₁ (.ref a)) (.cons rfl .nil) hsp) ?_
  intro r s' c
  match r, c with
  | .error _, c => exact False.elim c
  | .ok .next, c => exact False.elim c
  | .ok .brk, c => exact False.elim c
  | .ok .cont, c => exact False.elim c
  | .ok (.ret u), ⟨v, H', os, bare, un, hok', rv, q⟩ =>
    have q' : v = .bl true := q
    subst q'
    obtain rfl : u = Value.bool true := rv
    refine ⟨rfl, OldK.of_keep ?_, os, bare⟩
    intro b o e
    cases hq : H b with
    | none => exact un.keep b o e hq (fun z => none_in z) (by simp)
    | some u =>
      cases hO b with
      | inl z => rw [hq] at z; cases z
      | inr z =>
        obtain ⟨ob, xs, z⟩ := z
        have o1 := (hok b _ z).1
        have o2 := (hok' b _ (un.frzs b ob _ z)).1
        rw [e] at o1
        cases o1
        exact o2
theorem law_g {P : Program} {w : World} {K : PySem.W.Frag} {mg mb : Str → Option Value} {k : Nat} {fa a : Addr} {fd : FuncData} {x : Str} {sp : Sp} {s₁ : Shared} {vs : List Value} {ns : List Int}
    (KX : K.In s₁.heap) (hns : s₁.heap.Ns mainGlobals mg) (hb : s₁.heap.Ns builtinsNs mb) (hbb : ∀ x : Str, x ≠ "__name__" → mb x = bootBuiltins x) (hlim : s₁.heap.NoLimit) (hg : s₁.gens = #[])
    (ha : s₁.heap.get? a = some { cls := .type "list", data := .seq vs.toArray }) (hi : IntsAre vs ns) (hl : ns.length ≤ sizeLine) (hr : Room k callerA)
    (F : ∀ base : Heap, K.In base → base.Ns mainGlobals mg → FnG P w K mg base k fa fd [x] sp) (hbind : ∀ (s : Shared) (u : Value), BindsTo s fd ⟨[u], []⟩ [(x, u)])
    (hsp : ∀ H : Hp, Only H → SqL K H a (ns.map V.int) → sp [.ref a] H (fun v _ => v = .bl true) fun _ _ _ => False) :
    codeAny (model P w) callerA (.call (.ref fa) ⟨[.ref a], []⟩) (fun r s' => r = .ok (.ret (.bool true)) ∧ OldK s₁.heap s'.heap ∧ s'.os = s₁.os ∧ AllBare s'.gens) s₁ := by
  have rv := vals_ints hi
  cases hk : K.lookup a with
  | some o =>
    have e := KX a o hk
    rw [ha] at e
    cases e
    have oo : Only (fun _ => none) := fun _ => .inl rfl
    refine law_core KX hns hb hbb hlim hg ha hr F hbind (fun _ => none) oo (fun b u z => by cases (z : (none : Option HO) = some u)) (fun b z => absurd rfl z) (fun z => absurd rfl z) (hsp _ oo ?_)
    refine .inr ⟨_, vs.toArray, _, hk, rfl, rfl, rfl, ?_, by simpa using rv⟩
    rw [List.size_toArray, hi.length]
    exact hl
  | none =>
    let H : Hp := fun b => if b = a then some (.frz { cls := .type "list", data := .seq vs.toArray } (.lst (ns.map V.int))) else none
    have at_ : H a = some (.frz { cls := .type "list", data := .seq vs.toArray } (.lst (ns.map V.int))) := if_pos rfl
    have off : ∀ {b : Addr}, b ≠ a → H b = none := fun n => if_neg n
    have oo : Only H := fun b => by
      by_cases z : b = a
      · subst z
        exact .inr ⟨_, _, at_⟩
      · exact .inl (off z)
    refine law_core KX hns hb hbb hlim hg ha hr F hbind H oo ?_ ?_ (fun _ => hk) (hsp _ oo (.inl (.inr ⟨_, at_⟩)))
    · intro b u z
      by_cases q : b = a
      · subst q
        rw [at_] at z
        cases z
        exact ⟨ha, by rw [List.length_map]; exact hl, vs, _, rv, ha⟩
      · rw [off q] at z
        cases z
    · intro b z
      by_cases q : b = a
      · exact q
      · exact absurd (off q) z

theorem walk_g {l : PySem.W.OpenLaw} {n k : Nat} {q : Program} {loose : List Str} {XP : (Str → Option Value) → Heap → Prop} {YP : World → Heap → Prop} {d : DefRec} {K : Params → PySem.W.Frag} {sp : World → Sp} {x : Str}
    (hn : l.most = some n) (hn2 : n ≤ sizeLine) (hdf : d.params.defaults = []) (hr : Room k callerA)
    (hY : ∀ (w : World) (h : Heap), YP w h → (K w.params).In h)
    (F : ∀ (w : World) (mg : Str → Option Value) (fa : Addr) (h : Heap), (K w.params).In h → h.Ns mainGlobals mg → mg d.name = some (.ref fa) →
      ∃ fd : FuncData, (∀ (s : Shared) (u : Value), BindsTo s fd ⟨[u], []⟩ [(x, u)]) ∧
        ∀ base : Heap, (K w.params).In base → base.Ns mainGlobals mg → FnG l.prog w (K w.params) mg base k fa fd [x] (sp w))
    (hsp : ∀ (w : World) (H : Hp) (a : Addr) (ns : List Int), ns.length ≤ n → Only H → SqL (K w.params) H a (ns.map V.int) → sp w [.ref a] H (fun v _ => v = .bl true) fun _ _ _ => False) :
    PySem.W.WalkO q loose XP YP l.row.toRowW d [] (fun f vs => PySem.call f vs) := by
  refine Att.attach_call hn hdf ?_
  intro w s₀ s₁ mg mb fa o pm cd doc a vs ns G Y ho hd hcd hmg hobj hints hlen hg
  obtain ⟨fd, hb, hF⟩ := F w mg fa _ (hY w _ Y) G.T.g hmg
  exact law_g (hY w _ Y) G.T.g G.T.b G.T.builtins G.T.nolimit hg hobj hints (Nat.le_trans hlen hn2) hr hF hb (fun H oo hS => hsp w H a ns hlen oo hS)
end G
namespace LamT
open PySem PySem.Spec PyProof.Rows L2 LamX

structure TE where
  P : Addr
  lo : Nat
  hi : Nat
  q : Str
def TabS (H : Hp) (e : TE) : Prop := ∃ tb : Array Value, H e.P = some (.tbl tb) ∧ TriplesOk tb.toList ∧ ∀ (at_ : Pos) (v : Value), e.lo ≤ at_.line → at_.line ≤ e.hi → codeAmong at_ tb.toList = some v → ∃ d, v = .ref d ∧ H d = some (CodeO d e.q)
def Tabs (T : List TE) (H : Hp) : Prop := ∀ e ∈ T, TabS H e
theorem TabS.nil {H : Hp} {e : TE} (h : H e.P = some (.tbl #[])) : TabS H e := by
  refine ⟨#[], h, trivial, ?_⟩
  intro at_ v _ _ z
  have z2 : codeAmong at_ ([] : List Value) = some v := z
  simp [codeAmong] at z2
end LamT
namespace AL
open PySem PySem.Spec PyProof.Rows L2 G
inductive Val where
  | non | bl (b : Bool) | int (i : Int) | str (x : Str) | tup (vs : List Val) | ref (n : Nat) | scr (ns : List Int)
  
  | lam (f c : Addr) (q : Str) (us : List V) (vs : List Val)
  
  | exc (a dd : Addr) (c : Str) (vs : List Val)
  
  | ptu (vs : List Val)
inductive Ob where
  | lst (vs : List Val)
  | dic (kvs : List (Key × Val))
  | set (w : World) (f : Int → Bool) (n : Nat)
  
  | obj (C : Str) (fs : List (Str × Val))
abbrev Sto := List Ob

class TT where
  T : List LamT.TE
  
  cls : Str → Addr
instance (priority := low) noTT : TT := ⟨[], fun _ => 0⟩

def xfs (c : Str) : List Str := if c = "NoPaper" then ["word", "at"] else if c = "NoEvent" then ["word", "at"] else if c = "NoWorld" then ["ring"] else if c = "Lied" then ["many"] else if c = "NoText" then ["row", "word"] else if c = "NoRow" then ["row"] else if c = "NoHouse" then ["name"] else ["number"]

theorem set_ne_code {w : World} {a : Addr} {f : Int → Bool} {n : Nat} {q : Str} : SetO w a f n ≠ LamX.CodeO a q := by
  intro z
  have e : (fun h => SetR w h a f n) = fun h => ∃ (oc : Obj) (vs : Array Value) (t : Tok), h.get? a = some oc ∧ oc.data = .fields vs ∧ vs[1]? = some (.str q t) := HO.ext.inj z
  have g : (⟨Array.replicate (a + 1) { cls := .none, data := .fields #[.none, .str q 0] }, {}⟩ : Heap).get? a = some { cls := .none, data := .fields #[.none, .str q 0] } := by
    unfold Heap.get?
    simp
  have y := congrFun e ⟨Array.replicate (a + 1) { cls := .none, data := .fields #[.none, .str q 0] }, {}⟩
  have h2 : ∃ (oc : Obj) (vs : Array Value) (t : Tok), (⟨Array.replicate (a + 1) { cls := .none, data := .fields #[.none, .str q 0] }, {}⟩ : Heap).get? a = some oc ∧ oc.data = .fields vs ∧ vs[1]? = some (.str q t) := ⟨_, _, 0, g, rfl, rfl⟩
  obtain ⟨o, es, ep, t, ho, _, hd, _⟩ := y.mpr h2
  rw [g] at ho
  cases ho
  cases hd
abbrev Rho := List (Option Val)

def SqF (K : PySem.W.Frag) (H : Hp) (a : Addr) (ns : List Int) : Prop :=
  (∃ o, H a = some (.frz o (.lst (ns.map V.int)))) ∨ ∃ (o : Obj) (its : Array Value) (n : Nat), K.lookup a = some o ∧ o.cls = .type "list" ∧ o.dict = none ∧ o.data = .seq its n ∧ its.size ≤ sizeLine ∧ Vals (ns.map V.int) its.toList
theorem SqF.sq {K : PySem.W.Frag} {H : Hp} {a : Addr} {ns : List Int} (h : SqF K H a ns) : SqL K H a (ns.map V.int) := by
  rcases h with ⟨o, h⟩ | h
  · exact .inl (.inr ⟨o, h⟩)
  · exact .inr h

def TupAt (K : PySem.W.Frag) (H : Hp) (a : Addr) (xs : List V) : Prop :=
  H a = some (.tup xs) ∨ (∃ (o : Obj) (its : Array Value) (n : Nat), K.lookup a = some o ∧ o.cls = .type "tuple" ∧ o.data = .seq its n ∧ its.size ≤ sizeLine ∧ Vals xs its.toList) ∨ ∃ o : Obj, H a = some (.frz o (.tup xs))
theorem TupAt.sq {K : PySem.W.Frag} {H : Hp} {a : Addr} {xs : List V} (h : TupAt K H a xs) : SqT K H a xs := by
  rcases h with h | h | ⟨o, h⟩
  · exact .inl (.inl h)
  · exact .inr h
  · exact .inl (.inr ⟨o, h⟩)
mutual
inductive VR (K : PySem.W.Frag) (H : Hp) (m : List Addr) : V → Val → Prop
  | non : VR K H m .non .non
  | bl (b : Bool) : VR K H m (.bl b) (.bl b)
  | int (i : Int) : VR K H m (.int i) (.int i)
  | str (x : Str) : VR K H m (.str x) (.str x)
  | tup {a : Addr} {xs : List V} {vs : List Val} : TupAt K H a xs → VRs K H m xs vs → VR K H m (.ref a) (.tup vs)
  | ref {a : Addr} {n : Nat} : m[n]? = some a → VR K H m (.ref a) (.ref n)
  | scr {a : Addr} {ns : List Int} : SqF K H a ns → VR K H m (.ref a) (.scr ns)
  | lam {f c : Addr} {q : Str} {us : List V} {vs : List Val} : H c = some (LamX.CodeO c q) → VRs K H m us vs → VR K H m (.ref f) (.lam f c q us vs)
  | exc {a dd : Addr} {c : Str} {fs : List (Str × V)} {us : List V} {vs : List Val} : H dd = some (.xd fs) → (∀ (i : Nat) (n : Str) (u : V), (xfs c)[i]? = some n → us[i]? = some u → fs.lookup n = some u) → VRs K H m us vs → VR K H m (.ref a) (.exc a dd c vs)
  | ptu {a : Addr} {o : Obj} {xs : List V} {vs : List Val} : H a = some (.frz o (.tup xs)) → o.dict = none → VRs K H m xs vs → VR K H m (.ref a) (.ptu vs)
inductive VRs (K : PySem.W.Frag) (H : Hp) (m : List Addr) : List V → List Val → Prop
  | nil : VRs K H m [] []
  | cons {u : V} {us : List V} {v : Val} {vs : List Val} : VR K H m u v → VRs K H m us vs → VRs K H m (u :: us) (v :: vs)
end

structure Kp (m : List Addr) (H : Hp) (m' : List Addr) (H' : Hp) : Prop where
  pre : ∃ r, m' = m ++ r
  tup : ∀ a xs, H a = some (.tup xs) → H' a = some (.tup xs)
  frz : ∀ a o u, H a = some (.frz o u) → H' a = some (.frz o u)
  xd : ∀ a fs, H a = some (.xd fs) → H' a = some (.xd fs)
  cod : ∀ a q, H a = some (LamX.CodeO a q) → H' a = some (LamX.CodeO a q)
theorem Kp.refl (m : List Addr) (H : Hp) : Kp m H m H := ⟨⟨[], (List.append_nil m).symm⟩, fun _ _ h => h, fun _ _ _ h => h, fun _ _ h => h, fun _ _ h => h⟩
theorem Kp.grow {m : List Addr} {H H' : Hp} (r : List Addr) (k : Kp m H m H') : Kp m H (m ++ r) H' := ⟨⟨r, rfl⟩, k.tup, k.frz, k.xd, k.cod⟩
theorem Kp.trans {m m1 m2 : List Addr} {H H1 H2 : Hp} (a : Kp m H m1 H1) (b : Kp m1 H1 m2 H2) : Kp m H m2 H2 := by
  obtain ⟨r, rfl⟩ := a.pre
  obtain ⟨q, rfl⟩ := b.pre
  exact ⟨⟨r ++ q, List.append_assoc ..⟩, fun x y h => b.tup x y (a.tup x y h), fun x y z h => b.frz x y z (a.frz x y z h), fun x y h => b.xd x y (a.xd x y h), fun x y h => b.cod x y (a.cod x y h)⟩
theorem Kp.get {m m' : List Addr} {H H' : Hp} (k : Kp m H m' H') {n : Nat} {a : Addr} (h : m[n]? = some a) : m'[n]? = some a := by
  obtain ⟨r, rfl⟩ := k.pre
  rw [List.getElem?_append_left (List.getElem?_eq_some_iff.mp h).1]
  exact h

def Mut (a : Addr) : HO → Prop := fun u => (∃ xs, u = .lst xs) ∨ (∃ xs, u = .dK xs) ∨ (∃ C dx fs, u = .ins C dx fs) ∨ ∃ w f n, u = SetO w a f n
theorem Mut.ne {a : Addr} {u : HO} (h : Mut a u) : (∀ xs, u ≠ .tup xs) ∧ (∀ o v, u ≠ .frz o v) ∧ (∀ fs, u ≠ .xd fs) ∧ (∀ q, u ≠ LamX.CodeO a q) ∧ ∀ ps, u ≠ .tbl ps := by
  rcases h with ⟨xs, rfl⟩ | ⟨xs, rfl⟩ | ⟨C, dx, fs, rfl⟩ | ⟨w, f, n, rfl⟩
  · refine ⟨?_, ?_, ?_, ?_, ?_⟩ <;> intros <;> intro z <;> cases z
  · refine ⟨?_, ?_, ?_, ?_, ?_⟩ <;> intros <;> intro z <;> cases z
  · refine ⟨?_, ?_, ?_, ?_, ?_⟩ <;> intros <;> intro z <;> cases z
  · refine ⟨fun _ z => ?_, fun _ _ z => ?_, fun _ z => ?_, fun _ => set_ne_code, fun _ z => ?_⟩ <;> (unfold SetO at z; cases z)
theorem Kp.at_ {m : List Addr} {H : Hp} {a : Addr} {o : HO} (h : ∀ u, H a = some u → Mut a u) : Kp m H m (upd H a o) := by
  refine ⟨⟨[], (List.append_nil m).symm⟩, fun b xs e => ?_, fun b o' u e => ?_, fun b xs e => ?_, fun b xs e => ?_⟩
  · rw [upd_ne (show b ≠ a from fun z => (h _ (z ▸ e)).ne.1 xs rfl)]
    exact e
  · rw [upd_ne (show b ≠ a from fun z => (h _ (z ▸ e)).ne.2.1 o' u rfl)]
    exact e
  · rw [upd_ne (show b ≠ a from fun z => (h _ (z ▸ e)).ne.2.2.1 xs rfl)]
    exact e
  · by_cases z : b = a
    · subst z
      exact absurd rfl ((h _ e).ne.2.2.2.1 xs)
    · rw [upd_ne z]
      exact e
theorem Kp.new {m : List Addr} {H : Hp} {a : Addr} {o : HO} (h : H a = none) : Kp m H m (upd H a o) := .at_ fun u e => by rw [h] at e; cases e
section
variable {K : PySem.W.Frag} {H H' : Hp} {m m' : List Addr}
theorem TupAt.kp (k : Kp m H m' H') {a : Addr} {xs : List V} (h : TupAt K H a xs) : TupAt K H' a xs := by
  rcases h with h | h | ⟨o, h⟩
  · exact .inl (k.tup _ _ h)
  · exact .inr (.inl h)
  · exact .inr (.inr ⟨o, k.frz _ _ _ h⟩)
theorem SqF.kp (k : Kp m H m' H') {a : Addr} {ns : List Int} (h : SqF K H a ns) : SqF K H' a ns := by
  rcases h with ⟨o, h⟩ | h
  · exact .inl ⟨o, k.frz _ _ _ h⟩
  · exact .inr h
mutual
theorem VR.kpA (k : Kp m H m' H') : ∀ (v : Val) (u : V), VR K H m u v → VR K H' m' u v
  | .non, _, h => by cases h; exact .non
  | .bl b, _, h => by cases h; exact .bl _
  | .int i, _, h => by cases h; exact .int _
  | .str x, _, h => by cases h; exact .str _
  | .ref n, _, h => by
    cases h with
    | ref e => exact .ref (k.get e)
  | .scr ns, _, h => by
    cases h with
    | scr e => exact .scr (e.kp k)
  | .lam f c q us vs, _, h => by
    cases h with
    | lam e r => exact .lam (k.cod _ _ e) (VRs.kpA k vs _ r)
  | .exc a dd c vs, _, h => by
    cases h with
    | exc e l r => exact .exc (k.xd _ _ e) l (VRs.kpA k vs _ r)
  | .ptu vs, _, h => by
    cases h with
    | ptu e d r => exact .ptu (k.frz _ _ _ e) d (VRs.kpA k vs _ r)
  | .tup vs, _, h => by
    cases h with
    | tup e r => exact .tup (e.kp k) (VRs.kpA k vs _ r)
theorem VRs.kpA (k : Kp m H m' H') : ∀ (vs : List Val) (us : List V), VRs K H m us vs → VRs K H' m' us vs
  | [], _, h => by cases h; exact .nil
  | v :: vs, _, h => by
    cases h with
    | cons a r => exact .cons (VR.kpA k v _ a) (VRs.kpA k vs _ r)
end
theorem VR.kp {u : V} {v : Val} (h : VR K H m u v) (k : Kp m H m' H') : VR K H' m' u v := VR.kpA k v u h
theorem VRs.kp {us : List V} {vs : List Val} (h : VRs K H m us vs) (k : Kp m H m' H') : VRs K H' m' us vs := VRs.kpA k vs us h
theorem VRs.len : ∀ {us : List V} {vs : List Val}, VRs K H m us vs → us.length = vs.length
  | _, _, .nil => rfl
  | _, _, .cons _ r => by rw [List.length_cons, List.length_cons, r.len]
theorem VRs.get : ∀ {us : List V} {vs : List Val} {i : Nat} {v : Val}, VRs K H m us vs → vs[i]? = some v → ∃ u, us[i]? = some u ∧ VR K H m u v
  | _, _, _, _, .nil, e => by simp at e
  | _, _, 0, _, .cons a q, e => by
    cases e
    exact ⟨_, rfl, a⟩
  | _, _, i + 1, _, .cons a q, e => q.get (i := i) e
theorem VRs.app : ∀ {us ws : List V} {vs xs : List Val}, VRs K H m us vs → VRs K H m ws xs → VRs K H m (us ++ ws) (vs ++ xs)
  | _, _, _, _, .nil, r => r
  | _, _, _, _, .cons a q, r => .cons a (q.app r)
theorem VRs.take : ∀ {us : List V} {vs : List Val} (n : Nat), VRs K H m us vs → VRs K H m (us.take n) (vs.take n)
  | _, _, 0, _ => .nil
  | _, _, _ + 1, .nil => .nil
  | _, _, n + 1, .cons a q => .cons a (q.take n)
theorem VRs.drop : ∀ {us : List V} {vs : List Val} (n : Nat), VRs K H m us vs → VRs K H m (us.drop n) (vs.drop n)
  | _, _, 0, h => h
  | _, _, _ + 1, .nil => .nil
  | _, _, n + 1, .cons a q => q.drop n
theorem VRs.set {u : V} {v : Val} (h : VR K H m u v) : ∀ {us : List V} {vs : List Val} (n : Nat), VRs K H m us vs → VRs K H m (us.set n u) (vs.set n v)
  | _, _, _, .nil => .nil
  | _, _, 0, .cons a q => .cons h q
  | _, _, n + 1, .cons a q => .cons a (q.set h n)
theorem VR.one {u : V} {v : Val} (h : VR K H m u v) : VRs K H m [u] [v] := .cons h .nil
end
variable [TT]

def OR (K : PySem.W.Frag) (H : Hp) (m : List Addr) (a : Addr) : Ob → Prop
  | .lst vs => ∃ xs, H a = some (.lst xs) ∧ VRs K H m xs vs
  | .dic kvs => ∃ xs : List (Key × V), H a = some (.dK xs) ∧ xs.map (·.1) = kvs.map (·.1) ∧ VRs K H m (xs.map (·.2)) (kvs.map (·.2))
  | .set w f n => H a = some (SetO w a f n)
  | .obj C fs => ∃ (dx : Addr) (xs : List (Str × V)), H a = some (.ins (TT.cls C) dx xs) ∧ xs.map (·.1) = fs.map (·.1) ∧ VRs K H m (xs.map (·.2)) (fs.map (·.2))
structure Rel (K : PySem.W.Frag) (m : List Addr) (S : Sto) (H : Hp) : Prop where
  len : m.length = S.length
  nd : m.Nodup
  ob : ∀ (n : Nat) (o : Ob) (a : Addr), S[n]? = some o → m[n]? = some a → OR K H m a o
  tb : LamT.Tabs TT.T H
structure Ext (m : List Addr) (H : Hp) (m' : List Addr) (H' : Hp) : Prop where
  pre : ∃ r, m' = m ++ r
  fr' : ∀ a o, H a = some o → a ∉ m → (∀ ps, o ≠ .tbl ps) → H' a = some o
  nw' : ∀ a o, a ∈ m' → a ∉ m → H a = some o → ∃ ps, o = .tbl ps
section
variable {K : PySem.W.Frag} {H H' H2 : Hp} {m m' m2 : List Addr} {S S' : Sto}
omit [TT] in
theorem Ext.refl (m : List Addr) (H : Hp) : Ext m H m H := ⟨⟨[], (List.append_nil m).symm⟩, fun _ _ h _ _ => h, fun _ _ h n => absurd h n⟩
omit [TT] in
theorem Ext.fr (e : Ext m H m' H') (a : Addr) (o : HO) (h : H a = some o) (n : a ∉ m) (t : ∀ ps, o ≠ .tbl ps := by intro ps z; cases z) : H' a = some o := e.fr' a o h n t
omit [TT] in
theorem Ext.no (e : Ext m H m' H') {a : Addr} {o : HO} (h : H a = some o) (n : a ∉ m) (t : ∀ ps, o ≠ .tbl ps := by intro ps z; cases z) : a ∉ m' := fun z => by
  obtain ⟨ps, e⟩ := e.nw' a o z n h
  exact t ps e
omit [TT] in
theorem Ext.mem (e : Ext m H m' H') {a : Addr} (h : a ∈ m) : a ∈ m' := by
  obtain ⟨r, rfl⟩ := e.pre
  exact List.mem_append_left _ h
omit [TT] in
theorem Ext.trans (a : Ext m H m' H') (b : Ext m' H' m2 H2) : Ext m H m2 H2 := by
  refine ⟨?_, fun x o h n t => b.fr' x o (a.fr' x o h n t) (a.no h n t) t, fun x o h n e => ?_⟩
  · obtain ⟨r, rfl⟩ := a.pre
    obtain ⟨q, rfl⟩ := b.pre
    exact ⟨r ++ q, List.append_assoc ..⟩
  · by_cases t : ∀ ps, o ≠ .tbl ps
    · exact b.nw' x o h (a.no e n t) (a.fr' x o e n t)
    · simpa using t
theorem Rel.find (R : Rel K m S H) {n : Nat} {a : Addr} (h : m[n]? = some a) : ∃ o, S[n]? = some o ∧ OR K H m a o := by
  have l := (List.getElem?_eq_some_iff.mp h).1
  have l2 : n < S.length := by rw [← R.len]; exact l
  exact ⟨S[n], List.getElem?_eq_getElem l2, R.ob n _ a (List.getElem?_eq_getElem l2) h⟩
theorem OR.some {a : Addr} {o : Ob} (h : OR K H m a o) : ∃ u, H a = some u ∧ Mut a u := by
  cases o with
  | lst vs => obtain ⟨xs, h, _⟩ := h; exact ⟨_, h, .inl ⟨xs, rfl⟩⟩
  | dic kvs => obtain ⟨xs, h, _⟩ := h; exact ⟨_, h, .inr (.inl ⟨xs, rfl⟩)⟩
  | set w f n => exact ⟨_, h, .inr (.inr (.inr ⟨w, f, n, rfl⟩))⟩
  | obj C fs => obtain ⟨dx, xs, h, _⟩ := h; exact ⟨_, h, .inr (.inr (.inl ⟨_, dx, xs, rfl⟩))⟩
theorem Rel.held (R : Rel K m S H) {a : Addr} (h : a ∈ m) : ∃ u, H a = some u ∧ Mut a u := by
  obtain ⟨n, hn⟩ := List.getElem?_of_mem h
  obtain ⟨o, _, q⟩ := R.find hn
  exact q.some
theorem Rel.off_ (R : Rel K m S H) {a : Addr} {u : HO} (h : H a = some u) (hu : ¬ Mut a u) : a ∉ m := fun z => by
  obtain ⟨u', e, hm⟩ := R.held z
  rw [h] at e
  cases e
  exact hu hm
theorem Rel.noTup (R : Rel K m S H) {a : Addr} {xs : List V} (h : H a = some (.tup xs)) : a ∉ m := R.off_ h fun z => z.ne.1 xs rfl
theorem Rel.noFrz (R : Rel K m S H) {a : Addr} {o : Obj} {u : HO} (h : H a = some (.frz o u)) : a ∉ m := R.off_ h fun z => z.ne.2.1 o u rfl
theorem Rel.noXd (R : Rel K m S H) {a : Addr} {fs : List (Str × V)} (h : H a = some (.xd fs)) : a ∉ m := R.off_ h fun z => z.ne.2.2.1 fs rfl
theorem Rel.noCod (R : Rel K m S H) {a : Addr} {q : Str} (h : H a = some (LamX.CodeO a q)) : a ∉ m := R.off_ h fun z => z.ne.2.2.2.1 q rfl
theorem Rel.noTbl (R : Rel K m S H) {a : Addr} {ps : Array Value} (h : H a = some (.tbl ps)) : a ∉ m := R.off_ h fun z => z.ne.2.2.2.2 ps rfl
theorem Rel.noNone (R : Rel K m S H) {a : Addr} (h : H a = none) : a ∉ m := fun z => by
  obtain ⟨u', e, _⟩ := R.held z
  rw [h] at e
  cases e

theorem Rel.kput (R : Rel K m S H) {a : Addr} {o : HO} (h : a ∈ m) : Kp m H m (upd H a o) := .at_ fun u e => by
  obtain ⟨u', e', hm⟩ := R.held h
  rw [e] at e'
  cases e'
  exact hm
theorem Ext.kp (R : Rel K m S H) (e : Ext m H m' H') : Kp m H m' H' := ⟨e.pre, fun a xs h => e.fr a _ h (R.noTup h), fun a o u h => e.fr a _ h (R.noFrz h), fun a xs h => e.fr a _ h (R.noXd h), fun a q h => e.fr' a _ h (R.noCod h) LamX.codeO_ne⟩
theorem OR.kp {a : Addr} {o : Ob} (h : OR K H m a o) (k : Kp m H m' H') (e : H' a = H a) : OR K H' m' a o := by
  cases o with
  | lst vs => obtain ⟨xs, h, r⟩ := h; exact ⟨xs, e.trans h, r.kp k⟩
  | dic kvs => obtain ⟨xs, h, q, r⟩ := h; exact ⟨xs, e.trans h, q, r.kp k⟩
  | set w f n => exact e.trans h
  | obj C fs => obtain ⟨dx, xs, h, q, r⟩ := h; exact ⟨dx, xs, e.trans h, q, r.kp k⟩

theorem tabs_kp {T : List LamT.TE} (h : LamT.Tabs T H) (k : Kp m H m' H') (t : ∀ P ps, H P = some (.tbl ps) → H' P = some (.tbl ps)) : LamT.Tabs T H' := fun p hp => by
  obtain ⟨ps, h1, h2, h3⟩ := h p hp
  refine ⟨ps, t _ _ h1, h2, fun pos cv l1 l2 hc => ?_⟩
  obtain ⟨c, e1, e2⟩ := h3 pos cv l1 l2 hc
  exact ⟨c, e1, k.cod _ _ e2⟩
theorem Rel.off (R : Rel K m S H) (k : Kp m H m H') (e : ∀ a ∈ m, H' a = H a) (t : ∀ P ps, H P = some (.tbl ps) → H' P = some (.tbl ps)) : Rel K m S H' :=
  ⟨R.len, R.nd, fun n o a h1 h2 => (R.ob n o a h1 h2).kp k (e a (List.mem_of_getElem? h2)), tabs_kp R.tb k t⟩
omit [TT] in
theorem tbl_at {a P : Addr} {o u : HO} {ps : Array Value} (h : H a = some u) (hu : ∀ ps, u ≠ .tbl ps) (e : H P = some (.tbl ps)) : upd H a o P = some (.tbl ps) := by
  rw [upd_ne fun z => ?_]
  · exact e
  · rw [z, h] at e
    cases e
    exact hu _ rfl
omit [TT] in
theorem Ext.off (e : ∀ a o, H a = some o → a ∉ m → H' a = some o) : Ext m H m H' := ⟨⟨[], (List.append_nil m).symm⟩, fun a o h n _ => e a o h n, fun _ _ h n => absurd h n⟩

theorem Rel.tmp (R : Rel K m S H) {p : Addr} {o : HO} (h : H p = none) : Rel K m S (upd H p o) ∧ Ext m H m (upd H p o) := by
  refine ⟨R.off (.new h) (fun a ha => upd_ne fun z => R.noNone h (z ▸ ha)) fun P ps e => by rw [upd_ne (ne_of_none e h)]; exact e, .off fun a o' e n => ?_⟩
  rw [upd_ne (ne_of_none e h)]
  exact e

theorem Rel.alloc (R : Rel K m S H) {p : Addr} {o : HO} {b : Ob} (h : H p = none) (hb : OR K (upd H p o) (m ++ [p]) p b) : Rel K (m ++ [p]) (S ++ [b]) (upd H p o) ∧ Ext m H (m ++ [p]) (upd H p o) := by
  have k : Kp m H (m ++ [p]) (upd H p o) := .grow [p] (.new h)
  have np := R.noNone h
  refine ⟨⟨by simp [R.len], ?_, fun n o' a h1 h2 => ?_, tabs_kp R.tb k fun P ps e => by rw [upd_ne (ne_of_none e h)]; exact e⟩, ⟨⟨[p], rfl⟩, fun a o' e n _ => ?_, fun a o' ha n e => ?_⟩⟩
  · rw [List.nodup_append]
    refine ⟨R.nd, by simp, fun a ha b hb z => ?_⟩
    simp only [List.mem_singleton] at hb
    exact np (hb ▸ z ▸ ha)
  · by_cases hn : n < S.length
    · rw [List.getElem?_append_left hn] at h1
      rw [List.getElem?_append_left (by rw [R.len]; exact hn)] at h2
      refine (R.ob n o' a h1 h2).kp k (upd_ne fun z => np (z ▸ List.mem_of_getElem? h2))
    · have e : n = S.length := by
        have := (List.getElem?_eq_some_iff.mp h1).1
        simp only [List.length_append, List.length_singleton] at this
        omega
      subst e
      rw [List.getElem?_concat_length] at h1
      rw [← R.len, List.getElem?_concat_length] at h2
      cases h1
      cases h2
      exact hb
  · rw [upd_ne (ne_of_none e h)]
    exact e
  · rcases List.mem_append.mp ha with q | q
    · exact absurd q n
    · simp only [List.mem_singleton] at q
      rw [q, h] at e
      cases e

theorem Rel.put (R : Rel K m S H) {n : Nat} {a : Addr} {o : HO} {b : Ob} (h : m[n]? = some a) (hb : OR K (upd H a o) m a b) : Rel K m (S.set n b) (upd H a o) ∧ Ext m H m (upd H a o) := by
  have ha := List.mem_of_getElem? h
  have k : Kp m H m (upd H a o) := R.kput ha
  refine ⟨⟨by simp [R.len], R.nd, fun n' o' a' h1 h2 => ?_, tabs_kp R.tb k fun P ps e => by rw [upd_ne (show P ≠ a from fun z => R.noTbl e (z ▸ ha))]; exact e⟩, .off fun x o' e nx => ?_⟩
  · by_cases z : n' = n
    · subst z
      rw [h] at h2
      cases h2
      have l := (List.getElem?_eq_some_iff.mp h1).1
      rw [List.length_set] at l
      rw [List.getElem?_set_self l] at h1
      cases h1
      exact hb
    · rw [List.getElem?_set_ne (Ne.symm z)] at h1
      refine (R.ob n' o' a' h1 h2).kp k (upd_ne fun q => z ?_)
      have l1 := (List.getElem?_eq_some_iff.mp h).1
      have l2 := (List.getElem?_eq_some_iff.mp h2).1
      rw [← q] at h
      exact (List.getElem?_inj l2 R.nd).mp (h2.trans h.symm)
  · rw [upd_ne (show x ≠ a from fun z => nx (z ▸ ha))]
    exact e
end
structure RhoR (K : PySem.W.Frag) (H : Hp) (m : List Addr) (ρ : Rho) (σ : L2.St) : Prop where
  len : ρ.length = σ.length
  at_ : ∀ (i : Nat) (v : Val), ρ[i]? = some (some v) → ∃ u, σ[i]? = some (some u) ∧ VR K H m u v
section
variable {K : PySem.W.Frag} {H H' : Hp} {m m' : List Addr} {ρ : Rho} {σ : L2.St}
theorem RhoR.kp (r : RhoR K H m ρ σ) (k : Kp m H m' H') : RhoR K H' m' ρ σ := ⟨r.len, fun i v h => let ⟨u, h1, h2⟩ := r.at_ i v h; ⟨u, h1, h2.kp k⟩⟩
theorem RhoR.set (r : RhoR K H m ρ σ) {u : V} {v : Val} (h : VR K H m u v) (i : Nat) : RhoR K H m (ρ.set i (some v)) (σ.set i (some u)) := by
  refine ⟨by simp [r.len], fun j w e => ?_⟩
  by_cases z : i = j
  · subst z
    have l := (List.getElem?_eq_some_iff.mp e).1
    rw [List.length_set] at l
    rw [List.getElem?_set_self l] at e
    cases e
    exact ⟨u, List.getElem?_set_self (by rw [← r.len]; exact l), h⟩
  · rw [List.getElem?_set_ne z] at e
    rw [List.getElem?_set_ne z]
    exact r.at_ j w e
theorem RhoR.unset (r : RhoR K H m ρ σ) (i : Nat) (o : Option V) : RhoR K H m (ρ.set i none) (σ.set i o) := by
  refine ⟨by simp [r.len], fun j w e => ?_⟩
  by_cases z : i = j
  · subst z
    have l := (List.getElem?_eq_some_iff.mp e).1
    rw [List.length_set] at l
    rw [List.getElem?_set_self l] at e
    cases e
  · rw [List.getElem?_set_ne z] at e
    rw [List.getElem?_set_ne z]
    exact r.at_ j w e
end
end AL
namespace AL
open PySem PySem.Spec PyProof.Rows L2 G
variable [TT]
abbrev EF := Rho → Sto → Option (Val × Sto)
abbrev BF := Rho → Sto → Option (Bool × Sto)
abbrev AF := Rho → Sto → Option (List Val × Sto)
def tF (K : PySem.W.Frag) (f : EF) : TE := fun σ H Q => ∃ m ρ S v S', Rel K m S H ∧ RhoR K H m ρ σ ∧ f ρ S = some (v, S') ∧ ∀ m' u H', Ext m H m' H' → Rel K m' S' H' → VR K H' m' u v → Q u H'
def tFb (K : PySem.W.Frag) (f : BF) : L2.TT := fun σ H Q => ∃ m ρ S b S', Rel K m S H ∧ RhoR K H m ρ σ ∧ f ρ S = some (b, S') ∧ ∀ m' H', Ext m H m' H' → Rel K m' S' H' → Q b H'
def tFa (K : PySem.W.Frag) (f : AF) : TA := fun σ H Q => ∃ m ρ S vs S', Rel K m S H ∧ RhoR K H m ρ σ ∧ f ρ S = some (vs, S') ∧ ∀ m' us H', Ext m H m' H' → Rel K m' S' H' → VRs K H' m' us vs → Q us H'
abbrev AE (X : Cx) (e : Expr) (f : EF) : Prop := PE X e (tF X.K f)
abbrev AT (X : Cx) (e : Expr) (f : BF) : Prop := PT X e (tFb X.K f)
abbrev AW (X : Cx) (e : Expr) (f : BF) : Prop := PW X e (tFb X.K f)
abbrev AA (X : Cx) (es : List Expr) (f : AF) : Prop := PA X es (tFa X.K f)
section
variable {X : Cx} {e a b c : Expr} {es : List Expr} {pos : Pos} {f fa fb fc : EF} {K : PySem.W.Frag}
theorem pe_w {t t' : TE} (h : PE X e t) (hi : ∀ σ H Q, t' σ H Q → t σ H Q) : PE X e t' := ⟨fun pins s σ H Q I hq => h.run pins s σ H Q I (hi σ H Q hq)⟩
theorem pt_w {t t' : L2.TT} (h : PT X e t) (hi : ∀ σ H Q, t' σ H Q → t σ H Q) : PT X e t' := ⟨fun pins s σ H Q I hq => h.run pins s σ H Q I (hi σ H Q hq)⟩
theorem pw_w {t t' : L2.TT} (h : PW X e t) (hi : ∀ σ H Q, t' σ H Q → t σ H Q) : PW X e t' := ⟨fun w pins s σ H Q I hq => h.run w pins s σ H Q I (hi σ H Q hq)⟩
theorem pa_w {t t' : TA} (h : PA X es t) (hi : ∀ σ H Q, t' σ H Q → t σ H Q) : PA X es t' := ⟨fun p pins s σ H Q I hq => h.run p pins s σ H Q I (hi σ H Q hq)⟩
def eV (i : Nat) : EF := fun ρ S => match ρ[i]? with
  | some (some v) => some (v, S)
  | _ => none
def eC (v : Val) : EF := fun _ S => some (v, S)
theorem av (i : Nat) {x : Str} (hN : X.N[i]? = some x := by rfl) (hv : Vis X.env.scope x := by first | exact Or.inl rfl | exact Or.inr (Or.inl rfl) | exact Or.inr (Or.inr rfl)) (hd : (x == ("__debug__" : Str)) = false := by decide)
    (hcd : (x == ("__classdict__" : Str)) = false := by decide) : AE X (.Name x pos) (eV i) := by
  refine pe_w (pe_var hN hv hd hcd) fun σ H Q h => ?_
  obtain ⟨m, ρ, S, v, S', R, r, e, q⟩ := h
  unfold eV at e
  split at e
  · next w hw =>
    cases e
    obtain ⟨u, h1, h2⟩ := r.at_ i _ hw
    exact ⟨u, h1, q m u H (.refl _ _) R h2⟩
  · cases e
theorem ac {u : V} {v : Val} (h : PE X e (tC u)) (hv : ∀ H m, VR X.K H m u v) : AE X e (eC v) := by
  refine pe_w h fun σ H Q h => ?_
  obtain ⟨m, ρ, S, w, S', R, r, e, q⟩ := h
  cases e
  exact q m u H (.refl _ _) R (hv H m)
theorem ai {i : Int} {j : Nat} : AE X (.Constant (.int i) j pos) (eC (.int i)) := ac pe_int fun _ _ => .int i
theorem abl {i : Bool} {j : Nat} : AE X (.Constant (.bool i) j pos) (eC (.bl i)) := ac pe_bl fun _ _ => .bl i
theorem an {j : Nat} : AE X (.Constant .none j pos) (eC .non) := ac pe_non fun _ _ => .non
theorem astr {x : Str} {j : Nat} : AE X (.Constant (.str x) j pos) (eC (.str x)) := ac pe_str fun _ _ => .str x
def eB (g : Val → Val → Sto → Option (Val × Sto)) (fa fb : EF) : EF := fun ρ S => (fa ρ S).bind fun p => (fb ρ p.2).bind fun q => g p.1 q.1 q.2
def OpA (K : PySem.W.Frag) (r : R2) (g : Val → Val → Sto → Option (Val × Sto)) : Prop := ∀ m S H x y v S' u w Q, Rel K m S H → VR K H m u x → VR K H m w y → g x y S = some (v, S') →
  (∀ m' z H', Ext m H m' H' → Rel K m' S' H' → VR K H' m' z v → Q z H') → r u w H Q
theorem eB_ok {r : R2} {g : Val → Val → Sto → Option (Val × Sto)} (hg : OpA K r g) {σ : L2.St} {H : Hp} {Q : VK} (h : tF K (eB g fa fb) σ H Q) : tOp r (tF K fa) (tF K fb) σ H Q := by
  obtain ⟨m, ρ, S, v, S', R, r, e, q⟩ := h
  obtain ⟨⟨x, S1⟩, e1, e⟩ := Option.bind_eq_some_iff.mp e
  obtain ⟨⟨y, S2⟩, e2, e⟩ := Option.bind_eq_some_iff.mp e
  refine ⟨m, ρ, S, x, S1, R, r, e1, fun m1 u H1 E1 R1 r1 => ⟨m1, ρ, S1, y, S2, R1, r.kp (E1.kp R), e2, fun m2 w H2 E2 R2 r2 => ?_⟩⟩
  exact hg m2 S2 H2 x y v S' u w Q R2 (r1.kp (E2.kp R1)) r2 e fun m3 z H3 E3 R3 r3 => q m3 z H3 ((E1.trans E2).trans E3) R3 r3
theorem aop {op : Operator} {r : R2} {g : Val → Val → Sto → Option (Val × Sto)} (ho : OpR X (binaryOp op) r) (hg : OpA X.K r g) (ha : AE X a fa) (hb : AE X b fb) : AE X (.BinOp a op b pos) (eB g fa fb) := pe_w (pe_op ho ha hb) fun _ _ _ h => eB_ok hg h
theorem acm {op : CmpOp} {r : R2} {g : Val → Val → Sto → Option (Val × Sto)} (ho : OpR X (compareOp op) r) (hg : OpA X.K r g) (ha : AE X a fa) (hb : AE X b fb) (hm : behindInMarks op b = false) : AE X (.Compare a [op] [b] pos) (eB g fa fb) := pe_w (pe_cmpR ho ha hb hm) fun _ _ _ h => eB_ok hg h
def eT (f : EF) : BF := fun ρ S => (f ρ S).bind fun p => match p.1 with
  | .bl b => some (b, p.2)
  | _ => none
theorem eT_ok {σ : L2.St} {H : Hp} {Q : Bool → Hp → Prop} (h : tFb K (eT f) σ H Q) : tF K f σ H fun x H' => ∃ k, x = .bl k ∧ Q k H' := by
  obtain ⟨m, ρ, S, v, S', R, r, e, q⟩ := h
  obtain ⟨⟨x, S1⟩, e1, e⟩ := Option.bind_eq_some_iff.mp e
  refine ⟨m, ρ, S, x, S1, R, r, e1, fun m1 u H1 E1 R1 r1 => ?_⟩
  cases x <;> try cases e
  cases r1
  exact ⟨_, rfl, q m1 H1 E1 R1⟩
theorem atc {op : CmpOp} {r : R2} {g : Val → Val → Sto → Option (Val × Sto)} (ho : OpR X (compareOp op) r) (hg : OpA X.K r g) (ha : AE X a fa) (hb : AE X b fb) (hm : behindInMarks op b = false) : AT X (.Compare a [op] [b] pos) (eT (eB g fa fb)) := pt_w (pt_cmpR ho ha hb hm) fun _ _ _ h => eB_ok hg (eT_ok h)
theorem atv (ha : AE X e f) (he : ∀ whole, isTrue e X.env whole = (do let v ← whole; standAt e.pos; holding [v] (truthy v)) := by intro _; rfl) : AT X e (eT f) := pt_w (pt_val ha he) fun _ _ _ h => eT_ok h
def bAnd (f g : BF) : BF := fun ρ S => (f ρ S).bind fun p => if p.1 then g ρ p.2 else some (false, p.2)
def bOr (f g : BF) : BF := fun ρ S => (f ρ S).bind fun p => if p.1 then some (true, p.2) else g ρ p.2
def bNot (f : BF) : BF := fun ρ S => (f ρ S).bind fun p => some (!p.1, p.2)
variable {g1 g2 : BF} {rest : List Expr}
theorem aw1 (h : AT X a g1) : AW X (.BoolOp .And [a] pos) g1 := pw_and1 h
theorem awo1 (h : AT X a g1) : AW X (.BoolOp .Or [a] pos) g1 := pw_or1 h
theorem aw (h : AT X a g1) (h2 : AW X (.BoolOp .And (b :: rest) pos) g2) : AW X (.BoolOp .And (a :: b :: rest) pos) (bAnd g1 g2) := by
  refine pw_w (pw_and h h2) fun σ H Q h => ?_
  obtain ⟨m, ρ, S, v, S', R, r, e, q⟩ := h
  obtain ⟨⟨x, S1⟩, e1, e⟩ := Option.bind_eq_some_iff.mp e
  refine ⟨m, ρ, S, x, S1, R, r, e1, fun m1 H1 E1 R1 => ?_⟩
  cases x with
  | true => exact ⟨m1, ρ, S1, v, S', R1, r.kp (E1.kp R), e, fun m2 H2 E2 R2 => q m2 H2 (E1.trans E2) R2⟩
  | false =>
    cases e
    exact q m1 H1 E1 R1
theorem awo (h : AT X a g1) (h2 : AW X (.BoolOp .Or (b :: rest) pos) g2) : AW X (.BoolOp .Or (a :: b :: rest) pos) (bOr g1 g2) := by
  refine pw_w (pw_or h h2) fun σ H Q h => ?_
  obtain ⟨m, ρ, S, v, S', R, r, e, q⟩ := h
  obtain ⟨⟨x, S1⟩, e1, e⟩ := Option.bind_eq_some_iff.mp e
  refine ⟨m, ρ, S, x, S1, R, r, e1, fun m1 H1 E1 R1 => ?_⟩
  cases x with
  | true =>
    cases e
    exact q m1 H1 E1 R1
  | false => exact ⟨m1, ρ, S1, v, S', R1, r.kp (E1.kp R), e, fun m2 H2 E2 R2 => q m2 H2 (E1.trans E2) R2⟩
theorem atw (h : AW X e g1) : AT X e g1 := PW.pt h
theorem atn (h : AT X a g1) : AT X (.UnaryOp .Not a pos) (bNot g1) := by
  refine pt_w (pt_not h) fun σ H Q h => ?_
  obtain ⟨m, ρ, S, v, S', R, r, e, q⟩ := h
  obtain ⟨⟨x, S1⟩, e1, e⟩ := Option.bind_eq_some_iff.mp e
  cases e
  exact ⟨m, ρ, S, x, _, R, r, e1, q⟩

def eAnd (f g : EF) : EF := fun ρ S => (f ρ S).bind fun p => match p.1 with
  | .bl true => g ρ p.2
  | .bl false => some (.bl false, p.2)
  | _ => none
def eOr (f g : EF) : EF := fun ρ S => (f ρ S).bind fun p => match p.1 with
  | .bl true => some (.bl true, p.2)
  | .bl false => g ρ p.2
  | _ => none
def eNot (f : EF) : EF := fun ρ S => (f ρ S).bind fun p => match p.1 with
  | .bl b => some (.bl (!b), p.2)
  | _ => none
def eIf (t : BF) (fa fb : EF) : EF := fun ρ S => (t ρ S).bind fun p => if p.1 then fa ρ p.2 else fb ρ p.2
theorem aif (hc : AT X c g1) (ha : AE X a fa) (hb : AE X b fb) : AE X (.IfExp c a b pos) (eIf g1 fa fb) := by
  refine pe_w (pe_ifExp hc ha hb) fun σ H Q h => ?_
  obtain ⟨m, ρ, S, v, S', R, r, e, q⟩ := h
  obtain ⟨⟨x, S1⟩, e1, e⟩ := Option.bind_eq_some_iff.mp e
  refine ⟨m, ρ, S, x, S1, R, r, e1, fun m1 H1 E1 R1 => ?_⟩
  cases x with
  | true => exact ⟨m1, ρ, S1, v, S', R1, r.kp (E1.kp R), e, fun m2 u H2 E2 R2 r2 => q m2 u H2 (E1.trans E2) R2 r2⟩
  | false => exact ⟨m1, ρ, S1, v, S', R1, r.kp (E1.kp R), e, fun m2 u H2 E2 R2 r2 => q m2 u H2 (E1.trans E2) R2 r2⟩

def eCh (g g' : Val → Val → Sto → Option (Val × Sto)) (fa fb fc : EF) : EF := fun ρ S => (fa ρ S).bind fun p => (fb ρ p.2).bind fun q => (g p.1 q.1 q.2).bind fun z => match z.1 with
  | .bl true => (fc ρ z.2).bind fun w => g' q.1 w.1 w.2
  | .bl false => some (.bl false, z.2)
  | _ => none
theorem eCh_ok {r r' : R2} {g g' : Val → Val → Sto → Option (Val × Sto)} (hg : OpA K r g) (hg' : OpA K r' g') {σ : L2.St} {H : Hp} {Q : VK} (h : tF K (eCh g g' fa fb fc) σ H Q) : tChain r r' (tF K fa) (tF K fb) (tF K fc) σ H Q := by
  obtain ⟨m, ρ, S, v, S', R, r, e, q⟩ := h
  obtain ⟨⟨x, S1⟩, e1, e⟩ := Option.bind_eq_some_iff.mp e
  obtain ⟨⟨y, S2⟩, e2, e⟩ := Option.bind_eq_some_iff.mp e
  obtain ⟨⟨z, S3⟩, e3, e⟩ := Option.bind_eq_some_iff.mp e
  refine ⟨m, ρ, S, x, S1, R, r, e1, fun m1 u H1 E1 R1 r1 => ⟨m1, ρ, S1, y, S2, R1, r.kp (E1.kp R), e2, fun m2 w H2 E2 R2 r2 => ?_⟩⟩
  refine hg m2 S2 H2 x y z S3 u w _ R2 (r1.kp (E2.kp R1)) r2 e3 fun m3 z' H3 E3 R3 r3 => ?_
  cases z <;> try cases e
  rename_i k
  cases r3
  refine ⟨k, rfl, ?_⟩
  cases k with
  | false =>
    cases e
    exact q m3 _ H3 ((E1.trans E2).trans E3) R3 (.bl _)
  | true =>
    obtain ⟨⟨w', S4⟩, e4, e⟩ := Option.bind_eq_some_iff.mp e
    refine ⟨m3, ρ, S3, w', S4, R3, r.kp (((E1.trans E2).trans E3).kp R), e4, fun m4 w4 H4 E4 R4 r4 => ?_⟩
    exact hg' m4 S4 H4 y w' v S' w w4 Q R4 (r2.kp ((E3.trans E4).kp R2)) r4 e fun m5 z5 H5 E5 R5 r5 => q m5 z5 H5 ((((E1.trans E2).trans E3).trans E4).trans E5) R5 r5
theorem atch {op op' : CmpOp} {r r' : R2} {g g' : Val → Val → Sto → Option (Val × Sto)} (ho : OpR X (compareOp op) r) (hg : OpA X.K r g) (ho' : OpR X (compareOp op') r') (hg' : OpA X.K r' g') (ha : AE X a fa) (hb : AE X b fb) (hc : AE X c fc)
    (hm : lastMarks [op, op'] [b, c] = false := by with_unfolding_all rfl) : AT X (.Compare a [op, op'] [b, c] pos) (eT (eCh g g' fa fb fc)) := pt_w (pt_chain ho ho' ha hb hc hm) fun _ _ _ h => eCh_ok hg hg' (eT_ok h)
def aNil : AF := fun _ S => some ([], S)
def aCons (f : EF) (g : AF) : AF := fun ρ S => (f ρ S).bind fun p => (g ρ p.2).bind fun q => some (p.1 :: q.1, q.2)
variable {ga : AF}
theorem aan : AA X [] aNil := by
  refine pa_w pa_nil fun σ H Q h => ?_
  obtain ⟨m, ρ, S, v, S', R, r, e, q⟩ := h
  cases e
  exact q m [] H (.refl _ _) R .nil
theorem aac (ha : AE X e f) (hr : AA X es ga) (hs : starEach (e :: es) X.env = (false, eval e X.env) :: starEach es X.env := by rfl) : AA X (e :: es) (aCons f ga) := by
  refine pa_w (pa_cons ha hr hs) fun σ H Q h => ?_
  obtain ⟨m, ρ, S, v, S', R, r, e, q⟩ := h
  obtain ⟨⟨x, S1⟩, e1, e⟩ := Option.bind_eq_some_iff.mp e
  obtain ⟨⟨y, S2⟩, e2, e⟩ := Option.bind_eq_some_iff.mp e
  cases e
  exact ⟨m, ρ, S, x, S1, R, r, e1, fun m1 u H1 E1 R1 r1 => ⟨m1, ρ, S1, y, S2, R1, r.kp (E1.kp R), e2, fun m2 w H2 E2 R2 r2 => q m2 _ H2 (E1.trans E2) R2 (.cons (r1.kp (E2.kp R1)) r2)⟩⟩
def eTup (g : AF) : EF := fun ρ S => (g ρ S).bind fun p => if p.1.length ≤ 1000000 then some (.tup p.1, p.2) else none
def eLst (g : AF) : EF := fun ρ S => (g ρ S).bind fun p => if p.1.length ≤ 1000000 then some (.ref p.2.length, p.2 ++ [.lst p.1]) else none
theorem mill {n : Nat} (h : n ≤ 1000000) : n ≤ sizeLine := Nat.le_trans h (by decide)
theorem atup {k : Nat} (h : AA X es ga) : AE X (.Tuple es k pos) (eTup ga) := by
  refine pe_w (pe_tup h) fun σ H Q h => ?_
  obtain ⟨m, ρ, S, v, S', R, r, e, q⟩ := h
  obtain ⟨⟨x, S1⟩, e1, e⟩ := Option.bind_eq_some_iff.mp e
  refine ⟨m, ρ, S, x, S1, R, r, e1, fun m1 us H1 E1 R1 r1 => ?_⟩
  dsimp only at e
  split at e
  · next hl =>
    cases e
    refine ⟨by rw [r1.len]; exact mill hl, fun p hp => ?_⟩
    obtain ⟨R2, E2⟩ := R1.tmp (o := .tup us) hp
    exact q m1 _ _ (E1.trans E2) R2 (.tup (.inl upd_same) (r1.kp (E2.kp R1)))
  · cases e
theorem alst (h : AA X es ga) : AE X (.List es pos) (eLst ga) := by
  refine pe_w (pe_lst h) fun σ H Q h => ?_
  obtain ⟨m, ρ, S, v, S', R, r, e, q⟩ := h
  obtain ⟨⟨x, S1⟩, e1, e⟩ := Option.bind_eq_some_iff.mp e
  refine ⟨m, ρ, S, x, S1, R, r, e1, fun m1 us H1 E1 R1 r1 => ?_⟩
  dsimp only at e
  split at e
  · next hl =>
    cases e
    refine ⟨by rw [r1.len]; exact mill hl, fun p hp => ?_⟩
    have k1 : Kp m1 H1 (m1 ++ [p]) (upd H1 p (.lst us)) := .grow [p] (.new hp)
    obtain ⟨R2, E2⟩ := R1.alloc (o := .lst us) (b := .lst x) hp ⟨us, upd_same, r1.kp k1⟩
    refine q _ _ _ (E1.trans E2) R2 (.ref ?_)
    rw [← R1.len, List.getElem?_concat_length]
  · cases e
def eCall (g : List Val → Sto → Option (Val × Sto)) (ga : AF) : EF := fun ρ S => (ga ρ S).bind fun p => g p.1 p.2
def CaA (K : PySem.W.Frag) (r : List V → Hp → VK → Prop) (g : List Val → Sto → Option (Val × Sto)) : Prop := ∀ m S H xs v S' us Q, Rel K m S H → VRs K H m us xs → g xs S = some (v, S') →
  (∀ m' z H', Ext m H m' H' → Rel K m' S' H' → VR K H' m' z v → Q z H') → r us H Q
theorem eCall_ok {r : List V → Hp → VK → Prop} {g : List Val → Sto → Option (Val × Sto)} (hg : CaA K r g) {σ : L2.St} {H : Hp} {Q : VK} (h : tF K (eCall g ga) σ H Q) : tFa K ga σ H fun us H1 => r us H1 Q := by
  obtain ⟨m, ρ, S, v, S', R, r, e, q⟩ := h
  obtain ⟨⟨x, S1⟩, e1, e⟩ := Option.bind_eq_some_iff.mp e
  exact ⟨m, ρ, S, x, S1, R, r, e1, fun m1 us H1 E1 R1 r1 => hg m1 S1 H1 x v S' us Q R1 r1 e fun m2 z H2 E2 R2 r2 => q m2 z H2 (E1.trans E2) R2 r2⟩
theorem CaA.or {r r' : List V → Hp → VK → Prop} {g g' : List Val → Sto → Option (Val × Sto)} (h : CaA K r g) (h' : CaA K r' g') : CaA K (fun x H Q => r x H Q ∨ r' x H Q) (fun x S => (g x S).or (g' x S)) := by
  intro m S H x v S' u Q R ru e q
  cases eg : g x S with
  | some p =>
    simp only [eg, Option.some_or] at e
    cases e
    exact .inl (h m S H x v S' u Q R ru eg q)
  | none =>
    simp only [eg, Option.none_or] at e
    exact .inr (h' m S H x v S' u Q R ru e q)
theorem CallR.or {f : Value} {r r' : List V → Hp → VK → Prop} (h : CallR X f r) (h' : CallR X f r') : CallR X f (fun xs H Q => r xs H Q ∨ r' xs H Q) := by
  intro pins s σ H xs us Q I rs q
  rcases q with q | q
  · exact h pins s σ H xs us Q I rs q
  · exact h' pins s σ H xs us Q I rs q
theorem acb {id : String} {x : Str} {p : Pos} {r : List V → Hp → VK → Prop} {g : List Val → Sto → Option (Val × Sto)} (hc : CallR X (.builtin id) r) (hgg : CaA X.K r g) (hg : Gl X x) (hm : X.mg x = none) (hv : bootBuiltins x = some (.builtin id)) (ha : AA X (e :: es) ga) (hn : x ≠ "__name__" := by decide) (hdb : (x == ("__debug__" : Str)) = false := by decide)
    (he : starEach (e :: es) X.env = (false, eval e X.env) :: starEach es X.env := by rfl) (hpl : (backTo pos (starEach es X.env)).any (·.1) = false := by rfl) : AE X (.Call (.Name x p) (e :: es) [] pos) (eCall g ga) :=
  pe_w (pe_callB hc hg hm hv ha hn hdb he hpl) fun _ _ _ h => eCall_ok hgg h
theorem act {T : String} {x : Str} {p : Pos} {r : List V → Hp → VK → Prop} {g : List Val → Sto → Option (Val × Sto)} (hc : CallR X (.type T) r) (hgg : CaA X.K r g) (hg : Gl X x) (hm : X.mg x = none) (hv : bootBuiltins x = some (.type T)) (ha : AA X (e :: es) ga) (hn : x ≠ "__name__" := by decide) (hdb : (x == ("__debug__" : Str)) = false := by decide)
    (he : starEach (e :: es) X.env = (false, eval e X.env) :: starEach es X.env := by rfl) (hpl : (backTo pos (starEach es X.env)).any (·.1) = false := by rfl) : AE X (.Call (.Name x p) (e :: es) [] pos) (eCall g ga) :=
  pe_w (pe_callTy hc hg hm hv ha hn hdb he hpl) fun _ _ _ h => eCall_ok hgg h
abbrev FA := List Val → Sto → Option (Val × Sto)
def spA (K : PySem.W.Frag) (n : Nat) (F : FA) : Sp := fun us H Q _ => us.length = n ∧ ∃ m S vs v S', Rel K m S H ∧ VRs K H m us vs ∧ F vs S = some (v, S') ∧ ∀ m' z H', Ext m H m' H' → Rel K m' S' H' → VR K H' m' z v → Q z H'

structure Def (P : Program) (w : World) (K : PySem.W.Frag) (mg : Str → Option Value) (base : Heap) (k : Nat) (x : Str) (ps : List Str) (F : FA) : Prop where
  ex : ∃ f fd, FnG P w K mg base k f fd ps (spA K ps.length F) ∧ Binds K fd ps [] ∧ mg x = some (.ref f) ∧ PySem.W.keepIn K (.ref f) = true
def eDef (F : FA) (n : Nat) (ga : AF) : EF := fun ρ S => (ga ρ S).bind fun p => if p.1.length = n then F p.1 p.2 else none
theorem acd {k : Nat} {x : Str} {ps : List Str} {F : FA} {p : Pos} (D : Def X.prog X.w X.K X.mg X.base k x ps F) (g : X.A.guards = some []) (hr : Room k X.A) (hgl : Gl X x) (ha : AA X (e :: es) ga) (hdb : (x == ("__debug__" : Str)) = false := by decide)
    (he : starEach (e :: es) X.env = (false, eval e X.env) :: starEach es X.env := by rfl) (hpl : (backTo pos (starEach es X.env)).any (·.1) = false := by rfl) {n : Nat} (hn : ps.length = n := by rfl) : AE X (.Call (.Name x p) (e :: es) [] pos) (eDef F n ga) := by
  subst hn
  obtain ⟨f, fd, hF, hb, hm, hk⟩ := D.ex
  refine pe_w (pe_callG hF g hr hgl hm hk hb ha hdb he hpl) fun σ H Q h => ?_
  obtain ⟨m, ρ, S, v, S', R, r, e, q⟩ := h
  obtain ⟨⟨x, S1⟩, e1, e⟩ := Option.bind_eq_some_iff.mp e
  dsimp only at e
  split at e
  · next hl => exact ⟨m, ρ, S, x, S1, R, r, e1, fun m1 us H1 E1 R1 r1 => ⟨by rw [r1.len]; exact hl, m1, S1, x, v, S', R1, r1, e, fun m2 z H2 E2 R2 r2 => q m2 z H2 (E1.trans E2) R2 r2⟩⟩
  · cases e
def eMt (ok : Val → Sto → Bool) (g : Val → List Val → Sto → Option (Val × Sto)) (fo : EF) (ga : AF) : EF := fun ρ S => (fo ρ S).bind fun p => if ok p.1 p.2 then (ga ρ p.2).bind fun q => g p.1 q.1 q.2 else none
def MtA (K : PySem.W.Frag) (r : V → List V → Hp → VK → Prop) (g : Val → List Val → Sto → Option (Val × Sto)) : Prop := ∀ m S H x xs v S' u us Q, Rel K m S H → VR K H m u x → VRs K H m us xs → g x xs S = some (v, S') →
  (∀ m' z H', Ext m H m' H' → Rel K m' S' H' → VR K H' m' z v → Q z H') → r u us H Q
def TyA (K : PySem.W.Frag) (T : String) (ok : Val → Sto → Bool) : Prop := ∀ m S H u v, Rel K m S H → VR K H m u v → ok v S = true → tyV K T u H
theorem am {o : Expr} {fo : EF} {name : Str} {apos cpos : Pos} {T id : String} {r : V → List V → Hp → VK → Prop} {g : Val → List Val → Sto → Option (Val × Sto)} {ok : Val → Sto → Bool} (pa : PlainAttrs T) (slot : Slot T name id) (hty : typeOf (.builtin id) = pure (.type "method_descriptor")) (hm : MtR X id r) (hg : MtA X.K r g) (ht : TyA X.K T ok) (ho : AE X o fo) (ha : AA X (e :: es) ga)
    (hbase : attributeBase o name X.env (eval o X.env) = eval o X.env := by rfl)
    (hfew : ((backTo cpos (starEach (e :: es) X.env)).all (fun x => !x.1) && (backToKw cpos (keywordEach [] X.env)).all (fun x => x.1.isSome)
      && decide ((e :: es).length + ([] : List Keyword).length + (if ([] : List Keyword).isEmpty then 0 else 1) < 30)) = true := by rfl)
    (hline : (apos.endLine == cpos.line) = true := by rfl) (hs : starEach (e :: es) X.env = (false, eval e X.env) :: starEach es X.env := by rfl) (hplain : (backTo cpos (starEach es X.env)).any (·.1) = false := by rfl) :
    AE X (.Call (.Attribute o name apos) (e :: es) [] cpos) (eMt ok g fo ga) := by
  refine pe_w (pe_bm pa slot hty hm ho ha hbase hfew hline hs hplain) fun σ H Q h => ?_
  obtain ⟨m, ρ, S, v, S', R, r, e, q⟩ := h
  obtain ⟨⟨x, S1⟩, e1, e⟩ := Option.bind_eq_some_iff.mp e
  dsimp only at e
  split at e
  · next hl =>
    obtain ⟨⟨y, S2⟩, e2, e⟩ := Option.bind_eq_some_iff.mp e
    refine ⟨m, ρ, S, x, S1, R, r, e1, fun m1 u H1 E1 R1 r1 => ⟨ht m1 S1 H1 u x R1 r1 hl, m1, ρ, S1, y, S2, R1, r.kp (E1.kp R), e2, fun m2 us H2 E2 R2 r2 => ?_⟩⟩
    exact hg m2 S2 H2 x y v S' u us Q R2 (r1.kp (E2.kp R1)) r2 e fun m3 z H3 E3 R3 r3 => q m3 z H3 ((E1.trans E2).trans E3) R3 r3
  · cases e
def eMt0 (ok : Val → Sto → Bool) (g : Val → List Val → Sto → Option (Val × Sto)) (fo : EF) : EF := fun ρ S => (fo ρ S).bind fun p => if ok p.1 p.2 then g p.1 [] p.2 else none

def eU (g : Val → Sto → Option (Val × Sto)) (fa : EF) : EF := fun ρ S => (fa ρ S).bind fun p => g p.1 p.2
def UnA (K : PySem.W.Frag) (r : V → Hp → VK → Prop) (g : Val → Sto → Option (Val × Sto)) : Prop := ∀ m S H x v S' u Q, Rel K m S H → VR K H m u x → g x S = some (v, S') → (∀ m' z H', Ext m H m' H' → Rel K m' S' H' → VR K H' m' z v → Q z H') → r u H Q
theorem aun {op : UnaryOp} {r : V → Hp → VK → Prop} {g : Val → Sto → Option (Val × Sto)} (ho : UnR X (unaryOp op) r) (hg : UnA X.K r g) (ha : AE X a fa) : AE X (.UnaryOp op a pos) (eU g fa) := by
  refine pe_w (pe_un ho ha) fun σ H Q h => ?_
  obtain ⟨m, ρ, S, v, S', R, r, e, q⟩ := h
  obtain ⟨⟨x, S1⟩, e1, e⟩ := Option.bind_eq_some_iff.mp e
  exact ⟨m, ρ, S, x, S1, R, r, e1, fun m1 u H1 E1 R1 r1 => hg m1 S1 H1 x v S' u Q R1 r1 e fun m2 z H2 E2 R2 r2 => q m2 z H2 (E1.trans E2) R2 r2⟩

abbrev OF := Rho → Sto → Option (Option Int × Sto)
def oN : OF := fun _ S => some (none, S)
def oS (f : EF) : OF := fun ρ S => (f ρ S).bind fun p => match p.1 with
  | .int i => some (some i, p.2)
  | _ => none
def tFo (K : PySem.W.Frag) (f : OF) : TO := fun σ H Q => ∃ m ρ S o S', Rel K m S H ∧ RhoR K H m ρ σ ∧ f ρ S = some (o, S') ∧ ∀ m' H', Ext m H m' H' → Rel K m' S' H' → Q o H'
theorem po_w {o : Option Expr} {t t' : TO} (h : PO X o t) (hi : ∀ σ H Q, t' σ H Q → t σ H Q) : PO X o t' := ⟨fun pins s σ H Q I hq => h.run pins s σ H Q I (hi σ H Q hq)⟩
theorem aon : PO X none (tFo X.K oN) := po_w po_none fun σ H Q h => by
  obtain ⟨m, ρ, S, v, S', R, r, e, q⟩ := h
  cases e
  exact q m H (.refl _ _) R
theorem aos (ha : AE X e f) : PO X (some e) (tFo X.K (oS f)) := po_w (po_some ha) fun σ H Q h => by
  obtain ⟨m, ρ, S, v, S', R, r, e, q⟩ := h
  obtain ⟨⟨x, S1⟩, e1, e⟩ := Option.bind_eq_some_iff.mp e
  refine ⟨m, ρ, S, x, S1, R, r, e1, fun m1 u H1 E1 R1 r1 => ?_⟩
  cases x <;> cases e
  cases r1
  exact ⟨_, rfl, q m1 H1 E1 R1⟩
def eSl (g : Val → Option Int → Option Int → Sto → Option (Val × Sto)) (fa : EF) (lo hi : OF) : EF := fun ρ S => (fa ρ S).bind fun p => (lo ρ p.2).bind fun q => (hi ρ q.2).bind fun z => g p.1 q.1 z.1 z.2
def SlA (K : PySem.W.Frag) (r : V → Option Int → Option Int → Hp → VK → Prop) (g : Val → Option Int → Option Int → Sto → Option (Val × Sto)) : Prop := ∀ m S H x lo hi v S' u Q, Rel K m S H → VR K H m u x → g x lo hi S = some (v, S') →
  (∀ m' z H', Ext m H m' H' → Rel K m' S' H' → VR K H' m' z v → Q z H') → r u lo hi H Q
theorem asl {r : V → Option Int → Option Int → Hp → VK → Prop} {g : Val → Option Int → Option Int → Sto → Option (Val × Sto)} {lo hi : Option Expr} {fl fh : OF} {p2 : Pos} (hs : SlR X r) (hg : SlA X.K r g) (ha : AE X a fa) (hl : PO X lo (tFo X.K fl)) (hh : PO X hi (tFo X.K fh)) : AE X (.Subscript a (.Slice lo hi none p2) pos) (eSl g fa fl fh) := by
  refine pe_w (pe_slice hs ha hl hh) fun σ H Q h => ?_
  obtain ⟨m, ρ, S, v, S', R, r, e, q⟩ := h
  obtain ⟨⟨x, S1⟩, e1, e⟩ := Option.bind_eq_some_iff.mp e
  obtain ⟨⟨y, S2⟩, e2, e⟩ := Option.bind_eq_some_iff.mp e
  obtain ⟨⟨z, S3⟩, e3, e⟩ := Option.bind_eq_some_iff.mp e
  refine ⟨m, ρ, S, x, S1, R, r, e1, fun m1 u H1 E1 R1 r1 => ⟨m1, ρ, S1, y, S2, R1, r.kp (E1.kp R), e2, fun m2 H2 E2 R2 => ⟨m2, ρ, S2, z, S3, R2, r.kp ((E1.trans E2).kp R), e3, fun m3 H3 E3 R3 => ?_⟩⟩⟩
  exact hg m3 S3 H3 x y z v S' u Q R3 (r1.kp ((E2.trans E3).kp R1)) e fun m4 z H4 E4 R4 r4 => q m4 z H4 (((E1.trans E2).trans E3).trans E4) R4 r4
end
end AL
namespace AL
open PySem PySem.Spec PyProof.Rows L2 G
variable [TT]
inductive Res where
  | stuck | nx (ρ : Rho) (S : Sto) | rt (v : Val) (S : Sto) | bk (ρ : Rho) (S : Sto) | ct (ρ : Rho) (S : Sto)
abbrev SF := Rho → Sto → Res
def Post (K : PySem.W.Frag) (m : List Addr) (H : Hp) (D : Ends) : Res → Prop
  | .stuck => False
  | .nx ρ S => ∀ m' σ' H', Ext m H m' H' → Rel K m' S H' → RhoR K H' m' ρ σ' → D.nx σ' H'
  | .rt v S => ∀ m' u H', Ext m H m' H' → Rel K m' S H' → VR K H' m' u v → D.rt u H'
  | .bk ρ S => ∀ m' σ' H', Ext m H m' H' → Rel K m' S H' → RhoR K H' m' ρ σ' → D.bk σ' H'
  | .ct ρ S => ∀ m' σ' H', Ext m H m' H' → Rel K m' S H' → RhoR K H' m' ρ σ' → D.ct σ' H'
theorem Post.ext {K : PySem.W.Frag} {m m1 : List Addr} {H H1 : Hp} {D : Ends} {r : Res} (h : Post K m H D r) (E : Ext m H m1 H1) : Post K m1 H1 D r := by
  cases r with
  | stuck => exact h
  | nx ρ S => exact fun m' σ' H' E' => h m' σ' H' (E.trans E')
  | rt ρ S => exact fun m' σ' H' E' => h m' σ' H' (E.trans E')
  | bk ρ S => exact fun m' σ' H' E' => h m' σ' H' (E.trans E')
  | ct ρ S => exact fun m' σ' H' E' => h m' σ' H' (E.trans E')
def tS (K : PySem.W.Frag) (g : SF) : TS := fun D σ H => ∃ m ρ S, Rel K m S H ∧ RhoR K H m ρ σ ∧ Post K m H D (g ρ S)
abbrev AS (X : Cx) (st : Stmt) (g : SF) : Prop := PS X st (tS X.K g)
abbrev ASs (X : Cx) (sts : List Stmt) (g : SF) : Prop := PSs X sts (tS X.K g)
section
variable {X : Cx} {st : Stmt} {sts rest : List Stmt} {e a b c o i : Expr} {es : List Expr} {pos : Pos} {f fa fb fc : EF} {g g1 g2 : SF} {tb : BF} {K : PySem.W.Frag} {ga : AF}
theorem ps_w {t t' : TS} (h : PS X st t) (hi : ∀ D σ H, t' D σ H → t D σ H) : PS X st t' := ⟨fun pins s σ H D I hq => h.run pins s σ H D I (hi D σ H hq)⟩
theorem pss_w {t t' : TS} (h : PSs X sts t) (hi : ∀ D σ H, t' D σ H → t D σ H) : PSs X sts t' := ⟨fun pins s σ H D I hq => h.run pins s σ H D I (hi D σ H hq)⟩
def sNil : SF := fun ρ S => .nx ρ S
def sSeq (g1 g2 : SF) : SF := fun ρ S => match g1 ρ S with
  | .nx ρ S => g2 ρ S
  | r => r
theorem asn : ASs X [] sNil := pss_w pss_nil fun D σ H h => by
  obtain ⟨m, ρ, S, R, r, p⟩ := h
  exact p m σ H (.refl _ _) R r
theorem asq (h1 : AS X st g1) (h2 : ASs X rest g2) : ASs X (st :: rest) (sSeq g1 g2) := pss_w (pss_cons h1 h2) fun D σ H h => by
  obtain ⟨m, ρ, S, R, r, p⟩ := h
  refine ⟨m, ρ, S, R, r, ?_⟩
  unfold sSeq at p
  cases e : g1 ρ S with
  | nx ρ1 S1 =>
    rw [e] at p
    intro m1 σ1 H1 E1 R1 r1
    exact ⟨m1, ρ1, S1, R1, r1, p.ext E1⟩
  | stuck => rw [e] at p; exact p
  | rt v S1 => rw [e] at p; exact p
  | bk v S1 => rw [e] at p; exact p
  | ct v S1 => rw [e] at p; exact p
theorem as1 (h : AS X st g) : ASs X [st] g := pss_one h
def sExpr (f : EF) : SF := fun ρ S => match f ρ S with
  | some (_, S) => .nx ρ S
  | none => .stuck
theorem asx (he : AE X e f) (hs : swapsWith e none pos.line X.env = pure false := by rfl) : AS X (.Expr e pos) (sExpr f) := ps_w (ps_expr he hs) fun D σ H h => by
  obtain ⟨m, ρ, S, R, r, p⟩ := h
  unfold sExpr at p
  split at p
  · next v S1 e1 => exact ⟨m, ρ, S, v, S1, R, r, e1, fun m1 u H1 E1 R1 r1 => p m1 σ H1 E1 R1 (r.kp (E1.kp R))⟩
  · exact p.elim
def sRet (f : EF) : SF := fun ρ S => match f ρ S with
  | some (v, S) => .rt v S
  | none => .stuck
theorem asr (he : AE X e f) : AS X (.Return (some e) pos) (sRet f) := ps_w (ps_ret he) fun D σ H h => by
  obtain ⟨m, ρ, S, R, r, p⟩ := h
  unfold sRet at p
  split at p
  · next v S1 e1 => exact ⟨m, ρ, S, v, S1, R, r, e1, p⟩
  · exact p.elim
def sIf (t : BF) (g1 g2 : SF) : SF := fun ρ S => match t ρ S with
  | some (true, S) => g1 ρ S
  | some (false, S) => g2 ρ S
  | none => .stuck
theorem asi (hc : AT X c tb) (h1 : ASs X sts g1) (h2 : ASs X rest g2) : AS X (.If c sts rest pos) (sIf tb g1 g2) := ps_w (ps_if hc h1 h2) fun D σ H h => by
  obtain ⟨m, ρ, S, R, r, p⟩ := h
  unfold sIf at p
  split at p
  · next S1 e1 => exact ⟨m, ρ, S, true, S1, R, r, e1, fun m1 H1 E1 R1 => ⟨m1, ρ, S1, R1, r.kp (E1.kp R), p.ext E1⟩⟩
  · next S1 e1 => exact ⟨m, ρ, S, false, S1, R, r, e1, fun m1 H1 E1 R1 => ⟨m1, ρ, S1, R1, r.kp (E1.kp R), p.ext E1⟩⟩
  · exact p.elim
inductive Pat where
  | nm (i : Nat)
  | tp (ps : List Pat)
mutual
def Pat.bind : Pat → Val → Rho → Option Rho
  | .nm i, v, ρ => some (ρ.set i (some v))
  | .tp ps, .tup vs, ρ => Pat.binds ps vs ρ
  | .tp _, _, _ => none
def Pat.binds : List Pat → List Val → Rho → Option Rho
  | [], [], ρ => some ρ
  | p :: ps, v :: vs, ρ => (Pat.bind p v ρ).bind fun ρ1 => Pat.binds ps vs ρ1
  | _, _, _ => none
end
mutual
def Pat.slots : Pat → List Nat
  | .nm i => [i]
  | .tp ps => Pat.slotss ps
def Pat.slotss : List Pat → List Nat
  | [] => []
  | p :: ps => Pat.slots p ++ Pat.slotss ps
end
theorem wipe_get (σ : L2.St) : ∀ (vs : List Nat) (j : Nat), (wipe σ vs)[j]? = if j ∈ vs then (σ[j]?).map (fun _ => none) else σ[j]?
  | [], j => by simp [wipe]
  | v :: vs, j => by
    unfold wipe
    by_cases z : v = j
    · subst z
      rw [List.getElem?_set]
      simp only [if_true, wipe_length, List.mem_cons, true_or, if_true]
      by_cases l : v < σ.length
      · simp [l]
      · simp [l, List.getElem?_eq_none (Nat.le_of_not_lt l)]
    · rw [List.getElem?_set_ne z, wipe_get σ vs j]
      simp [List.mem_cons, Ne.symm z]
theorem wipe_set (σ : L2.St) {i : Nat} {vs : List Nat} (x : Option V) (h : i ∈ vs) : wipe (σ.set i x) vs = wipe σ vs := by
  apply List.ext_getElem?
  intro j
  rw [wipe_get, wipe_get]
  by_cases z : i = j
  · subst z
    simp only [h, if_true]
    by_cases l : i < σ.length
    · simp [l]
    · rw [List.getElem?_eq_none (by rw [List.length_set]; omega), List.getElem?_eq_none (by omega)]
  · rw [List.getElem?_set_ne z]
def tG (K : PySem.W.Frag) (p : Pat) : TG := fun u σ H Q => ∃ m S ρ v ρ', Rel K m S H ∧ RhoR K H m ρ σ ∧ VR K H m u v ∧ p.bind v ρ = some ρ' ∧ ∀ σ', RhoR K H m ρ' σ' → (∀ ws, (∀ i ∈ p.slots, i ∈ ws) → wipe σ' ws = wipe σ ws) → Q σ' H
def tGs (K : PySem.W.Frag) (ps : List Pat) : TGs := fun us σ H Q => ∃ m S ρ vs ρ', Rel K m S H ∧ RhoR K H m ρ σ ∧ VRs K H m us vs ∧ Pat.binds ps vs ρ = some ρ' ∧ ∀ σ', RhoR K H m ρ' σ' → (∀ ws, (∀ i ∈ Pat.slotss ps, i ∈ ws) → wipe σ' ws = wipe σ ws) → Q σ' H
theorem pg_w {tg : Expr} {t t' : TG} (h : PG X tg t) (hi : ∀ v σ H Q, t' v σ H Q → t v σ H Q) : PG X tg t' := ⟨fun pins s σ H v u Q I rv hq => h.run pins s σ H v u Q I rv (hi v σ H Q hq)⟩
theorem pgs_w {tgs : List Expr} {t t' : TGs} (h : PGs X tgs t) (hi : ∀ v σ H Q, t' v σ H Q → t v σ H Q) : PGs X tgs t' := ⟨fun pins s σ H v u Q I rv hq => h.run pins s σ H v u Q I rv (hi v σ H Q hq)⟩
theorem agn {i : Nat} {x : Str} (hN : X.N.Nodup) (hi : X.N[i]? = some x) (hx : Loc X.env.scope x) (hf : X.fn x = true ∨ X.env.scope.names.lookup x = some .local := by first | exact .inl rfl | exact .inr rfl | assumption) : PG X (.Name x pos) (tG X.K (.nm i)) := pg_w (pg_name hN hi hx hf) fun u σ H Q h => by
  obtain ⟨m, S, ρ, v, ρ', R, r, rv, e, q⟩ := h
  simp only [Pat.bind] at e
  cases e
  exact q _ (r.set rv i) fun ws hw => wipe_set σ _ (hw i (by simp [Pat.slots]))
theorem agl0 : PGs X [] (tGs X.K []) := pgs_w pgs_nil fun us σ H Q h => by
  obtain ⟨m, S, ρ, vs, ρ', R, r, rv, e, q⟩ := h
  cases vs with
  | nil =>
    cases rv
    simp only [Pat.binds] at e
    cases e
    exact ⟨rfl, q σ r fun _ _ => rfl⟩
  | cons v vs => simp only [Pat.binds] at e; cases e
theorem agl {p : Pat} {ps : List Pat} (h1 : PG X e (tG X.K p)) (h2 : PGs X es (tGs X.K ps))
    (hs : (assignEach (e :: es) X.env).map (·.2) = assign e X.env :: (assignEach es X.env).map (·.2) := by rfl) : PGs X (e :: es) (tGs X.K (p :: ps)) := pgs_w (pgs_cons h1 h2 hs) fun us σ H Q h => by
  obtain ⟨m, S, ρ, vs, ρ', R, r, rv, e, q⟩ := h
  cases vs with
  | nil => simp only [Pat.binds] at e; cases e
  | cons v vs =>
    cases rv with
    | cons rv rvs =>
      simp only [Pat.binds] at e
      obtain ⟨ρ1, e1, e2⟩ := Option.bind_eq_some_iff.mp e
      refine ⟨_, _, rfl, m, S, ρ, v, ρ1, R, r, rv, e1, fun σ1 r1 w1 => ⟨m, S, ρ1, vs, ρ', R, r1, rvs, e2, fun σ2 r2 w2 => q σ2 r2 fun ws hw => ?_⟩⟩
      rw [w2 ws fun i hi => hw i (by simp [Pat.slotss, hi]), w1 ws fun i hi => hw i (by simp [Pat.slotss, hi])]
theorem bindLen : ∀ {ps : List Pat} {vs : List Val} {ρ ρ' : Rho}, Pat.binds ps vs ρ = some ρ' → vs.length = ps.length
  | [], [], _, _, _ => rfl
  | [], _ :: _, _, _, h => by simp only [Pat.binds] at h; cases h
  | _ :: _, [], _, _, h => by simp only [Pat.binds] at h; cases h
  | p :: ps, v :: vs, ρ, ρ', h => by
    simp only [Pat.binds] at h
    obtain ⟨ρ1, e1, e2⟩ := Option.bind_eq_some_iff.mp h
    rw [List.length_cons, List.length_cons, bindLen e2]
theorem agt {ps : List Pat} {k n : Nat} (hc : X.calm = true) (h : PGs X es (tGs X.K ps)) (hn : (assignEach es X.env).length = n := by rfl) (hst : (assignEach es X.env).findIdx? (·.1) = none := by rfl) (hl : ps.length = n := by rfl) : PG X (.Tuple es k pos) (tG X.K (.tp ps)) := pg_w (pg_tup hc h hn hst) fun u σ H Q h => by
  obtain ⟨m, S, ρ, v, ρ', R, r, rv, e, q⟩ := h
  cases v <;> simp only [Pat.bind] at e <;> try cases e
  cases rv with
  | tup ha rs =>
    exact ⟨_, _, rfl, ha.sq, by rw [rs.len, bindLen e, hl], m, S, ρ, _, ρ', R, r, rs, e, fun σ' r' w' => q σ' r' fun ws hw => w' ws fun i hi => hw i (by simpa [Pat.slots] using hi)⟩
def sAsg (p : Pat) (f : EF) : SF := fun ρ S => match f ρ S with
  | some (v, S) => match p.bind v ρ with
    | some ρ => .nx ρ S
    | none => .stuck
  | none => .stuck
theorem sAsg_ok {p : Pat} {D : Ends} {σ : L2.St} {H : Hp} (h : tS K (sAsg p f) D σ H) : tAsg (tF K f) (tG K p) D σ H := by
  obtain ⟨m, ρ, S, R, r, q⟩ := h
  unfold sAsg at q
  split at q
  · next v S1 e1 =>
    split at q
    · next ρ1 e2 =>
      refine ⟨m, ρ, S, v, S1, R, r, e1, fun m1 u H1 E1 R1 r1 => ⟨m1, S1, ρ, v, ρ1, R1, r.kp (E1.kp R), r1, e2, fun σ' r' _ => q m1 σ' H1 E1 R1 r'⟩⟩
    · exact q.elim
  · exact q.elim
theorem asa {p : Pat} {tg : Expr} (he : AE X e f) (hg : PG X tg (tG X.K p)) (hs : swapsWithSole [tg] e pos.line X.env = pure false := by rfl) (hw : swappedStores [tg] e X.env = pure none := by rfl)
    (h1 : (assignEach [tg] X.env).map (·.2) = [assign tg X.env] := by rfl) : AS X (.Assign [tg] e pos) (sAsg p f) := ps_w (ps_asg he hg hs hw h1) fun D σ H h => sAsg_ok h
theorem ass {i : Nat} {x : Str} {pos' : Pos} (hN : X.N.Nodup) (hi : X.N[i]? = some x) (hx : Loc X.env.scope x) (he : AE X e f) (hs : swapsWith e (some (.Name x pos')) pos.line X.env = pure false := by rfl) (hf : X.fn x = true ∨ X.env.scope.names.lookup x = some .local := by first | exact .inl rfl | exact .inr rfl | assumption) :
    AS X (.Assign [.Name x pos'] e pos) (sAsg (.nm i) f) := ps_w (ps_set hN hi hx he hs hf) fun D σ H h => by
  obtain ⟨m, ρ, S, R, r, q⟩ := h
  unfold sAsg at q
  split at q
  · next v S1 e1 =>
    simp only [Pat.bind] at q
    exact ⟨m, ρ, S, v, S1, R, r, e1, fun m1 u H1 E1 R1 r1 => q m1 _ H1 E1 R1 ((r.kp (E1.kp R)).set r1 i)⟩
  · exact q.elim

def sPar (is : List Nat) (ga : AF) : SF := fun ρ S => match ga ρ S with
  | some (vs, S) => match Pat.binds (is.map Pat.nm) vs ρ with
    | some ρ => .nx ρ S
    | none => .stuck
  | none => .stuck

def sSub (g : Val → Val → Val → Sto → Option Sto) (fo fi f : EF) : SF := fun ρ S => match f ρ S with
  | some (v, S) => match fo ρ S with
    | some (o, S) => match fi ρ S with
      | some (i, S) => match g o i v S with
        | some S => .nx ρ S
        | none => .stuck
      | none => .stuck
    | none => .stuck
  | none => .stuck
def SetA (K : PySem.W.Frag) (r : TSet) (g : Val → Val → Val → Sto → Option Sto) : Prop := ∀ m S H o i v S' uo ui u Q, Rel K m S H → VR K H m uo o → VR K H m ui i → VR K H m u v → g o i v S = some S' → (∀ H', Ext m H m H' → Rel K m S' H' → Q H') → r uo ui u H Q
def whR (t : BF) (g : SF) : Nat → SF
  | 0 => fun _ _ => .stuck
  | n + 1 => fun ρ S => match t ρ S with
    | none => .stuck
    | some (false, S) => .nx ρ S
    | some (true, S) => match g ρ S with
      | .nx ρ S => whR t g n ρ S
      | .ct ρ S => whR t g n ρ S
      | .bk ρ S => .nx ρ S
      | .rt v S => .rt v S
      | .stuck => .stuck
open Classical in
noncomputable def sWhile (t : BF) (g : SF) : SF := fun ρ S => if h : ∃ n, whR t g n ρ S ≠ .stuck then whR t g h.choose ρ S else .stuck
theorem whR_succ {t : BF} {g : SF} : ∀ {n : Nat} {ρ : Rho} {S : Sto}, whR t g n ρ S ≠ .stuck → whR t g (n + 1) ρ S = whR t g n ρ S
  | 0, _, _, h => absurd rfl h
  | n + 1, ρ, S, h => by
    unfold whR at h ⊢
    split
    · rfl
    · rfl
    · next S1 e1 =>
      simp only [e1] at h
      split
      · next ρ2 S2 e2 =>
        simp only [e2] at h
        exact whR_succ h
      · next ρ2 S2 e2 =>
        simp only [e2] at h
        exact whR_succ h
      · rfl
      · rfl
      · rfl
theorem whR_add {t : BF} {g : SF} {n : Nat} {ρ : Rho} {S : Sto} (h : whR t g n ρ S ≠ .stuck) : ∀ k, whR t g (n + k) ρ S = whR t g n ρ S
  | 0 => rfl
  | k + 1 => by
    have e := whR_add h k
    rw [← Nat.add_assoc, whR_succ (by rw [e]; exact h), e]
theorem sWhile_eq {t : BF} {g : SF} {n : Nat} {ρ : Rho} {S : Sto} {r : Res} (h : whR t g n ρ S = r) (hr : r ≠ .stuck) : sWhile t g ρ S = r := by
  have ex : ∃ n, whR t g n ρ S ≠ .stuck := ⟨n, by rw [h]; exact hr⟩
  unfold sWhile
  rw [dif_pos ex]
  have h1 := whR_add ex.choose_spec n
  have h2 := whR_add (show whR t g n ρ S ≠ .stuck by rw [h]; exact hr) ex.choose
  rw [← h1, ← h, ← h2, Nat.add_comm]
theorem asw (hp : PassesOwn (model X.prog X.w) X.A X.env X.xe) (hc : AT X c tb) (hb : ASs X sts g) : AS X (.While c sts [] pos) (sWhile tb g) := ps_w (ps_while hp hc hb) fun D σ H h => by
  obtain ⟨m, ρ, S, R, r, q⟩ := h
  unfold sWhile at q
  split at q
  · next hex =>
    generalize hex.choose = n at q
    refine ⟨fun k σ H => ∃ m ρ S, Rel X.K m S H ∧ RhoR X.K H m ρ σ ∧ Post X.K m H D (whR tb g k ρ S), ⟨n, m, ρ, S, R, r, q⟩, ?_⟩
    rintro k σ H ⟨m, ρ, S, R, r, q⟩
    cases k with
    | zero => exact q.elim
    | succ k =>
      unfold whR at q
      split at q
      · exact q.elim
      · next S1 e1 =>
        refine ⟨m, ρ, S, false, S1, R, r, e1, fun m1 H1 E1 R1 => ?_⟩
        exact q m1 σ H1 E1 R1 (r.kp (E1.kp R))
      · next S1 e1 =>
        refine ⟨m, ρ, S, true, S1, R, r, e1, fun m1 H1 E1 R1 => ?_⟩
        refine iteT ?_
        refine ⟨fun σ H => ∃ m ρ S, Rel X.K m S H ∧ RhoR X.K H m ρ σ ∧ Post X.K m H D (whR tb g k ρ S), fun σ' H' h => ⟨k, Nat.lt_succ_self k, h⟩, m1, ρ, S1, R1, r.kp (E1.kp R), ?_⟩
        split at q
        · next ρ2 S2 e2 =>
          rw [e2]
          exact fun m2 σ2 H2 E2 R2 r2 => ⟨m2, ρ2, S2, R2, r2, q.ext (E1.trans E2)⟩
        · next ρ2 S2 e2 =>
          rw [e2]
          exact fun m2 σ2 H2 E2 R2 r2 => ⟨m2, ρ2, S2, R2, r2, q.ext (E1.trans E2)⟩
        · next ρ2 S2 e2 =>
          rw [e2]
          exact fun m2 σ2 H2 E2 R2 r2 => q m2 σ2 H2 (E1.trans E2) R2 r2
        · next v2 S2 e2 =>
          rw [e2]
          exact fun m2 σ2 H2 E2 R2 r2 => q m2 σ2 H2 (E1.trans E2) R2 r2
        · exact q.elim
  · exact q.elim
abbrev IF := Rho → Sto → Option (List Val × (Sto → Prop) × Sto)
structure ItA (K : PySem.W.Frag) (J : It) (m0 : List Addr) (H0 : Hp) (vs : List Val) (ok : Sto → Prop) : Prop where
  step : ∀ (i : Nat) (m : List Addr) (S : Sto) (H : Hp), Ext m0 H0 m H → Rel K m S H → ok S → ∀ v, vs[i]? = some v → J.go i H ∧ ∀ x H', J.yld i H x H' → Rel K m S H' ∧ Ext m H m H' ∧ VR K H' m x v
  stop : ∀ (m : List Addr) (S : Sto) (H : Hp), Ext m0 H0 m H → Rel K m S H → ok S → J.stop vs.length H
def tI (K : PySem.W.Frag) (fi : IF) : TI := fun σ H R => ∃ m ρ S vs ok S', Rel K m S H ∧ RhoR K H m ρ σ ∧ fi ρ S = some (vs, ok, S') ∧ ∀ m' H' J, Ext m H m' H' → Rel K m' S' H' → ItA K J m' H' vs ok → R J H'
abbrev AI (X : Cx) (tg it : Expr) (fi : IF) : Prop := PI X tg it (tI X.K fi)
theorem pi_w {tg it : Expr} {w w' : TI} (h : PI X tg it w) (hi : ∀ σ H R, w' σ H R → w σ H R) : PI X tg it w' := ⟨fun pins s σ H R I hq => h.run pins s σ H R I (hi σ H R hq)⟩
theorem PI.or {tg it : Expr} {w w' : TI} (h : PI X tg it w) (h' : PI X tg it w') : PI X tg it (fun σ H R => w σ H R ∨ w' σ H R) := ⟨fun pins s σ H R I hq => hq.elim (h.run pins s σ H R I) (h'.run pins s σ H R I)⟩
open Classical in
noncomputable def forR (p : Pat) (g : SF) (ok : Sto → Prop) : List Val → SF
  | [] => fun ρ S => if ok S then .nx ρ S else .stuck
  | v :: vs => fun ρ S => if ok S then match p.bind v ρ with
    | none => .stuck
    | some ρ => match g ρ S with
      | .nx ρ S => forR p g ok vs ρ S
      | .ct ρ S => forR p g ok vs ρ S
      | .bk ρ S => .nx ρ S
      | .rt v S => .rt v S
      | .stuck => .stuck
    else .stuck
noncomputable def sFor (p : Pat) (fi : IF) (g : SF) : SF := fun ρ S => match fi ρ S with
  | some (vs, ok, S) => forR p g ok vs ρ S
  | none => .stuck
theorem asf {p : Pat} {tg it : Expr} {fi : IF} (hp : PassesOwn (model X.prog X.w) X.A X.env X.xe) (hc : X.calm = true) (hi : AI X tg it fi) (hg : PG X tg (tG X.K p)) (hb : ASs X sts g)
    (hs : ∀ x, foldedSetIterable it X.env x = pure x := by intro _; rfl) : AS X (.For tg it sts [] pos) (sFor p fi g) := ps_w (ps_for hp hc hi hg hb hs) fun D σ H h => by
  obtain ⟨m, ρ, S, R, r, q⟩ := h
  unfold sFor at q
  split at q
  · next vs ok S1 e1 =>
    refine ⟨m, ρ, S, vs, ok, S1, R, r, e1, fun m0 H0 J E0 R0 it0 => ?_⟩
    refine ⟨fun i k σ H => k + i = vs.length ∧ ∃ m ρ S, Ext m0 H0 m H ∧ Rel X.K m S H ∧ RhoR X.K H m ρ σ ∧ Post X.K m H D (forR p g ok (vs.drop i) ρ S), ⟨vs.length, by omega, m0, ρ, S1, .refl _ _, R0, r.kp (E0.kp R), q.ext E0⟩, ?_⟩
    rintro i k σ H ⟨hk, m, ρ, S, E, R, r, q⟩
    by_cases hlt : i < vs.length
    · rw [List.drop_eq_getElem_cons hlt] at q
      unfold forR at q
      split at q
      · next hok =>
        split at q
        · exact q.elim
        · next ρ1 e2 =>
          obtain ⟨go, yl⟩ := it0.step i m S H E R hok vs[i] (List.getElem?_eq_getElem hlt)
          refine .inr ⟨go, fun σ H => ∃ m ρ S, Ext m0 H0 m H ∧ Rel X.K m S H ∧ RhoR X.K H m ρ σ ∧ Post X.K m H D (forR p g ok (vs.drop (i + 1)) ρ S), fun σ' H' h => ⟨k - 1, by omega, by omega, h⟩, fun x H' hy => ?_⟩
          obtain ⟨R', E', rx⟩ := yl x H' hy
          refine ⟨m, S, ρ, _, ρ1, R', r.kp (E'.kp R), rx, e2, fun σ1 r1 _ => ⟨m, ρ1, S, R', r1, ?_⟩⟩
          have EE := E.trans E'
          split at q
          · next ρ2 S2 e3 =>
            rw [e3]
            exact fun m2 σ2 H2 E2 R2 r2 => ⟨m2, ρ2, S2, EE.trans E2, R2, r2, q.ext (E'.trans E2)⟩
          · next ρ2 S2 e3 =>
            rw [e3]
            exact fun m2 σ2 H2 E2 R2 r2 => ⟨m2, ρ2, S2, EE.trans E2, R2, r2, q.ext (E'.trans E2)⟩
          · next ρ2 S2 e3 =>
            rw [e3]
            exact fun m2 σ2 H2 E2 R2 r2 => q m2 σ2 H2 (E'.trans E2) R2 r2
          · next v2 S2 e3 =>
            rw [e3]
            exact fun m2 σ2 H2 E2 R2 r2 => q m2 σ2 H2 (E'.trans E2) R2 r2
          · exact q.elim
      · exact q.elim
    · have e : i = vs.length := by omega
      subst e
      rw [List.drop_length] at q
      unfold forR at q
      split at q
      · next hok => exact .inl ⟨it0.stop m S H E R hok, q m σ H (.refl _ _) R r⟩
      · exact q.elim
  · exact q.elim
def wipeR (ρ : Rho) : List Nat → Rho
  | [] => ρ
  | v :: vs => (wipeR ρ vs).set v none
theorem RhoR.wipe {H : Hp} {m : List Addr} {ρ : Rho} {σ : L2.St} (r : RhoR K H m ρ σ) : ∀ vs : List Nat, RhoR K H m (wipeR ρ vs) (L2.wipe σ vs)
  | [] => r
  | v :: vs => (r.wipe vs).unset v none
def bYes : BF := fun _ S => some (true, S)
theorem ats0 : PTs X [] (tFb X.K bYes) := ⟨fun pins s σ H Q I h => pts_nil.run pins s σ H Q I (by
  obtain ⟨m, ρ, S, v, S', R, r, e, q⟩ := h
  cases e
  exact q m H (.refl _ _) R)⟩
open Classical in
noncomputable def lcR (p : Pat) (t : BF) (f : EF) (ok : Sto → Prop) (ρ : Rho) : List Val → List Val → Sto → Option (List Val × Sto)
  | [], acc, S => if ok S then some (acc, S) else none
  | v :: vs, acc, S => if ok S then (p.bind v ρ).bind fun ρ1 => (t ρ1 S).bind fun b => if b.1 then (f ρ1 b.2).bind fun y => if acc.length < 1000000 then lcR p t f ok ρ vs (acc ++ [y.1]) y.2 else none else lcR p t f ok ρ vs acc b.2 else none
noncomputable def eLc (p : Pat) (fi : IF) (t : BF) (f : EF) (own : List Nat) : EF := fun ρ S => (fi ρ S).bind fun z => (lcR p t f z.2.1 (wipeR ρ own) z.1 [] z.2.2).bind fun y => some (.ref y.2.length, y.2 ++ [.lst y.1])
theorem eLc_ok {p : Pat} {fi : IF} {t : BF} {own : List Nat} (hp : ∀ i ∈ p.slots, i ∈ own) {σ : L2.St} {H : Hp} {Q : VK} (h : tF K (eLc p fi t f own) σ H Q) : tLc (tI K fi) (tG K p) (tFb K t) (tF K f) own σ H Q := by
  obtain ⟨m, ρ, S, v, S', R, r, e, q⟩ := h
  obtain ⟨⟨vs, ok, S1⟩, e1, e⟩ := Option.bind_eq_some_iff.mp e
  obtain ⟨⟨ys, S2⟩, e2, e⟩ := Option.bind_eq_some_iff.mp e
  cases e
  refine ⟨m, ρ, S, vs, ok, S1, R, r, e1, fun m0 H0 J E0 R0 it0 D hD => ?_⟩
  dsimp only at e2 q
  refine ⟨fun i k H => k + i = vs.length ∧ ∃ m S acc xs, Ext m0 H0 m H ∧ Rel K m S H ∧ D ∉ m ∧ H D = some (.lst xs) ∧ VRs K H m xs acc ∧ lcR p t f ok (wipeR ρ own) (vs.drop i) acc S = some (ys, S2), ?_, ?_⟩
  · obtain ⟨R1, E1⟩ := R0.tmp (o := .lst []) hD
    exact ⟨vs.length, by omega, m0, S1, [], [], E1, R1, R0.noNone hD, upd_same, .nil, e2⟩
  · rintro i k H ⟨hk, m, S, acc, xs, E, R, nD, hDx, rx, el⟩
    by_cases hlt : i < vs.length
    · rw [List.drop_eq_getElem_cons hlt] at el
      unfold lcR at el
      split at el
      · next hok =>
        obtain ⟨ρ1, b1, el⟩ := Option.bind_eq_some_iff.mp el
        obtain ⟨⟨bb, S3⟩, b2, el⟩ := Option.bind_eq_some_iff.mp el
        dsimp only at el
        obtain ⟨go, yl⟩ := it0.step i m S H E R hok vs[i] (List.getElem?_eq_getElem hlt)
        refine .inr ⟨go, fun H => ∃ m S acc xs, Ext m0 H0 m H ∧ Rel K m S H ∧ D ∉ m ∧ H D = some (.lst xs) ∧ VRs K H m xs acc ∧ lcR p t f ok (wipeR ρ own) (vs.drop (i + 1)) acc S = some (ys, S2), fun H' h => ⟨k - 1, by omega, by omega, h⟩, fun x H' hy => ?_⟩
        obtain ⟨R', E', rx'⟩ := yl x H' hy
        have rr : RhoR K H' m (wipeR ρ own) (L2.wipe σ own) := (r.wipe own).kp ((((E0.kp (by assumption)).trans (E.kp R0))).trans (E'.kp R))
        refine ⟨m, S, wipeR ρ own, vs[i], ρ1, R', rr, rx', b1, fun σ1 r1 w1 => ⟨?_, m, ρ1, S, bb, S3, R', r1, b2, fun m3 H3 E3 R3 => ?_⟩⟩
        · have := w1 own hp
          rw [this]
          have idem : ∀ (σ : L2.St) (vs ws : List Nat), (∀ i ∈ vs, i ∈ ws) → L2.wipe (L2.wipe σ vs) ws = L2.wipe σ ws := by
            intro σ vs ws
            induction vs with
            | nil => intro _; rfl
            | cons v vs ih =>
              intro h
              have e : L2.wipe σ (v :: vs) = (L2.wipe σ vs).set v none := rfl
              rw [e, wipe_set _ _ (h v (by simp)), ih fun i hi => h i (by simp [hi])]
          exact idem σ own own fun i hi => hi
        · have nD3 : D ∉ m3 := E3.no (E'.fr D _ hDx nD) nD
          have hD3 : H3 D = some (.lst xs) := E3.fr D _ (E'.fr D _ hDx nD) nD
          have k3 := (E'.kp R).trans (E3.kp R')
          cases bb with
          | true =>
            rw [if_pos rfl] at el
            refine iteT ?_
            obtain ⟨⟨y, S4⟩, b3, el⟩ := Option.bind_eq_some_iff.mp el
            dsimp only at el
            split at el
            · next hlen =>
              refine ⟨m3, ρ1, S3, y, S4, R3, r1.kp (E3.kp R'), b3, fun m4 u H4 E4 R4 r4 => ?_⟩
              have nD4 : D ∉ m4 := E4.no hD3 nD3
              have hD4 : H4 D = some (.lst xs) := E4.fr D _ hD3 nD3
              have rx4 := rx.kp (k3.trans (E4.kp R3))
              refine ⟨xs, hD4, by rw [rx.len]; exact Nat.lt_of_lt_of_le hlen (by decide), ?_⟩
              have kD : Kp m4 H4 m4 (upd H4 D (.lst (xs ++ [u]))) := .at_ fun u' e => by rw [hD4] at e; cases e; exact .inl ⟨_, rfl⟩
              have EE := ((E.trans E').trans E3).trans E4
              refine ⟨m4, S4, acc ++ [y], xs ++ [u], ⟨EE.pre, fun a o h n t => ?_, EE.nw'⟩, R4.off kD (fun a ha => upd_ne fun z => nD4 (z ▸ ha)) (fun P ps h => tbl_at hD4 (fun _ z => by cases z) h), nD4, upd_same, (rx4.kp kD).app (r4.kp kD).one, el⟩
              rw [upd_ne (ne_of_none h hD)]
              exact EE.fr' a o h n t
            · cases el
          | false =>
            rw [if_neg Bool.false_ne_true] at el
            refine iteF ?_
            exact ⟨m3, S3, acc, xs, (E.trans E').trans E3, R3, nD3, hD3, rx.kp k3, el⟩
      · cases el
    · have e : i = vs.length := by omega
      subst e
      rw [List.drop_length] at el
      unfold lcR at el
      split at el
      · next hok =>
        cases el
        refine .inl ⟨it0.stop m _ H E R hok, ?_⟩
        have E1 : Ext m0 H0 (m ++ [D]) H := by
          obtain ⟨r', hr'⟩ := E.pre
          refine ⟨⟨r' ++ [D], by rw [hr', List.append_assoc]⟩, E.fr', fun a o ha n ho => ?_⟩
          rcases List.mem_append.mp ha with z | z
          · exact E.nw' a o z n ho
          · simp only [List.mem_singleton] at z
            rw [z, hD] at ho
            cases ho
        have kk : Kp m H (m ++ [D]) H := .grow [D] (.refl _ _)
        have R1 : Rel K (m ++ [D]) (S2 ++ [.lst ys]) H := by
          refine ⟨by simp [R.len], ?_, fun n o' a h1 h2 => ?_, R.tb⟩
          · rw [List.nodup_append]
            refine ⟨R.nd, by simp, fun a ha b hb z => ?_⟩
            simp only [List.mem_singleton] at hb
            exact nD (hb ▸ z ▸ ha)
          · by_cases hn : n < S2.length
            · rw [List.getElem?_append_left hn] at h1
              rw [List.getElem?_append_left (by rw [R.len]; exact hn)] at h2
              exact (R.ob n o' a h1 h2).kp kk rfl
            · have e : n = S2.length := by
                have := (List.getElem?_eq_some_iff.mp h1).1
                simp only [List.length_append, List.length_singleton] at this
                omega
              subst e
              rw [List.getElem?_concat_length] at h1
              rw [← R.len, List.getElem?_concat_length] at h2
              cases h1
              cases h2
              exact ⟨xs, hDx, rx.kp kk⟩
        refine q (m ++ [D]) (.ref D) H (E0.trans E1) R1 (.ref ?_)
        rw [← R.len, List.getElem?_concat_length]
      · cases el
theorem alc {elt tg it : Expr} {ifs : List Expr} {scope : Scope} {own : List (Str × Nat)} {p : Pat} {fi : IF} {t : BF} (hc : X.calm = true) (hN : X.N.Nodup) (hi : AI X tg it fi) (ok : BlkOk X.N X.env.scope scope own) (hp : ∀ i ∈ p.slots, i ∈ own.map (·.2))
    (hg : ∀ (s : Shared) (H : Hp) (C : Addr) (cl : List (Str × Addr)) (fp : List Addr), PG (X.blk s H scope (compEnvC scope cl C X.env) fp) tg (tG X.K p)) (ht : ∀ (s : Shared) (H : Hp) (C : Addr) (cl : List (Str × Addr)) (fp : List Addr), PTs (X.blk s H scope (compEnvC scope cl C X.env) fp) ifs (tFb X.K t))
    (he : ∀ (s : Shared) (H : Hp) (C : Addr) (cl : List (Str × Addr)) (fp : List Addr), AE (X.blk s H scope (compEnvC scope cl C X.env) fp) elt f) (hs : ∀ x, foldedSetIterable it X.env x = pure x := by intro _; rfl) :
    AE X (.ListComp elt [⟨tg, it, ifs, 0⟩] scope pos) (eLc p fi t f (own.map (·.2))) := pe_w (pe_lc hc hN hi ok hg ht he hs) fun _ _ _ h => eLc_ok hp h

theorem aslc {i : Nat} {y : Str} {py spos : Pos} {elt tg it : Expr} {ifs : List Expr} {scope : Scope} {own : List (Str × Nat)} {p : Pat} {fi : IF} {t : BF} (hc : X.calm = true) (hN : X.N.Nodup) (hy : X.N[i]? = some y) (hyl : X.env.scope.names.lookup y = some .local)
    (hsw : swapsWith (.ListComp elt [⟨tg, it, ifs, 0⟩] scope pos) (some (.Name y py)) spos.line X.env = pure true) (hi : AI X tg it fi) (ok : BlkOk X.N X.env.scope scope own) (hp : ∀ i ∈ p.slots, i ∈ own.map (·.2))
    (hg : ∀ (s : Shared) (H : Hp) (C : Addr) (cl : List (Str × Addr)) (fp : List Addr), PG (X.blk s H scope (compEnvC scope cl C X.env) fp) tg (tG X.K p)) (ht : ∀ (s : Shared) (H : Hp) (C : Addr) (cl : List (Str × Addr)) (fp : List Addr), PTs (X.blk s H scope (compEnvC scope cl C X.env) fp) ifs (tFb X.K t))
    (he : ∀ (s : Shared) (H : Hp) (C : Addr) (cl : List (Str × Addr)) (fp : List Addr), AE (X.blk s H scope (compEnvC scope cl C X.env) fp) elt f) (hs : ∀ x, foldedSetIterable it X.env x = pure x := by intro _; rfl) :
    AS X (.Assign [.Name y py] (.ListComp elt [⟨tg, it, ifs, 0⟩] scope pos) spos) (sAsg (.nm i) (eLc p fi t f (own.map (·.2)))) := ps_w (ps_setLc (i := i) hc hN hy hyl hsw hi ok hg ht he hs) fun D σ H h => by
  obtain ⟨m, ρ, S, R, r, q⟩ := h
  unfold sAsg at q
  split at q
  · next v S1 e1 =>
    simp only [Pat.bind] at q
    exact eLc_ok hp ⟨m, ρ, S, v, S1, R, r, e1, fun m1 u H1 E1 R1 r1 => q m1 _ H1 E1 R1 ((r.kp (E1.kp R)).set r1 i)⟩
  · exact q.elim
end
def runF (n : Nat) (g : SF) : FA := fun vs S => match g (vs.map some ++ List.replicate (n - vs.length) none) S with
  | .rt v S => some (v, S)
  | .nx _ S => some (.non, S)
  | _ => none
end AL
namespace AL
open PySem PySem.Spec PyProof.Rows L2 G
variable [TT]
theorem rho_start {K : PySem.W.Frag} {H : Hp} {m : List Addr} (N : List Str) {us : List V} {vs : List Val} (r : VRs K H m us vs) : RhoR K H m (vs.map some ++ List.replicate (N.length - vs.length) none) (L2.start N us) := by
  have l := r.len
  refine ⟨by simp [L2.start, l], fun i v h => ?_⟩
  by_cases hi : i < vs.length
  · rw [List.getElem?_append_left (by simpa using hi), List.getElem?_map] at h
    obtain ⟨w, h1, h2⟩ := Option.map_eq_some_iff.mp h
    cases h2
    obtain ⟨u, h3, h4⟩ := r.get h1
    refine ⟨u, ?_, h4⟩
    unfold L2.start
    rw [List.getElem?_append_left (by simpa [l] using hi), List.getElem?_map, h3]
    rfl
  · rw [List.getElem?_append_right (by simpa using Nat.le_of_not_lt hi), List.getElem?_replicate] at h
    split at h <;> cases h

theorem fn_a {P : Program} {w : World} {K : PySem.W.Frag} {mg : Str → Option Value} {base : Heap} {x qual : Str} {st : Stmt} {f : Addr} {fd : FuncData} {N ps : List Str} {k : Nat} {g : SF}
    (F : Fun K x qual st f fd) (S : FnScope N ps (defScope st)) (hb : Binds K fd ps []) (hm : mg x = some (.ref f))
    (body : ∀ (cdv : Value) (A : Around) (outer : List Env) (s : Shared) (H : Hp) (E : XK), A.guards = some [] →
      Room k (A.deeper (envOfC qual (defScope st) s.heap.objs.size f cdv)) → ASs (cxOf CX0 P w K mg base N qual (defScope st) f cdv A outer s H E).nox (defBody st) g) {n : Nat} (hn : N.length = n := by rfl) :
    Def P w K mg base (k + 1) x ps (runF n g) := by
  subst hn
  refine ⟨f, fd, fn_g F S (fun vs H Q E h => h.1) (fun cdv A outer s H us Q E hg hr h => ⟨_, body cdv A outer s H E hg hr, ?_⟩), hb, hm, F.kp⟩
  obtain ⟨hl, m, S0, vs, v, S', R, r, e, q⟩ := h
  refine ⟨m, _, S0, R, rho_start N r, ?_⟩
  unfold runF at e
  split at e
  · next v' S1 e1 =>
    cases e
    rw [e1]
    exact q
  · next v' S1 e1 =>
    cases e
    rw [e1]
    exact fun m' σ' H' E' R' r' => q m' .non H' E' R' .non
  · cases e
section
variable {X : Cx} {K : PySem.W.Frag}
def gI (g : Int → Int → Val) : Val → Val → Sto → Option (Val × Sto) := fun x y S => match x, y with
  | .int a, .int b => some (g a b, S)
  | _, _ => none
theorem oI {gv : Int → Int → V} {g : Int → Int → Val} (h : ∀ H m a b, VR K H m (gv a b) (g a b)) : OpA K (rI0 gv) (gI g) := by
  intro m S H x y v S' u w Q R ru rw_ e q
  cases x <;> cases y <;> simp only [gI] at e <;> try cases e
  cases ru
  cases rw_
  exact ⟨_, _, rfl, rfl, q m _ H (.refl _ _) R (h H m _ _)⟩
open Classical in
noncomputable def gIc (C : Int → Int → Prop) (g : Int → Int → Val) : Val → Val → Sto → Option (Val × Sto) := fun x y S => match x, y with
  | .int a, .int b => if C a b then some (g a b, S) else none
  | _, _ => none
theorem oIc {C : Int → Int → Prop} {gv : Int → Int → V} {g : Int → Int → Val} (h : ∀ H m a b, VR K H m (gv a b) (g a b)) : OpA K (rI C gv) (gIc C g) := by
  intro m S H x y v S' u w Q R ru rw_ e q
  cases x <;> cases y <;> simp only [gIc] at e <;> try cases e
  cases ru
  cases rw_
  split at e
  · next hc =>
    cases e
    exact ⟨_, _, rfl, rfl, hc, q m _ H (.refl _ _) R (h H m _ _)⟩
  · cases e
abbrev gSub := gI fun a b => .int (a - b)
noncomputable abbrev gMul := gIc CMulW fun a b => .int (a * b)
noncomputable abbrev gDiv := gIc CDivW fun a b => .int (a / b)
noncomputable abbrev gMod := gIc (fun _ b => b ≠ 0) fun a b => .int (a.fmod b)
noncomputable abbrev gPow := gIc CPow fun a b => .int (a ^ b.toNat)
abbrev gLt := gI fun a b => .bl (decide (a < b))
abbrev gLe := gI fun a b => .bl (decide (a ≤ b))
abbrev gGt := gI fun a b => .bl (decide (b < a))
abbrev gGe := gI fun a b => .bl (decide (b ≤ a))
theorem oSub : OpA K (rI0 fun i j => .int (i - j)) gSub := oI fun _ _ _ _ => .int _
theorem oMul : OpA K (rI CMulW fun i j => .int (i * j)) gMul := oIc fun _ _ _ _ => .int _
theorem oDiv : OpA K (rI CDivW fun i j => .int (i / j)) gDiv := oIc fun _ _ _ _ => .int _
theorem oMod : OpA K (rI (fun _ j => j ≠ 0) fun i j => .int (i.fmod j)) gMod := oIc fun _ _ _ _ => .int _
theorem oPow : OpA K (rI CPow fun i j => .int (i ^ j.toNat)) gPow := oIc fun _ _ _ _ => .int _
theorem oLt : OpA K (rI0 fun i j => .bl (decide (i < j))) gLt := oI fun _ _ _ _ => .bl _
theorem oLe : OpA K (rI0 fun i j => .bl (decide (i ≤ j))) gLe := oI fun _ _ _ _ => .bl _
theorem oGt : OpA K (rI0 fun i j => .bl (decide (j < i))) gGt := oI fun _ _ _ _ => .bl _
theorem oGe : OpA K (rI0 fun i j => .bl (decide (j ≤ i))) gGe := oI fun _ _ _ _ => .bl _
def gNeg : Val → Sto → Option (Val × Sto) := fun x S => match x with
  | .int a => some (.int (-a), S)
  | _ => none
theorem oNeg : UnA K (rU fun i => .int (-i)) gNeg := by
  intro m S H x v S' u Q R ru e q
  cases x <;> simp only [gNeg] at e <;> try cases e
  cases ru
  exact ⟨_, rfl, q m _ H (.refl _ _) R (.int _)⟩
def gAdd : Val → Val → Sto → Option (Val × Sto) := fun x y S => match x, y with
  | .int a, .int b => some (.int (a + b), S)
  | .str a, .str b => if a.length + b.length ≤ sizeLine then some (.str (a ++ b), S) else none
  | .tup (a :: as), .tup b => if as.length + 1 + b.length ≤ sizeLine then some (.tup (a :: as ++ b), S) else none
  | .ref i, .ref j => match S[i]?, S[j]? with
    | some (.lst a), some (.lst b) => if a.length + b.length ≤ sizeLine then some (.ref S.length, S ++ [.lst (a ++ b)]) else none
    | _, _ => none
  | _, _ => none
def rAddA (K : PySem.W.Frag) : R2 := fun x y H Q => (rI0 (fun i j => .int (i + j))) x y H Q ∨ ((∃ i j, x = .str i ∧ y = .str j ∧ i.length + j.length ≤ sizeLine ∧ Q (.str (i ++ j)) H) ∨ (rCatT K x y H Q ∨ rCat x y H Q))
theorem op_addA : OpR X (binaryOp .Add) (rAddA X.K) := op_add.or (op_add_str.or (op_catT.or op_cat))
theorem oAdd : OpA K (rAddA K) gAdd := by
  intro m S H x y v S' u w Q R ru rw_ e q
  unfold gAdd at e
  split at e
  · cases e
    cases ru
    cases rw_
    exact .inl ⟨_, _, rfl, rfl, q m _ H (.refl _ _) R (.int _)⟩
  · split at e
    · next h =>
      cases e
      cases ru
      cases rw_
      exact .inr (.inl ⟨_, _, rfl, rfl, h, q m _ H (.refl _ _) R (.str _)⟩)
    · cases e
  · next a as b =>
    split at e
    · next h =>
      cases e
      cases ru with
      | tup ha ra =>
        rename_i ad xs
        cases rw_ with
        | tup hb rb =>
          rename_i bd ys
          have l1 := ra.len
          have l2 := rb.len
          rw [List.length_cons] at l1
          refine .inr (.inr (.inl ⟨ad, bd, xs, ys, rfl, rfl, ha.sq, hb.sq, ?_, by omega, fun z => ?_, fun z p hp => ?_⟩))
          · intro z
            rw [z] at l1
            simp at l1
          · subst z
            have : b = [] := by
              cases b with
              | nil => rfl
              | cons _ _ => simp at l2
            subst this
            rw [List.append_nil] at q
            exact q m _ H (.refl _ _) R (.tup ha ra)
          · obtain ⟨R2, E2⟩ := R.tmp (o := .tup (xs ++ ys)) hp
            exact q m _ _ E2 R2 (.tup (.inl upd_same) ((ra.app rb).kp (E2.kp R)))
    · cases e
  · next i j =>
    split at e
    · next a b ea eb =>
      split at e
      · next h =>
        cases e
        cases ru with
        | ref ha =>
          cases rw_ with
          | ref hb =>
            obtain ⟨xs, hx, rx⟩ := R.ob _ _ _ ea ha
            obtain ⟨ys, hy, ry⟩ := R.ob _ _ _ eb hb
            refine .inr (.inr (.inr ⟨_, _, xs, ys, rfl, rfl, hx, hy, by rw [rx.len, ry.len]; exact h, fun p hp => ?_⟩))
            have k1 : Kp m H (m ++ [p]) (upd H p (.lst (xs ++ ys))) := .grow [p] (.new hp)
            obtain ⟨R2, E2⟩ := R.alloc (o := .lst (xs ++ ys)) (b := .lst (a ++ b)) hp ⟨_, upd_same, (rx.app ry).kp k1⟩
            refine q _ _ _ E2 R2 (.ref ?_)
            rw [← R.len, List.getElem?_concat_length]
      · cases e
    · cases e
  · cases e
theorem newList {m : List Addr} {S : Sto} {H : Hp} {xs : List V} {vs : List Val} (R : Rel K m S H) (r : VRs K H m xs vs) {Q : VK} (q : ∀ m' z H', Ext m H m' H' → Rel K m' (S ++ [.lst vs]) H' → VR K H' m' z (.ref S.length) → Q z H') : ∀ p, H p = none → Q (.ref p) (upd H p (.lst xs)) := fun p hp => by
  have k1 : Kp m H (m ++ [p]) (upd H p (.lst xs)) := .grow [p] (.new hp)
  obtain ⟨R2, E2⟩ := R.alloc (o := .lst xs) (b := .lst vs) hp ⟨_, upd_same, r.kp k1⟩
  refine q _ _ _ E2 R2 (.ref ?_)
  rw [← R.len, List.getElem?_concat_length]
theorem newTup {m : List Addr} {S : Sto} {H : Hp} {xs : List V} {vs : List Val} (R : Rel K m S H) (r : VRs K H m xs vs) {Q : VK} (q : ∀ m' z H', Ext m H m' H' → Rel K m' S H' → VR K H' m' z (.tup vs) → Q z H') : ∀ p, H p = none → Q (.ref p) (upd H p (.tup xs)) := fun p hp => by
  obtain ⟨R2, E2⟩ := R.tmp (o := .tup xs) hp
  exact q m _ _ E2 R2 (.tup (.inl upd_same) (r.kp (E2.kp R)))
theorem VRs.atI {H : Hp} {m : List Addr} {us : List V} {vs : List Val} (r : VRs K H m us vs) {i : Int} {v : Val} (h : L2.atI vs i = some v) : ∃ u, L2.atI us i = some u ∧ VR K H m u v := by
  unfold L2.atI at h ⊢
  rw [r.len]
  cases e : ixN vs.length i with
  | none => rw [e] at h; cases h
  | some j =>
    rw [e] at h
    exact r.get h
def gIx : Val → Val → Sto → Option (Val × Sto) := fun x y S => match x, y with
  | .tup vs, .int i => (atI vs i).map fun v => (v, S)
  | .ref n, .int i => match S[n]? with
    | some (.lst vs) => (atI vs i).map fun v => (v, S)
    | _ => none
  | .str z, .int i => if z.length ≤ sizeLine then (atI z.cps.toList i).map fun c => (.str ⟨#[c]⟩, S) else none
  | _, _ => none
theorem oIx : OpA K (rIx K) gIx := by
  intro m S H x y v S' u w Q R ru rw_ e q
  unfold gIx at e
  split at e
  · obtain ⟨v', e1, e2⟩ := Option.map_eq_some_iff.mp e
    cases e2
    cases rw_
    cases ru with
    | tup ha ra =>
      obtain ⟨z, h1, h2⟩ := ra.atI e1
      exact .inr (.inl ⟨_, _, _, z, rfl, rfl, ha.sq, h1, q m z H (.refl _ _) R h2⟩)
  · split at e
    · next vs en =>
      obtain ⟨v', e1, e2⟩ := Option.map_eq_some_iff.mp e
      cases e2
      cases rw_
      cases ru with
      | ref ha =>
        obtain ⟨xs, hx, rx⟩ := R.ob _ _ _ en ha
        obtain ⟨z, h1, h2⟩ := rx.atI e1
        exact .inl ⟨_, _, _, z, rfl, rfl, SqL.of hx, h1, q m z H (.refl _ _) R h2⟩
    · cases e
  · split at e
    · next hl =>
      obtain ⟨v', e1, e2⟩ := Option.map_eq_some_iff.mp e
      cases e2
      cases rw_
      cases ru
      exact .inr (.inr ⟨_, _, _, rfl, rfl, hl, e1, q m _ H (.refl _ _) R (.str _)⟩)
    · cases e
  · cases e
def cutL {α : Type} (xs : List α) (lo hi : Option Int) : List α := (xs.drop (HT.sIx xs.length 0 lo)).take (HT.sIx xs.length xs.length hi - HT.sIx xs.length 0 lo)
theorem VRs.cut {H : Hp} {m : List Addr} {us : List V} {vs : List Val} (r : VRs K H m us vs) (lo hi : Option Int) : VRs K H m (cutV us lo hi) (cutL vs lo hi) := by
  unfold cutV cutL
  rw [r.len]
  exact (r.drop _).take _
open Classical in
noncomputable def gSl : Val → Option Int → Option Int → Sto → Option (Val × Sto) := fun x lo hi S => match x with
  | .tup vs => if ¬ (HT.sIx vs.length 0 lo = 0 ∧ HT.sIx vs.length vs.length hi = vs.length) then some (.tup (cutL vs lo hi), S) else none
  | .ref n => match S[n]? with
    | some (.lst vs) => some (.ref S.length, S ++ [.lst (cutL vs lo hi)])
    | _ => none
  | .scr ns => some (.ref S.length, S ++ [.lst (cutL (ns.map Val.int) lo hi)])
  | _ => none
theorem vrs_ints {H : Hp} {m : List Addr} : ∀ ns : List Int, VRs K H m (ns.map V.int) (ns.map Val.int)
  | [] => .nil
  | n :: ns => .cons (.int n) (vrs_ints ns)
theorem vrs_strs {H : Hp} {m : List Addr} : ∀ ns : List Str, VRs K H m (ns.map V.str) (ns.map Val.str)
  | [] => .nil
  | n :: ns => .cons (.str n) (vrs_strs ns)
def rSlA (K : PySem.W.Frag) : V → Option Int → Option Int → Hp → VK → Prop := fun x lo hi H Q => rSlT K x lo hi H Q ∨ rSlL K x lo hi H Q
theorem sl_A : SlR X (rSlA X.K) := sl_tup.or sl_list
theorem oSl : SlA K (rSlA K) gSl := by
  intro m S H x lo hi v S' u Q R ru e q
  unfold gSl at e
  split at e
  · split at e
    · next hn =>
      cases e
      cases ru with
      | tup ha ra =>
        refine .inl ⟨_, _, rfl, ha.sq, by rw [ra.len]; exact hn, newTup R (ra.cut lo hi) q⟩
    · cases e
  · split at e
    · next vs en =>
      cases e
      cases ru with
      | ref ha =>
        obtain ⟨xs, hx, rx⟩ := R.ob _ _ _ en ha
        exact .inr ⟨_, _, rfl, SqL.of hx, newList R (rx.cut lo hi) q⟩
    · cases e
  · cases e
    cases ru with
    | scr ha => exact .inr ⟨_, _, rfl, ha.sq, newList R ((vrs_ints _).cut lo hi) q⟩
  · cases e
def gLen : List Val → Sto → Option (Val × Sto) := fun xs S => match xs with
  | [.tup vs] => some (.int vs.length, S)
  | [.ref n] => match S[n]? with
    | some (.lst vs) => some (.int vs.length, S)
    | some (.dic kvs) => some (.int kvs.length, S)
    | _ => none
  | [.str z] => if z.length ≤ sizeLine then some (.int z.length, S) else none
  | _ => none
def rLenA (K : PySem.W.Frag) : List V → Hp → VK → Prop := fun xs H Q => (∃ p ys, xs = [.ref p] ∧ (SqL K H p ys ∨ SqT K H p ys) ∧ Q (.int ys.length) H) ∨ ((∃ z, xs = [.str z] ∧ z.length ≤ sizeLine ∧ Q (.int z.length) H) ∨ (∃ d kvs, xs = [.ref d] ∧ H d = some (.dK kvs) ∧ Q (.int (kvs.length : Nat)) H))
theorem VRs.one_of {H : Hp} {m : List Addr} {us : List V} {v : Val} (r : VRs K H m us [v]) : ∃ u, us = [u] ∧ VR K H m u v := by
  cases r with
  | cons a b =>
    cases b
    exact ⟨_, rfl, a⟩
theorem cLen : CaA K (rLenA K) gLen := by
  intro m S H xs v S' us Q R ru e q
  unfold gLen at e
  split at e
  · cases e
    obtain ⟨u, rfl, r1⟩ := ru.one_of
    cases r1 with
    | tup ha ra => exact .inl ⟨_, _, rfl, .inr ha.sq, by rw [ra.len]; exact q m _ H (.refl _ _) R (.int _)⟩
  · split at e
    · next vs en =>
      cases e
      obtain ⟨u, rfl, r1⟩ := ru.one_of
      cases r1 with
      | ref ha =>
        obtain ⟨xs, hx, rx⟩ := R.ob _ _ _ en ha
        exact .inl ⟨_, _, rfl, .inl (SqL.of hx), by rw [rx.len]; exact q m _ H (.refl _ _) R (.int _)⟩
    · next kvs en =>
      cases e
      obtain ⟨u, rfl, r1⟩ := ru.one_of
      cases r1 with
      | ref ha =>
        obtain ⟨xs, hx, he, rx⟩ := R.ob _ _ _ en ha
        have l : xs.length = kvs.length := by simpa using congrArg List.length he
        exact .inr (.inr ⟨_, _, rfl, hx, by rw [l]; exact q m _ H (.refl _ _) R (.int _)⟩)
    · cases e
  · split at e
    · next hl =>
      cases e
      obtain ⟨u, rfl, r1⟩ := ru.one_of
      cases r1
      exact .inr (.inl ⟨_, rfl, hl, q m _ H (.refl _ _) R (.int _)⟩)
    · cases e
  · cases e
theorem call_lenA : CallR X (.builtin "len") (rLenA X.K) := CallR.or call_len_seq (CallR.or call_len_str call_lenD)
def gAbs : List Val → Sto → Option (Val × Sto) := fun xs S => match xs with
  | [.int i] => some (.int (if i < 0 then -i else i), S)
  | _ => none
theorem cAbs : CaA K (fun xs H Q => ∃ i, xs = [.int i] ∧ Q (.int (if i < 0 then -i else i)) H) gAbs := by
  intro m S H xs v S' us Q R ru e q
  unfold gAbs at e
  split at e
  · cases e
    obtain ⟨u, rfl, r1⟩ := ru.one_of
    cases r1
    exact ⟨_, rfl, q m _ H (.refl _ _) R (.int _)⟩
  · cases e
def gTuple : List Val → Sto → Option (Val × Sto) := fun xs S => match xs with
  | [.tup vs] => some (.tup vs, S)
  | [.ref n] => match S[n]? with
    | some (.lst vs) => some (.tup vs, S)
    | _ => none
  | _ => none
theorem cTuple : CaA K (fun xs H Q => ∃ p ys, xs = [.ref p] ∧ ((SqL K H p ys ∧ ∀ l, H l = none → Q (.ref l) (upd H l (.tup ys))) ∨ (SqT K H p ys ∧ Q (.ref p) H))) gTuple := by
  intro m S H xs v S' us Q R ru e q
  unfold gTuple at e
  split at e
  · cases e
    obtain ⟨u, rfl, r1⟩ := ru.one_of
    cases r1 with
    | tup ha ra => exact ⟨_, _, rfl, .inr ⟨ha.sq, q m _ H (.refl _ _) R (.tup ha ra)⟩⟩
  · split at e
    · next vs en =>
      cases e
      obtain ⟨u, rfl, r1⟩ := ru.one_of
      cases r1 with
      | ref ha =>
        obtain ⟨xs, hx, rx⟩ := R.ob _ _ _ en ha
        exact ⟨_, _, rfl, .inl ⟨SqL.of hx, newTup R rx q⟩⟩
    · cases e
  · cases e
def gList : List Val → Sto → Option (Val × Sto) := fun xs S => match xs with
  | [.tup vs] => some (.ref S.length, S ++ [.lst vs])
  | [.ref n] => match S[n]? with
    | some (.lst vs) => some (.ref S.length, S ++ [.lst vs])
    | _ => none
  | _ => none
def isL : Val → Sto → Bool := fun v S => match v with
  | .ref n => match S[n]? with
    | some (.lst _) => true
    | _ => false
  | _ => false
theorem tyL : TyA K "list" isL := by
  intro m S H u v R r h
  unfold isL at h
  split at h
  · split at h
    · next n _ vs en =>
      cases r with
      | ref ha =>
        obtain ⟨xs, hx, rx⟩ := R.ob _ _ _ en ha
        exact .inl ⟨rfl, xs, SqL.of hx⟩
    · cases h
  · cases h
def gApp : Val → List Val → Sto → Option (Val × Sto) := fun x xs S => match x, xs with
  | .ref n, [v] => match S[n]? with
    | some (.lst vs) => if vs.length < sizeLine then some (.non, S.set n (.lst (vs ++ [v]))) else none
    | _ => none
  | _, _ => none
theorem mApp : MtA K rAppend gApp := by
  intro m S H x xs v S' u us Q R ru rus e q
  unfold gApp at e
  split at e
  · split at e
    · next n v0 _ vs en =>
      split at e
      · next hl =>
        cases e
        cases ru with
        | ref ha =>
          obtain ⟨y, rfl, r1⟩ := rus.one_of
          obtain ⟨xs, hx, rx⟩ := R.ob _ _ _ en ha
          refine ⟨_, xs, y, rfl, rfl, hx, by rw [rx.len]; exact hl, ?_⟩
          have hm := List.mem_of_getElem? ha
          have k : Kp m H m (upd H _ (.lst (xs ++ [y]))) := R.kput hm
          obtain ⟨R2, E2⟩ := R.put (o := .lst (xs ++ [y])) (b := .lst (vs ++ [v0])) ha ⟨_, upd_same, (rx.kp k).app (r1.kp k).one⟩
          exact q m _ _ E2 R2 .non
      · cases e
    · cases e
  · cases e
def gPop : Val → List Val → Sto → Option (Val × Sto) := fun x xs S => match x, xs with
  | .ref n, [.int i] => match S[n]? with
    | some (.lst vs) => if -(2 ^ 63) ≤ i ∧ i < 2 ^ 63 then match seqIndex? i vs.length with
      | some k => match vs[k]? with
        | some y => some (y, S.set n (.lst (vs.eraseIdx k)))
        | none => none
      | none => none
      else none
    | _ => none
  | _, _ => none
theorem VRs.erase {H : Hp} {m : List Addr} : ∀ {us : List V} {vs : List Val} (n : Nat), VRs K H m us vs → VRs K H m (us.eraseIdx n) (vs.eraseIdx n)
  | _, _, _, .nil => .nil
  | _, _, 0, .cons a q => q
  | _, _, n + 1, .cons a q => .cons a (q.erase n)
def gSet : Val → Val → Val → Sto → Option Sto := fun o i v S => match o, i with
  | .ref n, .int k => match S[n]? with
    | some (.lst vs) => match ixN vs.length k with
      | some j => some (S.set n (.lst (vs.set j v)))
      | none => none
    | _ => none
  | _, _ => none
theorem stL : SetA K rSetL gSet := by
  intro m S H o i v S' uo ui u Q R ro ri rv e q
  unfold gSet at e
  split at e
  · split at e
    · next n k _ vs en =>
      split at e
      · next j ej =>
        cases e
        cases ri
        cases ro with
        | ref ha =>
          obtain ⟨xs, hx, rx⟩ := R.ob _ _ _ en ha
          have hm := List.mem_of_getElem? ha
          have kk : Kp m H m (upd H _ (.lst (xs.set j u))) := R.kput hm
          obtain ⟨R2, E2⟩ := R.put (o := .lst (xs.set j u)) (b := .lst (vs.set j v)) ha ⟨_, upd_same, (rx.kp kk).set (rv.kp kk) j⟩
          exact ⟨_, xs, k, j, rfl, rfl, hx, by rw [rx.len]; exact ej, q _ E2 R2⟩
      · cases e
    · cases e
  · cases e
def isNon : Val → Bool
  | .non => true
  | _ => false
def gIs : Val → Val → Sto → Option (Val × Sto) := fun x y S => match y with
  | .non => some (.bl (isNon x), S)
  | _ => none
def gIsN : Val → Val → Sto → Option (Val × Sto) := fun x y S => match y with
  | .non => some (.bl (!isNon x), S)
  | _ => none
theorem VR.isNon {H : Hp} {m : List Addr} {u : V} {v : Val} (r : VR K H m u v) : decide (u = .non) = AL.isNon v := by
  cases r <;> rfl
theorem oIs : OpA K (fun x y H Q => y = .non ∧ Q (.bl (decide (x = .non))) H) gIs := by
  intro m S H x y v S' u w Q R ru rw_ e q
  cases y <;> simp only [gIs] at e <;> try cases e
  cases rw_
  exact ⟨rfl, by rw [ru.isNon]; exact q m _ H (.refl _ _) R (.bl _)⟩
theorem oIsN : OpA K (fun x y H Q => y = .non ∧ Q (.bl (!decide (x = .non))) H) gIsN := by
  intro m S H x y v S' u w Q R ru rw_ e q
  cases y <;> simp only [gIsN] at e <;> try cases e
  cases rw_
  exact ⟨rfl, by rw [ru.isNon]; exact q m _ H (.refl _ _) R (.bl _)⟩
end
end AL
namespace Th
open PySem PySem.Spec PyProof.Rows L2 G
def But (f : Addr) (H H' : Hp) : Prop := ∀ b o, b ≠ f → H b = some o → H' b = some o
theorem But.trans {f : Addr} {H H' H2 : Hp} (a : But f H H') (b : But f H' H2) : But f H H2 := fun x o n e => b x o n (a x o n e)
theorem But.of {f : Addr} {H H' : Hp} (a : Same H H') : But f H H' := fun x o _ e => a x o e
mutual
inductive Tr (f : Addr) (H : Hp) : V → PyData → Prop
  | non : Tr f H .non .none
  | bl (b : Bool) : Tr f H (.bl b) (.bool b)
  | int (i : Int) : Tr f H (.int i) (.int i)
  | str (x : Str) : Tr f H (.str x) (.str x)
  | lst {a : Addr} {xs : List V} {ds : List PyData} : a ≠ f → H a = some (.lst xs) → TrAll f H xs ds → Tr f H (.ref a) (.list ds)
  | tup {a : Addr} {xs : List V} {ds : List PyData} : a ≠ f → H a = some (.tup xs) → TrAll f H xs ds → Tr f H (.ref a) (.tuple ds)
inductive TrAll (f : Addr) (H : Hp) : List V → List PyData → Prop
  | nil : TrAll f H [] []
  | cons {v : V} {vs : List V} {d : PyData} {ds : List PyData} : Tr f H v d → TrAll f H vs ds → TrAll f H (v :: vs) (d :: ds)
end
section
variable {f : Addr} {H H' : Hp}
mutual
theorem Tr.keep (k : But f H H') : ∀ (d : PyData) (v : V), Tr f H v d → Tr f H' v d
  | .none, _, h => by cases h; exact .non
  | .bool b, _, h => by cases h; exact .bl _
  | .int i, _, h => by cases h; exact .int _
  | .str x, _, h => by cases h; exact .str _
  | .list ds, _, h => by
    cases h with
    | lst n e r => exact .lst n (k _ _ n e) (TrAll.keep k ds _ r)
  | .tuple ds, _, h => by
    cases h with
    | tup n e r => exact .tup n (k _ _ n e) (TrAll.keep k ds _ r)
  | .dict _, _, h => by cases h
theorem TrAll.keep (k : But f H H') : ∀ (ds : List PyData) (vs : List V), TrAll f H vs ds → TrAll f H' vs ds
  | [], _, h => by cases h; exact .nil
  | d :: ds, _, h => by
    cases h with
    | cons a r => exact .cons (Tr.keep k d _ a) (TrAll.keep k ds _ r)
end
theorem Tr.k {v : V} {d : PyData} (h : Tr f H v d) (k : But f H H') : Tr f H' v d := Tr.keep k d v h
theorem TrAll.k {vs : List V} {ds : List PyData} (h : TrAll f H vs ds) (k : But f H H') : TrAll f H' vs ds := TrAll.keep k ds vs h
mutual
theorem Tr.dpA (K : PySem.W.Frag) : ∀ (d : PyData) (v : V), Tr f H v d → Dp K H v d
  | .none, _, h => by cases h; exact .non
  | .bool b, _, h => by cases h; exact .bl _
  | .int i, _, h => by cases h; exact .int _
  | .str x, _, h => by cases h; exact .str _
  | .list ds, _, h => by
    cases h with
    | lst n e r => exact .lst (SqL.of e) (TrAll.dpA K ds _ r)
  | .tuple ds, _, h => by
    cases h with
    | tup n e r => exact .tup (SqT.of e) (TrAll.dpA K ds _ r)
  | .dict _, _, h => by cases h
theorem TrAll.dpA (K : PySem.W.Frag) : ∀ (ds : List PyData) (vs : List V), TrAll f H vs ds → DpAll K H vs ds
  | [], _, h => by cases h; exact .nil
  | d :: ds, _, h => by
    cases h with
    | cons a r => exact .cons (Tr.dpA K d _ a) (TrAll.dpA K ds _ r)
end
theorem Tr.dp {K : PySem.W.Frag} {v : V} {d : PyData} (h : Tr f H v d) : Dp K H v d := Tr.dpA K d v h
theorem TrAll.dp {K : PySem.W.Frag} {vs : List V} {ds : List PyData} (h : TrAll f H vs ds) : DpAll K H vs ds := TrAll.dpA K ds vs h
theorem TrAll.len : ∀ {vs : List V} {ds : List PyData}, TrAll f H vs ds → vs.length = ds.length
  | _, _, .nil => rfl
  | _, _, .cons _ r => by rw [List.length_cons, List.length_cons, r.len]
theorem TrAll.app : ∀ {vs us : List V} {ds es : List PyData}, TrAll f H vs ds → TrAll f H us es → TrAll f H (vs ++ us) (ds ++ es)
  | _, _, _, _, .nil, r => r
  | _, _, _, _, .cons a q, r => .cons a (q.app r)
theorem TrAll.get : ∀ {vs : List V} {ds : List PyData} {i : Nat} {v : V}, TrAll f H vs ds → vs[i]? = some v → ∃ d, ds[i]? = some d ∧ Tr f H v d
  | _, _, _, _, .nil, e => by simp at e
  | _, _, 0, _, .cons a q, e => by
    cases e
    exact ⟨_, rfl, a⟩
  | _, _, i + 1, _, .cons a q, e => q.get (i := i) e
theorem TrAll.take : ∀ {vs : List V} {ds : List PyData} (n : Nat), TrAll f H vs ds → TrAll f H (vs.take n) (ds.take n)
  | _, _, 0, _ => .nil
  | _, _, _ + 1, .nil => .nil
  | _, _, n + 1, .cons a r => .cons a (TrAll.take n r)
theorem TrAll.set : ∀ {vs : List V} {ds : List PyData} {v : V} {d : PyData} (n : Nat), TrAll f H vs ds → Tr f H v d → TrAll f H (vs.set n v) (ds.set n d)
  | _, _, _, _, _, .nil, _ => .nil
  | _, _, _, _, 0, .cons _ r, h => .cons h r
  | _, _, _, _, n + 1, .cons a r, h => .cons a (TrAll.set n r h)
theorem Tr.one {v : V} {d : PyData} (h : Tr f H v d) : TrAll f H [v] [d] := .cons h .nil

def ty : PyData → String
  | .none => "NoneType"
  | .bool _ => "bool"
  | .int _ => "int"
  | .str _ => "str"
  | .list _ => "list"
  | .tuple _ => "tuple"
  | .dict _ => "dict"
end
mutual
def okD : PyData → Bool
  | .none => true
  | .bool _ => true
  | .int i => decide (i.natAbs < 2 ^ 900)
  | .str x => PyData.strOk x
  | .list xs => okAll xs
  | .tuple xs => okAll xs
  | .dict _ => false
def okAll : List PyData → Bool
  | [] => true
  | x :: xs => okD x && okAll xs
end
theorem okAll_iff : ∀ {ds : List PyData}, okAll ds = true ↔ ∀ d ∈ ds, okD d = true
  | [] => by simp [okAll]
  | d :: ds => by
    rw [show okAll (d :: ds) = (okD d && okAll ds) from rfl, Bool.and_eq_true, okAll_iff, List.forall_mem_cons]
mutual
theorem ok_show : ∀ d : PyData, okD d = true → d.showable = true ∧ d.hasDict = false ∧ d.canLay0 = true ∧ d.leavesShort 320 = true
  | .none, _ => ⟨rfl, rfl, rfl, rfl⟩
  | .bool _, _ => ⟨rfl, rfl, rfl, rfl⟩
  | .int i, h => by
    have h : i.natAbs < 2 ^ 900 := of_decide_eq_true h
    have l : i.natAbs.log2 < 900 := PySem.Flt.log2_lt_of (by decide) h
    refine ⟨decide_eq_true (by omega), rfl, rfl, ?_⟩
    have t := int_text_length_le10 (a := i) (k := 300) (by decide) (Nat.lt_trans h (by decide))
    show decide ((PyData.shown (.int i)).length ≤ 320) = true
    have e : (PyData.shown (.int i)).length = (toString i).length := by
      show (Str.ofString (toString i)).length = _
      exact PySem.ofString_length _
    rw [e]
    exact decide_eq_true (by omega)
  | .str x, h => by
    refine ⟨rfl, rfl, h, ?_⟩
    show (x.cps.toList.all fun c => decide (c < 16 ^ 8)) = true
    have h2 : x.cps.all (· < 0x110000) = true := h
    rw [List.all_eq_true]
    intro c hc
    have h3 := (Array.all_eq_true_iff_forall_mem.mp h2) c (by simpa using hc)
    have h4 : c < 0x110000 := of_decide_eq_true h3
    exact decide_eq_true (by omega)
  | .list xs, h => ok_showAll xs h
  | .tuple xs, h => ok_showAll xs h
  | .dict _, h => by cases (h : false = true)
theorem ok_showAll : ∀ ds : List PyData, okAll ds = true → PyData.showableAll ds = true ∧ PyData.hasDictAll ds = false ∧ PyData.canLayAll0 ds = true ∧ PyData.leavesShortAll 320 ds = true
  | [], _ => ⟨rfl, rfl, rfl, rfl⟩
  | d :: ds, h => by
    have h : (okD d && okAll ds) = true := h
    rw [Bool.and_eq_true] at h
    obtain ⟨a1, a2, a3, a4⟩ := ok_show d h.1
    obtain ⟨b1, b2, b3, b4⟩ := ok_showAll ds h.2
    refine ⟨?_, ?_, ?_, ?_⟩
    · show (PyData.showable d && PyData.showableAll ds) = true
      rw [a1, b1]; rfl
    · show (PyData.hasDict d || PyData.hasDictAll ds) = false
      rw [a2, b2]; rfl
    · show (PyData.canLay0 d && PyData.canLayAll0 ds) = true
      rw [a3, b3]; rfl
    · show (PyData.leavesShort 320 d && PyData.leavesShortAll 320 ds) = true
      rw [a4, b4]; rfl
end

structure Fine (w n : Nat) (d : PyData) : Prop where
  ok : okD d = true
  wt : d.weight ≤ w
  dp : d.depth ≤ n
theorem Fine.mono {w n w' n' : Nat} {d : PyData} (h : Fine w n d) (h1 : w ≤ w') (h2 : n ≤ n') : Fine w' n' d := ⟨h.ok, Nat.le_trans h.wt h1, Nat.le_trans h.dp h2⟩
theorem Fine.shown {w n : Nat} {d : PyData} (h : Fine w n d) (hw : w ≤ 40000) : d.shown.length ≤ sizeLine := by
  have z := PyData.shown_le 320 (by decide) d (ok_show d h.ok).2.2.2
  have e : sizeLine = 16777216 := rfl
  have := h.wt
  omega
theorem Fine.shaped {w n : Nat} {d : PyData} (h : Fine w n d) (hn : n ≤ 64) : SeqAt.shaped d = true := by
  show (d.canLay0 && decide (d.depth ≤ 64)) = true
  rw [Bool.and_eq_true]
  exact ⟨(ok_show d h.ok).2.2.1, decide_eq_true (Nat.le_trans h.dp hn)⟩
end Th
namespace ET
open PySem PySem.Spec PyProof.Rows L2
abbrev itO (l : Addr) : Obj := { cls := .type "tuple_iterator", data := .fields #[.ref l, .int 0 0] }
abbrev enO (it : Addr) : Obj := { cls := .type "enumerate", data := .fields #[.none, .bool false, .ref it, rawInt 0, .none, .none] }
theorem new_enumT (l : Addr) (items : Array Value) :
    Meets (Builtin.«enumerate.__new__» ⟨[.type "enumerate", .ref l], []⟩) (fun _ R s => s.heap.IsTuple l items ∧
      R (.ok (.ret (.ref (s.heap.push (itO l)).objs.size))) { s with heap := (s.heap.push (itO l)).push (enO s.heap.objs.size) }) :=
  .of_wp fun prog w A R s h => by
    obtain ⟨hp, g, d, tk, os⟩ := s
    obtain ⟨hT, h⟩ := h
    have hsub := sub_enumerate
    obtain ⟨o, hl, hc, n, hd⟩ := id hT
    wp_walk using wpAny_loadPart' hl
    refine wpAny_stack_any fun st => wpAny_pure ?_
    split
    · rename_i c _ _ _ _ _
      cases (c == Value.type "enumerate") <;> (wp_walk using wpAny_loadPart' hl, wpAny_pyIter_tuple hT; exact ⟨_, rfl, h⟩)
    · wp_walk using wpAny_loadPart' hl, wpAny_pyIter_tuple hT
      exact ⟨_, rfl, h⟩
section
variable {prog : Program} {w : World} {A : Around} {E : Value → Shared → Prop} {s : Shared}
theorem call_enumT {l : Addr} {items : Array Value} {Q : Value → Shared → Prop} (hT : s.heap.IsTuple l items)
    (h : ∀ h', IsEnum h' (s.heap.objs.size + 1) s.heap.objs.size 0 .none → h'.IsTupleIter s.heap.objs.size l 0 →
      (∀ b o, s.heap.get? b = some o → h'.get? b = some o) → Q (.ref (s.heap.objs.size + 1)) { s with heap := h' }) :
    wpAny (model prog w) A (call (.type "enumerate") [.ref l]) Q E s := by
  refine callType_new F.called_enumerate (by decide) (F.typeCall_enumerate_1 _) (F.newCall_enumerate_1 _) (fun obj => F.args_object_init_2 obj _) F.entry_enumerate_new (new_enumT l items) ⟨hT, ?_⟩
  have z : (s.heap.push (itO l)).objs.size = s.heap.objs.size + 1 := Heap.size_push ..
  have at1 : ((s.heap.push (itO l)).push (enO s.heap.objs.size)).get? (s.heap.objs.size + 1) = some (enO s.heap.objs.size) := by
    rw [← z]
    exact Heap.get?_push_size _ rfl
  show _ ∧ _
  rw [z]
  exact ⟨⟨_, at1, rfl⟩, h _ at1 ⟨_, Heap.get?_push_of_some _ (Heap.get?_push_size _ rfl), rfl, rfl⟩ fun b o x => Heap.get?_push_of_some _ (Heap.get?_push_of_some _ x)⟩
end

def IteT (K : PySem.W.Frag) (a : Addr) : It where
  go := fun i H => ∃ (xs : List V) (x : V), SqT K H a xs ∧ xs[i]? = some x
  yld := fun i H v H' => ∃ T x, v = .ref T ∧ H T = none ∧ H' = upd H T (.tup [.int (i : Nat), x]) ∧ ∀ xs, SqT K H a xs → xs[i]? = some x
  stop := fun i H => ∃ xs : List V, SqT K H a xs ∧ xs.length = i
theorem turn_enumT {P : Program} {w : World} {K : PySem.W.Frag} {elts : List Expr} {kk : Nat} {tpos : Pos} (a e it : Addr) :
    Turn P w K (.Tuple elts kk tpos) (IteT K a) [e, it] e (fun i h => (∃ old, IsEnum h e it ((i : Nat) : Int) old) ∧ h.IsTupleIter it a i ∧ e ≠ it ∧ a ≠ it ∧ a ≠ e) where
  mem := by simp
  obj := by
    rintro i h ⟨⟨old, he⟩, ⟨o, ho, hc, hd⟩, _⟩ b hb
    simp only [List.mem_cons, List.not_mem_nil, or_false] at hb
    rcases hb with rfl | rfl
    · exact ⟨_, he, fun v q => nomatch q⟩
    · exact ⟨o, ho, fun v q => by rw [hd] at q; cases q⟩
  keep := by
    rintro i h h' ⟨⟨old, he⟩, hi, hne⟩ k
    exact ⟨⟨old, k e (by simp) _ he⟩, hi.at fun o q => k it (by simp) o q, hne⟩
  item := by
    intro X hP hw hK hc i pins s σ H E I hf st hg
    subst hP hw hK
    obtain ⟨⟨old, he⟩, hit, hne, n1, n2⟩ := st
    obtain ⟨xs, x, hq, hx⟩ := hg
    obtain ⟨its, rv, p, hz⟩ := I.tuple hq
    obtain ⟨u, hu, ru⟩ := rv.get hx
    have le : e < s.heap.objs.size := Heap.lt_size he
    have li : it < s.heap.objs.size := by
      obtain ⟨_, q, _⟩ := hit
      exact Heap.lt_size q
    have hlen : i < its.toArray.size := by
      have := (List.getElem?_eq_some_iff.mp hu).1
      simpa using this
    refine wpAny_pyNext_enum_itemD (Draws.tuple (A := X.A.in1) (I.ok.hd hc) it a n1 its.toArray) he ⟨hit, p⟩ hlen hne (by simp; exact ⟨hne, n2.symm⟩) fun y h' tk hy ho hst hT hsz hk => ?_
    have ey : y = u := by
      have hy' : its.toArray[i]? = some y := hy
      have hu' : its.toArray[i]? = some u := by simpa using hu
      rw [hu'] at hy'
      exact (Option.some.inj hy').symm
    subst ey
    refine ⟨_, rfl, wpAny_letOwnedTupleGo_enum (s := { s with heap := h', toks := tk + 1 }) ho fun h'' he' sb => ?_⟩
    have nw : h''.get? s.heap.objs.size = some { cls := .type "tuple", data := .seq #[.int i tk, y] } := (sb.2 _ (Nat.ne_of_gt le)).trans hT
    have I1 : Inv X pins σ (upd H s.heap.objs.size (.tup [.int (i : Nat), x])) { s with heap := h'', toks := tk + 1 } := by
      refine I.turnedNew (ch := [e, it]) (fun b ob hb q => ?_) hf (Nat.le_refl _) ⟨by show 2 ≤ sizeLine; decide, [.int i tk, y], .cons ⟨_, rfl⟩ (.cons ru .nil), ⟨_, nw, rfl, _, rfl⟩⟩
      have b1 : b ≠ e := fun z => hb (by simp [z])
      have b2 : b ≠ it := fun z => hb (by simp [z])
      exact (sb.2 b b1).trans (hk b ob b1 b2 q)
    refine ⟨.ref s.heap.objs.size, _, I1, rfl, ⟨_, x, rfl, I.hok.fresh (Nat.le_refl _), rfl, fun ys hy => by rw [I.tuple_inj hy hq]; exact hx⟩, ⟨⟨y, ?_⟩, hst.1.at fun o q => (sb.2 it hne.symm).trans q, hne, n1, n2⟩, fun b hb => ?_⟩
    · have e1 : ((i + 1 : Nat) : Int) = (i : Int) + 1 := by omega
      rw [e1]
      exact he'
    · have lb : b < s.heap.objs.size := by
        simp only [List.mem_cons, List.not_mem_nil, or_false] at hb
        rcases hb with rfl | rfl
        · exact le
        · exact li
      rw [upd_ne (Nat.ne_of_lt lb)]
      exact (hf b hb).1
  done := by
    intro X hP hw hK hc i pins s σ H E I hf st hg
    subst hP hw hK
    obtain ⟨⟨old, he⟩, hit, hne, n1, n2⟩ := st
    obtain ⟨xs, hq, hx⟩ := hg
    obtain ⟨its, rv, p, hz⟩ := I.tuple hq
    obtain ⟨f0, f1, f2, f3, f4, f5⟩ := hf it (by simp)
    have e : i = its.toArray.size := by
      rw [← hx, rv.length]
      simp
    refine wpAny_pyNext_enum_endD (Draws.tuple (A := X.A.in1) (I.ok.hd hc) it a n1 its.toArray) he ⟨by rw [← e]; exact hit, p⟩ fun h' eb => ⟨rfl, ?_⟩
    exact I.turned (t' := s.toks) (fun b o hb q => eb b o hb q) f0 f1 f3 f4 f5
  self := by
    rintro A i s Q E ⟨⟨_, he⟩, _⟩ h
    exact wpAny_pyIter_enum he h

def iEnumT (K : PySem.W.Frag) (ta : TA) : TI := fun σ H R => ta σ H fun vs H1 => ∃ a xs, vs = [.ref a] ∧ SqT K H1 a xs ∧ R (IteT K a) H1
theorem pi_enumT {X : Cx} {e : Expr} {ta : TA} {p pos tpos : Pos} {elts : List Expr} {kk : Nat} (hg : Gl X "enumerate") (hm : X.mg "enumerate" = none) (ha : PA X [e] ta)
    (hs : starEach [e] X.env = [(false, eval e X.env)] := by rfl) : PI X (.Tuple elts kk tpos) (.Call (.Name "enumerate" p) [e] [] pos) (iEnumT X.K ta) := by
  constructor
  intro pins s σ H R I h
  refine Call_ (ld_blt I hg hm boot_enumerate (PyProof.Rows.callWith_type1 (thn (ha.run pos pins s σ H _ I h) ?_) hs rfl))
  rintro us s1 ⟨vs, H1, I1, r1, a, xs, rfl, hq, q⟩
  obtain ⟨u, rfl, ru⟩ := vals1 r1
  cases ru
  obtain ⟨its, rv, pt, hz⟩ := I1.tuple hq
  have la : a < s1.heap.objs.size := by
    obtain ⟨o, ho, _⟩ := pt
    exact Heap.lt_size ho
  refine call_enumT pt fun h' he hit hk => wpAny_pyIter_enum he ?_
  refine ⟨s1.heap.objs.size + 1, [s1.heap.objs.size + 1, s1.heap.objs.size], _, _, H1, rfl, I1.kept (t' := s1.toks) hk, turn_enumT a (s1.heap.objs.size + 1) s1.heap.objs.size, ⟨⟨.none, he⟩, hit, Nat.succ_ne_self _, Nat.ne_of_lt la, Nat.ne_of_lt (Nat.lt_succ_of_lt la)⟩, fun b hb => ?_, q⟩
  have le : s1.heap.objs.size ≤ b := by
    simp only [List.mem_cons, List.not_mem_nil, or_false] at hb
    rcases hb with rfl | rfl
    · exact Nat.le_succ _
    · exact Nat.le_refl _
  exact I1.fpOk le (I1.hok.fresh le)
end ET
namespace AL
open PySem PySem.Spec PyProof.Rows L2 G Th
variable [TT]
def mapO {α β : Type} (f : α → Option β) : List α → Option (List β)
  | [] => some []
  | a :: as => (f a).bind fun b => (mapO f as).bind fun bs => some (b :: bs)
def toD (S : Sto) : Nat → Val → Option PyData
  | 0, _ => none
  | n + 1, v => match v with
    | .non => some .none
    | .bl b => some (.bool b)
    | .int i => some (.int i)
    | .str x => some (.str x)
    | .tup vs => (mapO (toD S n) vs).map .tuple
    | .ref k => match S[k]? with
      | some (.lst vs) => (mapO (toD S n) vs).map .list
      | _ => none
    | .scr _ => none
    | .lam _ _ _ _ _ => none
    | .exc _ _ _ _ => none
    | .ptu _ => none
section
variable {X : Cx} {K : PySem.W.Frag}
theorem toD_dp {m : List Addr} {S : Sto} {H : Hp} (R : Rel K m S H) : ∀ (n : Nat) (v : Val) (u : V) (d : PyData), VR K H m u v → toD S n v = some d → Dp K H u d
  | 0, _, _, _, _, h => by cases h
  | n + 1, v, u, d, r, h => by
    have go : ∀ (vs : List Val) (us : List V) (ds : List PyData), VRs K H m us vs → mapO (toD S n) vs = some ds → DpAll K H us ds := by
      intro vs
      induction vs with
      | nil =>
        intro us ds r h
        cases r
        cases h
        exact .nil
      | cons v vs ih =>
        intro us ds r h
        cases r with
        | cons a b =>
          obtain ⟨d1, h1, h⟩ := Option.bind_eq_some_iff.mp h
          obtain ⟨ds1, h2, h⟩ := Option.bind_eq_some_iff.mp h
          cases h
          exact .cons (toD_dp R n v _ d1 a h1) (ih _ _ b h2)
    unfold toD at h
    split at h
    · cases h; cases r; exact .non
    · cases h; cases r; exact .bl _
    · cases h; cases r; exact .int _
    · cases h; cases r; exact .str _
    · obtain ⟨ds, h1, h2⟩ := Option.map_eq_some_iff.mp h
      cases h2
      cases r with
      | tup ha ra => exact .tup ha.sq (go _ _ _ ra h1)
    · split at h
      · next k _ vs en =>
        obtain ⟨ds, h1, h2⟩ := Option.map_eq_some_iff.mp h
        cases h2
        cases r with
        | ref ha =>
          obtain ⟨xs, hx, rx⟩ := R.ob _ _ _ en ha
          exact .lst (SqL.of hx) (go _ _ _ rx h1)
      · cases h
    · cases h
    · cases h
    · cases h
    · cases h
open Classical in
noncomputable def gRepr : List Val → Sto → Option (Val × Sto) := fun xs S => match xs with
  | [v] => match toD S 40 v with
    | some d => if okD d = true ∧ d.weight ≤ 40000 ∧ d.depth ≤ 40 then some (.str d.shown, S) else none
    | none => none
  | _ => none
def rReprA (K : PySem.W.Frag) : List V → Hp → VK → Prop := fun xs H Q => ∃ (v : V) (d : PyData) (w n : Nat), xs = [v] ∧ Dp K H v d ∧ Fine w n d ∧ w ≤ 40000 ∧ n ≤ 40 ∧ Q (.str d.shown) H
theorem call_reprA (hg : X.A.guards = some []) (hu : X.A.units + 64 < cLine) : CallR X (.builtin "repr") (rReprA X.K) := by
  intro pins s σ H xs us Q I r h
  obtain ⟨v, d, w, n, rfl, hT, hF, hw, hn, q⟩ := h
  obtain ⟨u, rfl, ru⟩ := r.one
  obtain ⟨o1, o2, o3, o4⟩ := ok_show d hF.ok
  have sz := hF.shown hw
  obtain ⟨as, rd⟩ := Dp.reads I d _ _ hT ru
  have e1 : ∀ a, u = .ref a → wpAny (model X.prog X.w) X.A (call (.builtin "repr") [u]) (EP X pins σ Q) X.xe s := by
    rintro a rfl
    refine repr_of_reads' rd o1 (fun z => ?_) hg (by have := hF.dp; omega) (fun b o e => e) (fun h' t tk hk => ?_) sz
    · rw [o2] at z
      cases z
    · exact ⟨.str d.shown, H, I.kept hk, ⟨t, rfl⟩, q⟩
  cases hT with
  | non => cases ru; exact PySem.P.repr_of_none ⟨.str _, H, I.tok _, ⟨_, rfl⟩, q⟩
  | bl b => cases ru; exact PySem.P.repr_of_bool ⟨.str _, H, I.tok _, ⟨_, rfl⟩, q⟩
  | int i =>
    obtain ⟨t, rfl⟩ := ru
    exact PySem.P.repr_of_int (of_decide_eq_true o1) ⟨.str _, H, I.tok _, ⟨_, rfl⟩, q⟩
  | str x =>
    obtain ⟨t, rfl⟩ := ru
    exact PySem.P.repr_of_str ⟨.str _, H, I.tok _, ⟨_, rfl⟩, q⟩ sz
  | lst _ _ => cases ru; exact e1 _ rfl
  | tup _ _ => cases ru; exact e1 _ rfl
theorem cRepr : CaA K (rReprA K) gRepr := by
  intro m S H xs v S' us Q R ru e q
  unfold gRepr at e
  split at e
  · split at e
    · next v0 d ed =>
      split at e
      · next hok =>
        cases e
        obtain ⟨u, rfl, r1⟩ := ru.one_of
        exact ⟨u, d, d.weight, d.depth, rfl, toD_dp R 40 _ u d r1 ed, ⟨hok.1, Nat.le_refl _, Nat.le_refl _⟩, hok.2.1, hok.2.2, q m _ H (.refl _ _) R (.str _)⟩
      · cases e
    · cases e
  · cases e
def eqS : Val → Val → Option Bool
  | .int a, .int b => some (decide (a = b))
  | .str a, .str b => some (decide (a = b))
  | .bl a, .bl b => some (decide (a = b))
  | .non, .non => some true
  | .non, .int _ => some false
  | .int _, .non => some false
  | .non, .str _ => some false
  | .str _, .non => some false
  | .non, .bl _ => some false
  | .bl _, .non => some false
  | .int _, .str _ => some false
  | .str _, .int _ => some false
  | .str _, .bl _ => some false
  | .bl _, .str _ => some false
  | _, _ => none
def eqA (S : Sto) (x y : Val) : Option Bool := match eqS x y with
  | some b => some b
  | none => match toD S 40 x, toD S 40 y with
    | some d, some e => if SeqAt.shaped d = true ∧ SeqAt.shaped e = true then some (PyData.eqv d e) else none
    | _, _ => none
def gEq : Val → Val → Sto → Option (Val × Sto) := fun x y S => (eqA S x y).map fun b => (.bl b, S)
def gNe : Val → Val → Sto → Option (Val × Sto) := fun x y S => (eqA S x y).map fun b => (.bl (!b), S)
theorem eqS_ok {H : Hp} {m : List Addr} {x y : Val} {u w : V} {b : Bool} (ru : VR K H m u x) (rw_ : VR K H m w y) (h : eqS x y = some b) : scal u w = true ∧ decide (u = w) = b := by
  unfold eqS at h
  split at h <;> first | cases h | skip
  all_goals first
    | (cases ru; cases rw_; refine ⟨rfl, ?_⟩; simp)
    | skip
def rEqA (K : PySem.W.Frag) : R2 := fun x y H Q => rEq x y H Q ∨ rEqD K x y H Q
def rNeA (K : PySem.W.Frag) : R2 := fun x y H Q => rNe x y H Q ∨ rNeD K x y H Q
theorem op_eqA (hu : X.A.units + 64 < cLine) : OpR X (compareOp .Eq) (rEqA X.K) := op_eq.or (op_eqD hu)
theorem op_neA (hu : X.A.units + 64 < cLine) : OpR X (compareOp .NotEq) (rNeA X.K) := op_ne.or (op_neD hu)
theorem oEq : OpA K (rEqA K) gEq := by
  intro m S H x y v S' u w Q R ru rw_ e q
  obtain ⟨b, e1, e2⟩ := Option.map_eq_some_iff.mp e
  cases e2
  unfold eqA at e1
  split at e1
  · next b' es =>
    cases e1
    obtain ⟨h1, h2⟩ := eqS_ok ru rw_ es
    exact .inl ⟨h1, by rw [h2]; exact q m _ H (.refl _ _) R (.bl _)⟩
  · split at e1
    · next d1 d2 g1 g2 =>
      split at e1
      · next hs =>
        cases e1
        exact .inr ⟨d1, d2, toD_dp R 40 _ _ _ ru g1, toD_dp R 40 _ _ _ rw_ g2, hs.1, hs.2, q m _ H (.refl _ _) R (.bl _)⟩
      · cases e1
    · cases e1
theorem oNe : OpA K (rNeA K) gNe := by
  intro m S H x y v S' u w Q R ru rw_ e q
  obtain ⟨b, e1, e2⟩ := Option.map_eq_some_iff.mp e
  cases e2
  unfold eqA at e1
  split at e1
  · next b' es =>
    cases e1
    obtain ⟨h1, h2⟩ := eqS_ok ru rw_ es
    exact .inl ⟨h1, by rw [h2]; exact q m _ H (.refl _ _) R (.bl _)⟩
  · split at e1
    · next d1 d2 g1 g2 =>
      split at e1
      · next hs =>
        cases e1
        exact .inr ⟨d1, d2, toD_dp R 40 _ _ _ ru g1, toD_dp R 40 _ _ _ rw_ g2, hs.1, hs.2, q m _ H (.refl _ _) R (.bl _)⟩
      · cases e1
    · cases e1
def iSeq (f : EF) : IF := fun ρ S => (f ρ S).bind fun p => match p.1 with
  | .tup vs => some (vs, fun _ => True, p.2)
  | .ref n => match p.2[n]? with
    | some (.lst vs) => some (vs, fun S => S[n]? = some (.lst vs), p.2)
    | _ => none
  | _ => none
theorem it_tup {a : Addr} {m0 : List Addr} {H0 : Hp} {xs : List V} {vs : List Val} {S0 : Sto} (R0 : Rel K m0 S0 H0) (ha : TupAt K H0 a xs) (r : VRs K H0 m0 xs vs) : ItA K (Itt K a) m0 H0 vs (fun _ => True) := by
  refine ⟨fun i m S H E R _ v hv => ?_, fun m S H E R _ => ?_⟩
  · have k := E.kp R0
    obtain ⟨u, hu, ru⟩ := (r.kp k).get hv
    refine ⟨⟨xs, u, (ha.kp k).sq, hu⟩, fun x H' hy => ?_⟩
    obtain ⟨rfl, hx⟩ := hy
    have e := hx xs (ha.kp k).sq
    rw [hu] at e
    cases e
    exact ⟨R, .refl _ _, ru⟩
  · exact ⟨xs, (ha.kp (E.kp R0)).sq, by rw [r.len]; exact Nat.le_refl _⟩
theorem it_lst {n : Nat} {a : Addr} {m0 : List Addr} {H0 : Hp} {vs : List Val} (hn : m0[n]? = some a) : ItA K (Itl K a) m0 H0 vs (fun S => S[n]? = some (.lst vs)) := by
  have get : ∀ {m : List Addr} {S : Sto} {H : Hp}, Ext m0 H0 m H → Rel K m S H → S[n]? = some (.lst vs) → ∃ xs, H a = some (.lst xs) ∧ VRs K H m xs vs := fun {m S H} E R h => by
    have hm : m[n]? = some a := by
      obtain ⟨r, rfl⟩ := E.pre
      rw [List.getElem?_append_left (List.getElem?_eq_some_iff.mp hn).1]
      exact hn
    exact R.ob _ _ _ h hm
  refine ⟨fun i m S H E R ok v hv => ?_, fun m S H E R ok => ?_⟩
  · obtain ⟨xs, hx, rx⟩ := get E R ok
    obtain ⟨u, hu, ru⟩ := rx.get hv
    refine ⟨⟨xs, u, SqL.of hx, hu⟩, fun x H' hy => ?_⟩
    obtain ⟨rfl, hq⟩ := hy
    have e := hq xs (SqL.of hx)
    rw [hu] at e
    cases e
    exact ⟨R, .refl _ _, ru⟩
  · obtain ⟨xs, hx, rx⟩ := get E R ok
    exact ⟨xs, SqL.of hx, by rw [rx.len]; exact Nat.le_refl _⟩
theorem ais {tg e : Expr} {f : EF} (he : AE X e f) : AI X tg e (iSeq f) := pi_w (PI.or (pi_tup he) (pi_list he)) fun σ H W h => by
  obtain ⟨m, ρ, S, vs, ok, S', R, r, e, q⟩ := h
  obtain ⟨⟨x, S1⟩, e1, e⟩ := Option.bind_eq_some_iff.mp e
  dsimp only at e
  split at e
  · cases e
    refine .inl ⟨m, ρ, S, _, _, R, r, e1, fun m1 u H1 E1 R1 r1 => ?_⟩
    cases r1 with
    | tup ha ra => exact ⟨_, rfl, ⟨_, ha.sq⟩, q m1 H1 _ E1 R1 (it_tup R1 ha ra)⟩
  · split at e
    · next n _ vs' en =>
      cases e
      refine .inr ⟨m, ρ, S, _, _, R, r, e1, fun m1 u H1 E1 R1 r1 => ?_⟩
      cases r1 with
      | ref ha =>
        obtain ⟨xs, hx, rx⟩ := R1.ob _ _ _ en ha
        exact ⟨_, rfl, ⟨_, SqL.of hx⟩, q m1 H1 _ E1 R1 (it_lst ha)⟩
    · cases e
  · cases e

def rangeV (lo : Int) (n : Nat) : List Val := (List.range n).map fun (k : Nat) => .int (lo + (k : Int))
def iRg1 (ga : AF) : IF := fun ρ S => (ga ρ S).bind fun p => match p.1 with
  | [.int j] => if -(2 ^ 62) ≤ j ∧ j < 2 ^ 62 then some (rangeV 0 j.toNat, fun _ => True, p.2) else none
  | _ => none
def iRg2 (ga : AF) : IF := fun ρ S => (ga ρ S).bind fun p => match p.1 with
  | [.int i, .int j] => if -(2 ^ 62) ≤ i ∧ i < 2 ^ 62 ∧ -(2 ^ 62) ≤ j ∧ j < 2 ^ 62 then some (rangeV i (j - i).toNat, fun _ => True, p.2) else none
  | _ => none
theorem it_rg {lo : Int} {n : Nat} {m0 : List Addr} {H0 : Hp} : ItA K (Itr lo n) m0 H0 (rangeV lo n) (fun _ => True) := by
  refine ⟨fun i m S H E R _ v hv => ?_, fun m S H E R _ => ?_⟩
  · unfold rangeV at hv
    rw [List.getElem?_map] at hv
    obtain ⟨k, hk, rfl⟩ := Option.map_eq_some_iff.mp hv
    obtain ⟨l, rfl⟩ := List.getElem?_eq_some_iff.mp hk
    rw [List.length_range] at l
    refine ⟨l, fun x H' hy => ?_⟩
    obtain ⟨rfl, rfl⟩ := hy
    rw [List.getElem_range]
    exact ⟨R, .refl _ _, .int _⟩
  · show n ≤ (rangeV lo n).length
    simp [rangeV]
theorem air1 {tg a : Expr} {ga : AF} {p pos : Pos} (hg : Gl X "range") (hm : X.mg "range" = none) (ha : AA X [a] ga) (hs : starEach [a] X.env = [(false, eval a X.env)] := by rfl) : AI X tg (.Call (.Name "range" p) [a] [] pos) (iRg1 ga) := pi_w (pi_range1 hg hm ha hs) fun σ H W h => by
  obtain ⟨m, ρ, S, vs, ok, S', R, r, e, q⟩ := h
  obtain ⟨⟨x, S1⟩, e1, e⟩ := Option.bind_eq_some_iff.mp e
  dsimp only at e
  split at e
  · split at e
    · next hb =>
      cases e
      refine ⟨m, ρ, S, _, _, R, r, e1, fun m1 us H1 E1 R1 r1 => ?_⟩
      obtain ⟨u, rfl, r2⟩ := r1.one_of
      cases r2
      exact ⟨_, rfl, hb.1, hb.2, q m1 H1 _ E1 R1 it_rg⟩
    · cases e
  · cases e

def enumV (vs : List Val) : List Val := vs.zipIdx.map fun p => .tup [.int (p.2 : Nat), p.1]
def iEn (ga : AF) : IF := fun ρ S => (ga ρ S).bind fun p => match p.1 with
  | [.tup vs] => some (enumV vs, fun _ => True, p.2)
  | [.ref n] => match p.2[n]? with
    | some (.lst vs) => some (enumV vs, fun S => S[n]? = some (.lst vs), p.2)
    | _ => none
  | _ => none
theorem enumV_get {vs : List Val} {i : Nat} {v : Val} (h : (enumV vs)[i]? = some v) : ∃ x, vs[i]? = some x ∧ v = .tup [.int (i : Nat), x] := by
  unfold enumV at h
  rw [List.getElem?_map] at h
  obtain ⟨p, hp, rfl⟩ := Option.map_eq_some_iff.mp h
  rw [List.getElem?_zipIdx] at hp
  obtain ⟨x, hx, rfl⟩ := Option.map_eq_some_iff.mp hp
  exact ⟨x, hx, by simp⟩
theorem yl_new {m : List Addr} {S : Sto} {H : Hp} (R : Rel K m S H) {T : Addr} {xs : List V} {vs : List Val} (h : H T = none) (r : VRs K H m xs vs) : Rel K m S (upd H T (.tup xs)) ∧ Ext m H m (upd H T (.tup xs)) ∧ VR K (upd H T (.tup xs)) m (.ref T) (.tup vs) := by
  obtain ⟨R2, E2⟩ := R.tmp (o := .tup xs) h
  exact ⟨R2, E2, .tup (.inl upd_same) (r.kp (E2.kp R))⟩
theorem aie {e : Expr} {ga : AF} {p pos tpos : Pos} {elts : List Expr} {kk : Nat} (hg : Gl X "enumerate") (hm : X.mg "enumerate" = none) (ha : AA X [e] ga) (hs : starEach [e] X.env = [(false, eval e X.env)] := by rfl) : AI X (.Tuple elts kk tpos) (.Call (.Name "enumerate" p) [e] [] pos) (iEn ga) := pi_w (PI.or (ET.pi_enumT hg hm ha hs) (pi_enum hg hm ha hs)) fun σ H W h => by
  obtain ⟨m, ρ, S, vs, ok, S', R, r, e, q⟩ := h
  obtain ⟨⟨x, S1⟩, e1, e⟩ := Option.bind_eq_some_iff.mp e
  dsimp only at e
  split at e
  · next vs0 =>
    cases e
    refine .inl ⟨m, ρ, S, _, _, R, r, e1, fun m1 us H1 E1 R1 r1 => ?_⟩
    obtain ⟨u, rfl, r2⟩ := r1.one_of
    cases r2 with
    | tup ha ra =>
      rename_i ad xs
      refine ⟨_, _, rfl, ha.sq, q m1 H1 _ E1 R1 ⟨fun i m S H E R _ v hv => ?_, fun m S H E R _ => ?_⟩⟩
      · obtain ⟨y, hy, rfl⟩ := enumV_get hv
        have k := E.kp R1
        obtain ⟨u, hu, ru⟩ := (ra.kp k).get hy
        refine ⟨⟨xs, u, (ha.kp k).sq, hu⟩, fun x H' hyl => ?_⟩
        obtain ⟨T, z, rfl, hT, rfl, hz⟩ := hyl
        have e := hz xs (ha.kp k).sq
        rw [hu] at e
        cases e
        exact yl_new R hT (.cons (.int _) (.cons ru .nil))
      · refine ⟨xs, (ha.kp (E.kp R1)).sq, ?_⟩
        simp [enumV, ra.len]
  · split at e
    · next n _ vs0 en =>
      cases e
      refine .inr ⟨m, ρ, S, _, _, R, r, e1, fun m1 us H1 E1 R1 r1 => ?_⟩
      obtain ⟨u, rfl, r2⟩ := r1.one_of
      cases r2 with
      | ref ha =>
        rename_i ad
        obtain ⟨xs, hx, rx⟩ := R1.ob _ _ _ en ha
        have get : ∀ {m : List Addr} {S : Sto} {H : Hp}, Ext m1 H1 m H → Rel X.K m S H → S[n]? = some (.lst vs0) → ∃ xs, H ad = some (.lst xs) ∧ VRs X.K H m xs vs0 := fun {m S H} E R h => by
          have hm : m[n]? = some ad := by
            obtain ⟨r, rfl⟩ := E.pre
            rw [List.getElem?_append_left (List.getElem?_eq_some_iff.mp ha).1]
            exact ha
          exact R.ob _ _ _ h hm
        refine ⟨_, _, rfl, SqL.of hx, q m1 H1 _ E1 R1 ⟨fun i m S H E R ok v hv => ?_, fun m S H E R ok => ?_⟩⟩
        · obtain ⟨y, hy, rfl⟩ := enumV_get hv
          obtain ⟨xs, hx, rx⟩ := get E R ok
          obtain ⟨u, hu, ru⟩ := rx.get hy
          refine ⟨⟨xs, u, SqL.of hx, hu⟩, fun x H' hyl => ?_⟩
          obtain ⟨T, z, rfl, hT, rfl, hz⟩ := hyl
          have e := hz xs (SqL.of hx)
          rw [hu] at e
          cases e
          exact yl_new R hT (.cons (.int _) (.cons ru .nil))
        · obtain ⟨xs, hx, rx⟩ := get E R ok
          refine ⟨xs, SqL.of hx, ?_⟩
          simp [enumV, rx.len]
    · cases e
  · cases e

def zipV (vs ws : List Val) : List Val := (vs.zip ws).map fun p => .tup [p.1, p.2]
def iZp (ga : AF) : IF := fun ρ S => (ga ρ S).bind fun p => match p.1 with
  | [.tup vs, .tup ws] => some (zipV vs ws, fun _ => True, p.2)
  | [.tup vs, .ref n] => match p.2[n]? with
    | some (.lst ws) => if vs.length = ws.length then some (zipV vs ws, fun S => S[n]? = some (.lst ws), p.2) else none
    | _ => none
  | [.ref k, .ref n] => match p.2[k]?, p.2[n]? with
    | some (.lst vs), some (.lst ws) => some (zipV vs ws, fun S => S[k]? = some (.lst vs) ∧ S[n]? = some (.lst ws), p.2)
    | _, _ => none
  | _ => none
end
end AL
namespace AL
open PySem PySem.Spec PyProof.Rows L2 G Th
variable [TT]
def keyOf : Val → Option Key
  | .int i => some (.inl i)
  | .str x => some (.inr x)
  | _ => none
def valA (kvs : List (Key × Val)) (k : Key) : Option Val := (kvs.find? fun kv => decide (kv.1 = k)).map (·.2)
def putA (kvs : List (Key × Val)) (k : Key) (v : Val) : List (Key × Val) := if (kvs.any fun kv => decide (kv.1 = k)) = true then kvs.map (fun kv => if kv.1 = k then (kv.1, v) else kv) else kvs ++ [(k, v)]
section
variable {X : Cx} {K : PySem.W.Frag} {e a b o i : Expr} {pos : Pos} {fa fb fo fi f : EF}
theorem pe_or2 {t t' : TE} (h : PE X e t) (h' : PE X e t') : PE X e (fun σ H Q => t σ H Q ∨ t' σ H Q) := ⟨fun pins s σ H Q I hq => hq.elim (h.run pins s σ H Q I) (h'.run pins s σ H Q I)⟩
theorem pt_or2 {t t' : L2.TT} (h : PT X e t) (h' : PT X e t') : PT X e (fun σ H Q => t σ H Q ∨ t' σ H Q) := ⟨fun pins s σ H Q I hq => hq.elim (h.run pins s σ H Q I) (h'.run pins s σ H Q I)⟩
theorem ps_or2 {st : Stmt} {t t' : TS} (h : PS X st t) (h' : PS X st t') : PS X st (fun D σ H => t D σ H ∨ t' D σ H) := ⟨fun pins s σ H D I hq => hq.elim (h.run pins s σ H D I) (h'.run pins s σ H D I)⟩
theorem VR.key {H : Hp} {m : List Addr} {u : V} {v : Val} {k : Key} (r : VR K H m u v) (h : AL.keyOf v = some k) : u = kV k := by
  cases r <;> cases h <;> rfl

def KR (K : PySem.W.Frag) (H : Hp) (m : List Addr) (xs : List (Key × V)) (kvs : List (Key × Val)) : Prop := xs.map (·.1) = kvs.map (·.1) ∧ VRs K H m (xs.map (·.2)) (kvs.map (·.2))
theorem KR.nil {H : Hp} {m : List Addr} : KR K H m [] [] := ⟨rfl, .nil⟩
theorem KR.cons {H : Hp} {m : List Addr} {x : Key × V} {y : Key × Val} {xs : List (Key × V)} {kvs : List (Key × Val)} (h1 : x.1 = y.1) (h2 : VR K H m x.2 y.2) (r : KR K H m xs kvs) : KR K H m (x :: xs) (y :: kvs) := ⟨by simp [h1, r.1], .cons h2 r.2⟩
theorem KR.uncons {H : Hp} {m : List Addr} {y : Key × Val} {xs : List (Key × V)} {kvs : List (Key × Val)} (r : KR K H m xs (y :: kvs)) : ∃ x xs', xs = x :: xs' ∧ x.1 = y.1 ∧ VR K H m x.2 y.2 ∧ KR K H m xs' kvs := by
  obtain ⟨h1, h2⟩ := r
  cases xs with
  | nil => simp at h1
  | cons x xs =>
    simp only [List.map_cons, List.cons.injEq] at h1
    cases h2 with
    | cons a b => exact ⟨x, xs, rfl, h1.1, a, h1.2, b⟩
theorem KR.nil_of {H : Hp} {m : List Addr} {xs : List (Key × V)} (r : KR K H m xs []) : xs = [] := by
  have := r.1
  simpa using this
theorem KR.len {H : Hp} {m : List Addr} {xs : List (Key × V)} {kvs : List (Key × Val)} (r : KR K H m xs kvs) : xs.length = kvs.length := by simpa using congrArg List.length r.1
theorem KR.any {H : Hp} {m : List Addr} {xs : List (Key × V)} {kvs : List (Key × Val)} (r : KR K H m xs kvs) (k : Key) : (xs.any fun kv => decide (kv.1 = k)) = (kvs.any fun kv => decide (kv.1 = k)) := by
  induction kvs generalizing xs with
  | nil => rw [r.nil_of]; rfl
  | cons y kvs ih =>
    obtain ⟨x, xs', rfl, e, _, r'⟩ := r.uncons
    rw [List.any_cons, List.any_cons, ih r', e]
theorem KR.val {H : Hp} {m : List Addr} {xs : List (Key × V)} {kvs : List (Key × Val)} (r : KR K H m xs kvs) (k : Key) : (valV xs k = none ∧ valA kvs k = none) ∨ ∃ u v, valV xs k = some u ∧ valA kvs k = some v ∧ VR K H m u v := by
  induction kvs generalizing xs with
  | nil => rw [r.nil_of]; exact .inl ⟨rfl, rfl⟩
  | cons y kvs ih =>
    obtain ⟨x, xs', rfl, e, rv, r'⟩ := r.uncons
    by_cases h : y.1 = k
    · refine .inr ⟨x.2, y.2, ?_, ?_, rv⟩
      · simp [valV, List.find?_cons, e, h]
      · simp [valA, List.find?_cons, h]
    · have := ih r'
      simp only [valV, valA, List.find?_cons, e, h, decide_false] at this ⊢
      exact this
theorem KR.put {H : Hp} {m : List Addr} {xs : List (Key × V)} {kvs : List (Key × Val)} (r : KR K H m xs kvs) (k : Key) {u : V} {v : Val} (rv : VR K H m u v) : KR K H m (putK xs k u) (putA kvs k v) := by
  unfold putK putA
  rw [r.any k]
  split
  · rename_i hany
    clear hany
    induction kvs generalizing xs with
    | nil => rw [r.nil_of]; exact .nil
    | cons y kvs ih =>
      obtain ⟨x, xs', rfl, e, rv', r'⟩ := r.uncons
      rw [List.map_cons, List.map_cons]
      refine .cons ?_ ?_ (ih r')
      · rw [e]
        split <;> simp [e]
      · rw [e]
        split
        · exact rv
        · exact rv'
  · refine ⟨by simp [r.1], ?_⟩
    simp only [List.map_append, List.map_cons, List.map_nil]
    exact r.2.app rv.one
theorem KR.kp {H H' : Hp} {m m' : List Addr} {xs : List (Key × V)} {kvs : List (Key × Val)} (r : KR K H m xs kvs) (k : Kp m H m' H') : KR K H' m' xs kvs := ⟨r.1, r.2.kp k⟩
def gIxA : Val → Val → Sto → Option (Val × Sto) := fun x y S => match x with
  | .ref n => match S[n]? with
    | some (.dic kvs) => match AL.keyOf y with
      | some k => (valA kvs k).map fun v => (v, S)
      | none => none
    | _ => gIx x y S
  | _ => gIx x y S
theorem aixA (hu : X.A.units + 1 < cLine) (ha : AE X a fa) (hb : AE X b fb) (hs : PlainIx b) (hn : NoSl b) : AE X (.Subscript a b pos) (eB gIxA fa fb) := by
  refine pe_w (pe_or2 (pe_ix ix_seq ha hb hs) (pe_dget hu ha hb hn)) fun σ H Q h => ?_
  obtain ⟨m, ρ, S, v, S', R, r, e, q⟩ := h
  obtain ⟨⟨x, S1⟩, e1, e⟩ := Option.bind_eq_some_iff.mp e
  obtain ⟨⟨y, S2⟩, e2, e⟩ := Option.bind_eq_some_iff.mp e
  dsimp only at e e2
  have plain : gIx x y S2 = some (v, S') → tOp (rIx X.K) (tF X.K fa) (tF X.K fb) σ H Q := fun e => eB_ok oIx ⟨m, ρ, S, v, S', R, r, by simp only [eB, e1, e2, Option.bind_some, e], q⟩
  cases x with
  | ref n =>
    simp only [gIxA] at e
    split at e
    · next kvs en =>
      split at e
      · next k ek =>
        obtain ⟨v', ev, e3⟩ := Option.map_eq_some_iff.mp e
        cases e3
        refine .inr ⟨m, ρ, S, .ref n, S1, R, r, e1, fun m1 u H1 E1 R1 r1 => ⟨m1, ρ, S1, y, _, R1, r.kp (E1.kp R), e2, fun m2 w H2 E2 R2 r2 => ?_⟩⟩
        cases r1.kp (E2.kp R1) with
        | ref hm =>
          obtain ⟨xs, hx, hk⟩ := R2.ob _ _ _ en hm
          rcases KR.val hk k with ⟨_, z⟩ | ⟨u', v2, h1, h2, h3⟩
          · rw [ev] at z; cases z
          · rw [ev] at h2
            cases h2
            refine ⟨_, u', rfl, ?_, q m2 u' H2 (E1.trans E2) R2 h3⟩
            rw [r2.key ek, ← h1]
            exact DGet.k hx
      · cases e
    · exact .inl (plain e)
  | _ => exact .inl (plain e)

def eDic : EF := fun _ S => some (.ref S.length, S ++ [.dic []])
theorem newDic {m : List Addr} {S : Sto} {H : Hp} {xs : List (Key × V)} {kvs : List (Key × Val)} (R : Rel K m S H) (r : KR K H m xs kvs) {Q : VK} (q : ∀ m' z H', Ext m H m' H' → Rel K m' (S ++ [.dic kvs]) H' → VR K H' m' z (.ref S.length) → Q z H') : ∀ p, H p = none → Q (.ref p) (upd H p (.dK xs)) := fun p hp => by
  have k1 : Kp m H (m ++ [p]) (upd H p (.dK xs)) := .grow [p] (.new hp)
  obtain ⟨R2, E2⟩ := R.alloc (o := .dK xs) (b := .dic kvs) hp ⟨_, upd_same, r.kp k1⟩
  refine q _ _ _ E2 R2 (.ref ?_)
  rw [← R.len, List.getElem?_concat_length]
theorem adic : AE X (.Dict [] [] pos) eDic := pe_w pe_dnewK fun σ H Q h => by
  obtain ⟨m, ρ, S, v, S', R, r, e, q⟩ := h
  cases e
  exact newDic R .nil q

def gSetA : Val → Val → Val → Sto → Option Sto := fun o i v S => match o with
  | .ref n => match S[n]? with
    | some (.dic kvs) => match AL.keyOf i with
      | some k => if kvs.length < sizeLine then some (S.set n (.dic (putA kvs k v))) else none
      | none => none
    | _ => gSet o i v S
  | _ => none
theorem asuA {p2 : Pos} (hu : X.A.units + 1 < cLine) (he : AE X e f) (ho : AE X o fo) (hi : AE X i fi)
    (ha : ∀ v, assign (.Subscript o i pos) X.env v = (do
      let ov ← holding [v] (eval o X.env)
      let iv ← holding [v, ov] (eval i X.env)
      standAt pos
      holding [v, ov, iv] (setItem ov iv v)
      release [v, ov, iv] []) := by intro _; rfl)
    (hsw : swapsWithSole [.Subscript o i pos] e p2.line X.env = pure false := by rfl) (hw : swappedStores [.Subscript o i pos] e X.env = pure none := by rfl)
    (h1 : (assignEach [.Subscript o i pos] X.env).map (·.2) = [assign (.Subscript o i pos) X.env] := by rfl) (hs : swapsWith e (some (.Subscript o i pos)) p2.line X.env = pure false := by rfl) : AS X (.Assign [.Subscript o i pos] e p2) (sSub gSetA fo fi f) := by
  refine ps_w (ps_or2 (ps_asg he (pg_sub ho hi set_list ha) hsw hw h1) (ps_dput hu ho hi he hs)) fun D σ H h => ?_
  obtain ⟨m, ρ, S, R, r, q⟩ := h
  unfold sSub at q
  split at q
  · next v S1 e1 =>
    split at q
    · next ov S2 e2 =>
      split at q
      · next iv S3 e3 =>
        split at q
        · next S4 e4 =>
          unfold gSetA at e4
          split at e4
          · next n =>
            split at e4
            · next kvs en =>
              split at e4
              · next k ek =>
                split at e4
                · next hl =>
                  cases e4
                  refine .inr ⟨m, ρ, S, v, S1, R, r, e1, fun m1 u H1 E1 R1 r1 => ⟨m1, ρ, S1, _, S2, R1, r.kp (E1.kp R), e2, fun m2 uo H2 E2 R2 r2 => ⟨m2, ρ, S2, iv, S3, R2, r.kp ((E1.trans E2).kp R), e3, fun m3 ui H3 E3 R3 r3 => ?_⟩⟩⟩
                  have rv := r1.kp ((E2.trans E3).kp R1)
                  cases r2.kp (E3.kp R2) with
                  | ref hm =>
                    rename_i ad
                    obtain ⟨xs, hx, hk⟩ := R3.ob _ _ _ en hm
                    have hk : KR X.K H3 m3 xs kvs := hk
                    have hmm := List.mem_of_getElem? hm
                    have kk : Kp m3 H3 m3 (upd H3 ad (.dK (putK xs k u))) := R3.kput hmm
                    obtain ⟨R4, E4⟩ := R3.put (o := .dK (putK xs k u)) (b := .dic (putA kvs k v)) hm ⟨_, upd_same, (hk.put k rv).kp kk⟩
                    refine ⟨_, _, rfl, ?_, q m3 σ _ (((E1.trans E2).trans E3).trans E4) R4 (r.kp ((((E1.trans E2).trans E3).trans E4).kp R))⟩
                    rw [r3.key ek]
                    exact DPut.k hx (by rw [hk.len]; exact hl)
                · cases e4
              · cases e4
            · refine .inl ⟨m, ρ, S, v, S1, R, r, e1, fun m1 u H1 E1 R1 r1 => ⟨m1, ρ, S1, _, S2, R1, r.kp (E1.kp R), e2, fun m2 uo H2 E2 R2 r2 => ⟨m2, ρ, S2, iv, S3, R2, r.kp ((E1.trans E2).kp R), e3, fun m3 ui H3 E3 R3 r3 => ?_⟩⟩⟩
              refine stL m3 S3 H3 _ iv v S4 uo ui u _ R3 (r2.kp (E3.kp R2)) r3 (r1.kp ((E2.trans E3).kp R1)) e4 fun H4 E4 R4 => ?_
              exact q m3 σ H4 (((E1.trans E2).trans E3).trans E4) R4 (r.kp ((((E1.trans E2).trans E3).trans E4).kp R))
          · cases e4
        · exact q.elim
      · exact q.elim
    · exact q.elim
  · exact q.elim

def eGet1 (fo fi : EF) : EF := fun ρ S => (fo ρ S).bind fun p => match p.1 with
  | .ref n => match p.2[n]? with
    | some (.dic _) => (fi ρ p.2).bind fun q => match q.2[n]?, AL.keyOf q.1 with
      | some (.dic kvs), some k => some ((valA kvs k).getD .non, q.2)
      | _, _ => none
    | _ => none
  | _ => none
theorem aget1 {apos cpos : Pos} (hu : X.A.units + 1 < cLine) (ho : AE X o fo) (he : AE X e fi) (hm : M1 X o "get" apos e cpos) : AE X (.Call (.Attribute o "get" apos) [e] [] cpos) (eGet1 fo fi) := pe_w (pe_dget1 hu ho he hm) fun σ H Q h => by
  obtain ⟨m, ρ, S, v, S', R, r, e, q⟩ := h
  obtain ⟨⟨x, S1⟩, e1, e⟩ := Option.bind_eq_some_iff.mp e
  dsimp only at e
  split at e
  · next n =>
    split at e
    · next kvs0 en0 =>
      obtain ⟨⟨y, S2⟩, e2, e⟩ := Option.bind_eq_some_iff.mp e
      dsimp only at e
      split at e
      · next kvs k en ek =>
        cases e
        refine ⟨m, ρ, S, _, S1, R, r, e1, fun m1 u H1 E1 R1 r1 => ?_⟩
        cases r1 with
        | ref hm =>
          rename_i ad
          obtain ⟨xs0, hx0, _⟩ := R1.ob _ _ _ en0 hm
          refine ⟨ad, rfl, .inl ⟨xs0, .inl hx0⟩, m1, ρ, S1, y, _, R1, r.kp (E1.kp R), e2, fun m2 w H2 E2 R2 r2 => ?_⟩
          obtain ⟨xs, hx, hk⟩ := R2.ob _ _ _ en ((E2.kp R1).get hm)
          refine ⟨valV xs k, by rw [r2.key ek]; exact DGet.k hx, ?_⟩
          rcases KR.val hk k with ⟨z1, z2⟩ | ⟨u', v2, h1, h2, h3⟩
          · rw [z2] at q
            rw [z1]
            exact q m2 _ H2 (E1.trans E2) R2 .non
          · rw [h2] at q
            rw [h1]
            exact q m2 _ H2 (E1.trans E2) R2 h3
      · cases e
    · cases e
  · cases e
def eGet2 (fo fi fx : EF) : EF := fun ρ S => (fo ρ S).bind fun p => match p.1 with
  | .ref n => match p.2[n]? with
    | some (.dic _) => (fi ρ p.2).bind fun q => (fx ρ q.2).bind fun z => match z.2[n]?, AL.keyOf q.1 with
      | some (.dic kvs), some k => some ((valA kvs k).getD z.1, z.2)
      | _, _ => none
    | _ => none
  | _ => none
def flatA : Val → Bool
  | .non => true
  | .bl _ => true
  | .int _ => true
  | .str _ => true
  | _ => false
def eqF : Val → Val → Bool
  | .non, .non => true
  | .bl a, .bl b => a == b
  | .bl a, .int b => (if a then 1 else 0) == b
  | .int a, .bl b => a == (if b then 1 else 0)
  | .int a, .int b => a == b
  | .str a, .str b => a == b
  | _, _ => false
def inA (x : Val) (vs : List Val) : Bool := vs.any fun y => eqF y x
theorem VR.flat {H : Hp} {m : List Addr} {u : V} {v : Val} (r : VR K H m u v) (h : flatA v = true) : flatV u = true := by
  cases r <;> first | rfl | cases h
theorem VR.eqF {H : Hp} {m : List Addr} {u w : V} {v x : Val} (r : VR K H m u v) (r2 : VR K H m w x) (h : flatA v = true) (h2 : flatA x = true) : eqV u w = AL.eqF v x := by
  cases r <;> cases r2 <;> first | rfl | cases h | cases h2
theorem VRs.flat {H : Hp} {m : List Addr} : ∀ {us : List V} {vs : List Val}, VRs K H m us vs → vs.all flatA = true → us.all flatV = true
  | _, _, .nil, _ => rfl
  | _, _, .cons a r, h => by
    rw [List.all_cons, Bool.and_eq_true] at h
    rw [List.all_cons, a.flat h.1, r.flat h.2]
    rfl
theorem VRs.inA {H : Hp} {m : List Addr} {u : V} {x : Val} (ru : VR K H m u x) (hx : flatA x = true) : ∀ {us : List V} {vs : List Val}, VRs K H m us vs → vs.all flatA = true → inV u us = AL.inA x vs
  | _, _, .nil, _ => rfl
  | _, _, .cons a r, h => by
    rw [List.all_cons, Bool.and_eq_true] at h
    have := VRs.inA ru hx r h.2
    unfold inV AL.inA at this ⊢
    rw [List.any_cons, List.any_cons, this, a.eqF ru h.1 hx]
def gInS (neg : Bool) : Val → Val → Sto → Option (Val × Sto) := fun x y S => match y with
  | .tup vs => if flatA x && vs.all flatA then some (.bl (if neg then !inA x vs else inA x vs), S) else none
  | .ref n => match S[n]? with
    | some (.lst vs) => if flatA x && vs.all flatA then some (.bl (if neg then !inA x vs else inA x vs), S) else none
    | _ => none
  | _ => none
theorem oInS {neg : Bool} : OpA K (rIn K neg) (gInS neg) := by
  intro m S H x y v S' u w Q R ru rw_ e q
  unfold gInS at e
  split at e
  · next vs =>
    split at e
    · next h =>
      rw [Bool.and_eq_true] at h
      cases e
      cases rw_ with
      | tup ha ra =>
        refine ⟨_, _, rfl, .inr ha.sq, ru.flat h.1, ra.flat h.2, ?_⟩
        rw [VRs.inA ru h.1 ra h.2]
        exact q m _ H (.refl _ _) R (.bl _)
    · cases e
  · split at e
    · next n _ vs en =>
      split at e
      · next h =>
        rw [Bool.and_eq_true] at h
        cases e
        cases rw_ with
        | ref hm =>
          obtain ⟨xs, hx, rx⟩ := R.ob _ _ _ en hm
          refine ⟨_, _, rfl, .inl (SqL.of hx), ru.flat h.1, rx.flat h.2, ?_⟩
          rw [VRs.inA ru h.1 rx h.2]
          exact q m _ H (.refl _ _) R (.bl _)
      · cases e
    · cases e
  · cases e
def gIn (neg : Bool) : Val → Val → Sto → Option (Val × Sto) := fun x y S => match y with
  | .ref n => match S[n]? with
    | some (.dic kvs) => match AL.keyOf x with
      | some k => some (.bl (if neg then !(valA kvs k).isSome else (valA kvs k).isSome), S)
      | none => none
    | _ => gInS neg x y S
  | _ => gInS neg x y S
theorem gIn_ok {neg : Bool} {σ : L2.St} {H : Hp} {Q : VK} (h : tF K (eB (gIn neg) fa fb) σ H Q) :
    tOp (rIn K neg) (tF K fa) (tF K fb) σ H Q ∨ (tF K fa σ H fun y H1 => tF K fb σ H1 fun x H2 => ∃ a o, x = .ref a ∧ DGet H2 a y o ∧ Q (.bl (if neg then !o.isSome else o.isSome)) H2) := by
  obtain ⟨m, ρ, S, v, S', R, r, e, q⟩ := h
  obtain ⟨⟨x, S1⟩, e1, e⟩ := Option.bind_eq_some_iff.mp e
  obtain ⟨⟨y, S2⟩, e2, e⟩ := Option.bind_eq_some_iff.mp e
  dsimp only at e e2
  have plain : gInS neg x y S2 = some (v, S') → tOp (rIn K neg) (tF K fa) (tF K fb) σ H Q := fun e => eB_ok oInS ⟨m, ρ, S, v, S', R, r, by simp only [eB, e1, e2, Option.bind_some, e], q⟩
  unfold gIn at e
  split at e
  · next n =>
    split at e
    · next kvs en =>
      split at e
      · next k ek =>
        cases e
        refine .inr ⟨m, ρ, S, x, S1, R, r, e1, fun m1 u H1 E1 R1 r1 => ⟨m1, ρ, S1, _, _, R1, r.kp (E1.kp R), e2, fun m2 w H2 E2 R2 r2 => ?_⟩⟩
        cases r2 with
        | ref hm =>
          obtain ⟨xs, hx, hk⟩ := R2.ob _ _ _ en hm
          refine ⟨_, valV xs k, rfl, by rw [(r1.kp (E2.kp R1)).key ek]; exact DGet.k hx, ?_⟩
          have eq : (valV xs k).isSome = (valA kvs k).isSome := by
            rcases KR.val hk k with ⟨z1, z2⟩ | ⟨u', v2, h1, h2, h3⟩
            · rw [z1, z2]; rfl
            · rw [h1, h2]; rfl
          rw [eq]
          exact q m2 _ H2 (E1.trans E2) R2 (.bl _)
      · cases e
    · exact .inl (plain e)
  · exact .inl (plain e)
theorem atin (hu : X.A.units + 1 < cLine) (ha : AE X a fa) (hb : AE X b fb) (hm : behindInMarks .In b = false := by rfl) : AT X (.Compare a [.In] [b] pos) (eT (eB (gIn false) fa fb)) :=
  pt_w (pt_or2 (pt_cmpR op_in_seq ha hb hm) (pt_cmp (pc_din hu ha hb) hm)) fun σ H Q h => gIn_ok (eT_ok h)
def strsOf : List Val → Option (List Str)
  | [] => some []
  | .str x :: r => (strsOf r).map (x :: ·)
  | _ => none
theorem strs_eq : ∀ {vs : List Val} {ss : List Str}, strsOf vs = some ss → vs = ss.map Val.str
  | [], ss, h => by cases h; rfl
  | .str x :: r, ss, h => by
    obtain ⟨t, h1, h2⟩ := Option.map_eq_some_iff.mp h
    cases h2
    rw [strs_eq h1]
    rfl
  | .non :: r, _, h => by cases h
  | .bl _ :: r, _, h => by cases h
  | .int _ :: r, _, h => by cases h
  | .tup _ :: r, _, h => by cases h
  | .ref _ :: r, _, h => by cases h
  | .scr _ :: r, _, h => by cases h
  | .lam _ _ _ _ _ :: r, _, h => by cases h
  | .exc _ _ _ _ :: r, _, h => by cases h
  | .ptu _ :: r, _, h => by cases h
theorem vrs_strs_inv {H : Hp} {m : List Addr} : ∀ {ss : List Str} {us : List V}, VRs K H m us (ss.map Val.str) → us = ss.map V.str
  | [], _, h => by cases h; rfl
  | s :: ss, _, h => by
    cases h with
    | cons a r =>
      cases a
      rw [vrs_strs_inv r]
      rfl
def leS (a b : Str) : Bool := !ltCps b.cps.toList a.cps.toList
def sortS (l : List Str) : List Str := l.mergeSort leS
theorem ltCps_iff : ∀ (a b : List Nat), ltCps a b = true ↔ a < b := by
  intro a b
  rw [PyProof.Rows.ltCps_eq, decide_eq_true_iff]
theorem leS_iff {a b : Str} : leS a b = true ↔ ¬ b.cps.toList < a.cps.toList := by
  unfold leS
  rw [Bool.not_eq_true', ← Bool.not_eq_true, ltCps_iff]
theorem leS_trans (a b c : Str) (h1 : leS a b = true) (h2 : leS b c = true) : leS a c = true := by
  rw [leS_iff] at *
  rw [List.not_lt] at *
  exact List.le_trans h1 h2
theorem leS_total (a b : Str) : (leS a b || leS b a) = true := by
  rw [Bool.or_eq_true, leS_iff, leS_iff, List.not_lt, List.not_lt]
  exact List.le_total _ _
theorem leS_anti {a b : Str} (h1 : leS a b = true) (h2 : leS b a = true) : a = b := by
  rw [leS_iff, List.not_lt] at *
  have := List.le_antisymm h1 h2
  cases a
  cases b
  simp only [Str.mk.injEq]
  simpa using this
theorem rising_pw : ∀ (p : Str) (l : List Str), risingS p l = true → (p :: l).Pairwise (fun a b => leS a b = true)
  | p, [], _ => by simp
  | p, x :: r, h => by
    have h : (!ltCps x.cps.toList p.cps.toList && risingS x r) = true := h
    rw [Bool.and_eq_true] at h
    have ih := rising_pw x r h.2
    rw [List.pairwise_cons]
    refine ⟨fun b hb => ?_, ih⟩
    rcases List.mem_cons.mp hb with rfl | hb
    · exact h.1
    · exact leS_trans p x b h.1 ((List.pairwise_cons.mp ih).1 b hb)
theorem sortS_uniq {xs ys : List Str} (hp : ys.Perm xs) (hs : sortedS ys = true) : ys = sortS xs := by
  have p1 : ys.Pairwise (fun a b => leS a b = true) := by
    cases ys with
    | nil => exact .nil
    | cons y ys => exact rising_pw y ys hs
  have p2 : (sortS xs).Pairwise (fun a b => leS a b = true) := List.pairwise_mergeSort leS_trans leS_total xs
  exact List.Perm.eq_of_pairwise (fun a b _ _ h1 h2 => leS_anti h1 h2) p1 p2 (hp.trans (List.mergeSort_perm xs leS).symm)
def keysS : List (Key × Val) → Option (List Str)
  | [] => some []
  | (.inr x, _) :: r => (keysS r).map (x :: ·)
  | _ => none
theorem keysS_eq : ∀ {kvs : List (Key × Val)} {ss : List Str}, keysS kvs = some ss → kvs.map (·.1) = ss.map Sum.inr
  | [], ss, h => by cases h; rfl
  | (.inr x, _) :: r, ss, h => by
    obtain ⟨t, h1, h2⟩ := Option.map_eq_some_iff.mp h
    cases h2
    rw [List.map_cons, keysS_eq h1]
    rfl
  | (.inl x, _) :: r, _, h => by cases h
def gSorted : List Val → Sto → Option (Val × Sto) := fun xs S => match xs with
  | [.ref n] => match S[n]? with
    | some (.lst vs) => match strsOf vs with
      | some ss => if ss.length < 64 then some (.ref S.length, S ++ [.lst ((sortS ss).map Val.str)]) else none
      | none => none
    | some (.dic kvs) => match keysS kvs with
      | some ss => if ss.length < 64 then some (.ref S.length, S ++ [.lst ((sortS ss).map Val.str)]) else none
      | none => none
    | _ => none
  | _ => none
def rSortedA (K : PySem.W.Frag) : List V → Hp → VK → Prop := fun xs H Q => rSortedS K xs H Q ∨ (∃ (a : Addr) (kvs : List (Key × V)) (ks : List Str), xs = [.ref a] ∧ Rd H a (.dK kvs) ∧ kvs.map (·.1) = ks.map Sum.inr ∧ ks.length < 64 ∧
    ∀ ys p, ys.Perm ks → sortedS ys = true → H p = none → Q (.ref p) (upd H p (.lst (ys.map V.str))))
theorem call_sortedA (hc : X.calm = true) : CallR X (.builtin "sorted") (rSortedA X.K) := CallR.or cr_sortedS (call_sortedD hc)
theorem cSorted : CaA K (rSortedA K) gSorted := by
  intro m S H xs v S' us Q R ru e q
  unfold gSorted at e
  split at e
  · next n =>
    obtain ⟨u, rfl, r1⟩ := ru.one_of
    cases r1 with
    | ref hm =>
      split at e
      · next vs en =>
        split at e
        · next ss es =>
          split at e
          · next hl =>
            cases e
            obtain ⟨xs, hx, rx⟩ := R.ob _ _ _ en hm
            rw [strs_eq es] at rx
            rw [vrs_strs_inv rx] at hx
            refine .inl ⟨_, ss, rfl, SqL.of hx, hl, fun ys p h1 h2 hp => ?_⟩
            rw [sortS_uniq h1 h2]
            exact newList R (vrs_strs _) q p hp
          · cases e
        · cases e
      · next kvs en =>
        split at e
        · next ss es =>
          split at e
          · next hl =>
            cases e
            obtain ⟨xs, hx, hk, _⟩ := R.ob _ _ _ en hm
            refine .inr ⟨_, xs, ss, rfl, .inl hx, hk.trans (keysS_eq es), hl, fun ys p h1 h2 hp => ?_⟩
            rw [sortS_uniq h1 h2]
            exact newList R (vrs_strs _) q p hp
          · cases e
        · cases e
      · cases e
  · cases e
def pairK : Val → Option (Key × Val)
  | .tup [k, v] => (AL.keyOf k).map fun k => (k, v)
  | _ => none
def pairsK (vs : List Val) : Option (List (Key × Val)) := mapO pairK vs
theorem pairK_some {v : Val} {p : Key × Val} (h : pairK v = some p) : ∃ k, v = .tup [k, p.2] ∧ AL.keyOf k = some p.1 := by
  unfold pairK at h
  split at h
  · next k w =>
    obtain ⟨k', h1, h2⟩ := Option.map_eq_some_iff.mp h
    cases h2
    exact ⟨k, rfl, h1⟩
  · cases h
def mergeA (kvs more : List (Key × Val)) : List (Key × Val) := more.foldl (fun acc kv => putA acc kv.1 kv.2) kvs
theorem KR.merge {H : Hp} {m : List Addr} : ∀ {ms : List (Key × V)} {ns : List (Key × Val)} {xs : List (Key × V)} {kvs : List (Key × Val)}, KR K H m ms ns → KR K H m xs kvs → KR K H m (mergeK xs ms) (mergeA kvs ns) := by
  intro ms ns
  induction ns generalizing ms with
  | nil => intro xs kvs r q; rw [r.nil_of]; exact q
  | cons y ns ih =>
    intro xs kvs r q
    obtain ⟨x, ms', rfl, e, rv, r'⟩ := r.uncons
    have h := q.put y.1 rv
    rw [← e] at h
    have g := ih r' h
    unfold mergeK mergeA at g ⊢
    rw [List.foldl_cons, List.foldl_cons, ← e]
    exact g
def gDict : List Val → Sto → Option (Val × Sto) := fun xs S => match xs with
  | [.ref n] => match S[n]? with
    | some (.lst vs) => match pairsK vs with
      | some kvs => some (.ref S.length, S ++ [.dic (mergeA [] kvs)])
      | none => none
    | _ => none
  | _ => none
theorem VRs.two_of {H : Hp} {m : List Addr} {us : List V} {v w : Val} (r : VRs K H m us [v, w]) : ∃ u z, us = [u, z] ∧ VR K H m u v ∧ VR K H m z w := by
  cases r with
  | cons a b =>
    obtain ⟨z, rfl, c⟩ := b.one_of
    exact ⟨_, z, rfl, a, c⟩
theorem pairsK_ok {H : Hp} {m : List Addr} : ∀ (vs : List Val) (us : List V) (kvs : List (Key × Val)), VRs K H m us vs → mapO pairK vs = some kvs → ∃ (ps : List Addr) (xs : List (Key × V)), us = ps.map V.ref ∧ Paired (fun p kv => SqT K H p [kV kv.1, kv.2]) ps xs ∧ KR K H m xs kvs := by
  intro vs
  induction vs with
  | nil =>
    intro us kvs r h
    cases r
    cases h
    exact ⟨[], [], rfl, .nil, .nil⟩
  | cons v vs ih =>
    intro us kvs r h
    cases r with
    | cons a r =>
      obtain ⟨p, h1, h⟩ := Option.bind_eq_some_iff.mp h
      obtain ⟨kv, h2, h⟩ := Option.bind_eq_some_iff.mp h
      cases h
      obtain ⟨k, rfl, ek⟩ := pairK_some h1
      obtain ⟨ps, xs, rfl, hp, hk⟩ := ih _ _ r h2
      cases a with
      | tup ha ra =>
        rename_i ad ws
        obtain ⟨u1, u2, rfl, r1, r2⟩ := ra.two_of
        refine ⟨ad :: ps, (p.1, u2) :: xs, rfl, .cons ?_ hp, .cons rfl r2 hk⟩
        have e := r1.key ek
        rw [← e]
        exact ha.sq
theorem cDict : CaA K (fun xs H Q => ∃ (a : Addr) (ps : List Addr) (kvs : List (Key × V)), xs = [.ref a] ∧ SqL K H a (ps.map V.ref) ∧ Paired (fun p kv => SqT K H p [kV kv.1, kv.2]) ps kvs ∧
    ∀ p, H p = none → Q (.ref p) (upd H p (.dK (mergeK [] kvs)))) gDict := by
  intro m S H xs v S' us Q R ru e q
  unfold gDict at e
  split at e
  · next n =>
    obtain ⟨u, rfl, r1⟩ := ru.one_of
    cases r1 with
    | ref hm =>
      split at e
      · next vs en =>
        split at e
        · next kvs ek =>
          cases e
          obtain ⟨xs, hx, rx⟩ := R.ob _ _ _ en hm
          obtain ⟨ps, ys, rfl, hp, hk⟩ := pairsK_ok _ _ _ rx ek
          exact ⟨_, ps, ys, rfl, SqL.of hx, hp, newDic R (hk.merge .nil) q⟩
        · cases e
      · cases e
  · cases e
theorem asp2' {i j : Nat} {st : Stmt} {ga : AF} (hst : PS X st (tPar i j (tFa X.K ga))) : AS X st (sPar [i, j] ga) := ps_w hst fun D σ H h => by
  obtain ⟨m, ρ, S, R, r, q⟩ := h
  unfold sPar at q
  split at q
  · next vs S1 e1 =>
    split at q
    · next ρ1 e2 =>
      refine ⟨m, ρ, S, vs, S1, R, r, e1, fun m1 us H1 E1 R1 r1 => ?_⟩
      match vs, e2, r1 with
      | [v, w], e2, .cons rv (.cons rw_ .nil) =>
        simp only [List.map_cons, List.map_nil, Pat.binds, Pat.bind, Option.bind_some] at e2
        cases e2
        exact ⟨_, _, rfl, q m1 _ H1 E1 R1 (((r.kp (E1.kp R)).set rv i).set rw_ j)⟩
      | [], e2, _ => simp [Pat.binds] at e2
      | [_], e2, _ => simp [Pat.binds, Pat.bind] at e2
      | _ :: _ :: _ :: _, e2, _ => simp [Pat.binds, Pat.bind] at e2
    · exact q.elim
  · exact q.elim
end
end AL
namespace AL
open PySem PySem.Spec PyProof.Rows L2 G Th
variable [TT]
theorem fn_aG {P : Program} {w : World} {K : PySem.W.Frag} {mg : Str → Option Value} {base : Heap} {x qual : Str} {st : Stmt} {f : Addr} {fd : FuncData} {N ps : List Str} {k : Nat} {g : SF}
    (F : Fun K x qual st f fd) (S : FnScope N ps (defScope st))
    (body : ∀ (cdv : Value) (A : Around) (outer : List Env) (s : Shared) (H : Hp) (E : XK), A.guards = some [] →
      Room k (A.deeper (envOfC qual (defScope st) s.heap.objs.size f cdv)) → ASs (cxOf CX0 P w K mg base N qual (defScope st) f cdv A outer s H E).nox (defBody st) g) {n q : Nat} (hn : N.length = n := by rfl) (hq : ps.length = q := by rfl) :
    FnG P w K mg base (k + 1) f fd ps (spA K q (runF n g)) := by
  subst hn hq
  refine fn_g F S (fun vs H Q E h => h.1) (fun cdv A outer s H us Q E hg hr h => ⟨_, body cdv A outer s H E hg hr, ?_⟩)
  obtain ⟨hl, m, S0, vs, v, S', R, r, e, q⟩ := h
  refine ⟨m, _, S0, R, rho_start N r, ?_⟩
  unfold runF at e
  split at e
  · next v' S1 e1 =>
    cases e
    rw [e1]
    exact q
  · next v' S1 e1 =>
    cases e
    rw [e1]
    exact fun m' σ' H' E' R' r' => q m' .non H' E' R' .non
  · cases e
theorem sqF_of {K : PySem.W.Frag} {H : Hp} {a : Addr} {ns : List Int} (hO : Only H) (h : SqL K H a (ns.map V.int)) : SqF K H a ns := by
  rcases h with (h | ⟨o, h⟩) | h
  · rcases hO a with z | ⟨ob, xs, z⟩ <;> (rw [h] at z; cases z)
  · exact .inl ⟨o, h⟩
  · exact .inr h
theorem rel_nil {K : PySem.W.Frag} {H : Hp} (hT : LamT.Tabs TT.T H) : Rel K [] [] H := ⟨rfl, .nil, fun n o a h => by simp at h, hT⟩
theorem hsp_t {K : PySem.W.Frag} {F : FA} (hF : ∀ ns : List Int, ns.length ≤ 63 → ∃ S', F [.scr ns] [] = some (.bl true, S')) {H : Hp} {a : Addr} {ns : List Int} {E : XK} (hl : ns.length ≤ 63) (hT : LamT.Tabs TT.T H) (hS : SqF K H a ns) : spA K 1 F [.ref a] H (fun v _ => v = .bl true) E := by
  obtain ⟨S', e⟩ := hF ns hl
  refine ⟨rfl, [], [], [.scr ns], .bl true, S', rel_nil hT, .cons (.scr hS) .nil, e, fun m' z H' _ _ r => ?_⟩
  cases r
  rfl
end AL
namespace AL
open PySem PySem.Spec PyProof.Rows L2 G Th
variable [TT]

def Kx (x : Nat) (S S' : Sto) : Prop := ∀ (k : Nat) (o : Ob), k ≠ x → S[k]? = some o → S'[k]? = some o
def Kn (S S' : Sto) : Prop := ∀ (k : Nat) (o : Ob), S[k]? = some o → S'[k]? = some o
theorem Kn.refl (S : Sto) : Kn S S := fun _ _ h => h
theorem Kn.trans {S S1 S2 : Sto} (a : Kn S S1) (b : Kn S1 S2) : Kn S S2 := fun k o h => b k o (a k o h)
theorem Kn.app (S T : Sto) : Kn S (S ++ T) := fun k o h => by
  rw [List.getElem?_append_left (List.getElem?_eq_some_iff.mp h).1]
  exact h
theorem Kn.kx {S S' : Sto} (a : Kn S S') (x : Nat) : Kx x S S' := fun k o _ h => a k o h
theorem Kx.trans {x : Nat} {S S1 S2 : Sto} (a : Kx x S S1) (b : Kx x S1 S2) : Kx x S S2 := fun k o n h => b k o n (a k o n h)
theorem Kx.refl (x : Nat) (S : Sto) : Kx x S S := fun _ _ _ h => h
theorem Kx.put {x : Nat} {S : Sto} {o : Ob} : Kx x S (S.set x o) := fun k o' n h => by
  rw [List.getElem?_set_ne (Ne.symm n)]
  exact h
theorem Kn.len {S S' : Sto} (a : Kn S S') : S.length ≤ S'.length := by
  by_cases h : S.length = 0
  · omega
  · have l : S.length - 1 < S.length := by omega
    have := a (S.length - 1) _ (List.getElem?_eq_getElem l)
    have := (List.getElem?_eq_some_iff.mp this).1
    omega
theorem Kx.len {x : Nat} {S S' : Sto} (a : Kx x S S') (h : x + 1 < S.length) : S.length ≤ S'.length := by
  have l : S.length - 1 < S.length := by omega
  have := a (S.length - 1) _ (by omega) (List.getElem?_eq_getElem l)
  have := (List.getElem?_eq_some_iff.mp this).1
  omega

theorem lcR_pure {p : Pat} {t : BF} {f : EF} {ok : Sto → Prop} {ρ : Rho} {S : Sto} (hok : ok S) (b : Val → Bool) (g : Val → Val) : ∀ (vs acc : List Val), acc.length + vs.length < 1000000 →
    (∀ v ∈ vs, ∃ ρ1, p.bind v ρ = some ρ1 ∧ t ρ1 S = some (b v, S) ∧ (b v = true → f ρ1 S = some (g v, S))) → lcR p t f ok ρ vs acc S = some (acc ++ (vs.filter b).map g, S)
  | [], acc, _, _ => by
    unfold lcR
    rw [if_pos hok]
    simp
  | v :: vs, acc, hl, h => by
    obtain ⟨ρ1, h1, h2, h3⟩ := h v (by simp)
    unfold lcR
    rw [if_pos hok, h1, Option.bind_some, h2, Option.bind_some]
    simp only [List.length_cons] at hl
    cases hb : b v with
    | true =>
      rw [h3 hb]
      simp only [if_true, Option.bind_some, show acc.length < 1000000 by omega, if_true]
      rw [lcR_pure hok b g vs (acc ++ [g v]) (by simp; omega) fun w hw => h w (by simp [hw])]
      simp [List.filter_cons, hb]
    | false =>
      simp only [Bool.false_eq_true, if_false]
      rw [lcR_pure hok b g vs acc (by omega) fun w hw => h w (by simp [hw])]
      simp [List.filter_cons, hb]
theorem forR_nil {p : Pat} {g : SF} {ok : Sto → Prop} {ρ : Rho} {S : Sto} (h : ok S) : forR p g ok [] ρ S = .nx ρ S := by
  unfold forR
  rw [if_pos h]
theorem forR_cons {p : Pat} {g : SF} {ok : Sto → Prop} {v : Val} {vs : List Val} {ρ ρ1 : Rho} {S : Sto} (h : ok S) (hb : p.bind v ρ = some ρ1) : forR p g ok (v :: vs) ρ S = (match g ρ1 S with
      | .nx ρ S => forR p g ok vs ρ S
      | .ct ρ S => forR p g ok vs ρ S
      | .bk ρ S => .nx ρ S
      | .rt v S => .rt v S
      | .stuck => .stuck) := by
  rw [forR]
  dsimp only
  rw [if_pos h, hb]
  all_goals rfl

theorem forR_inv {p : Pat} {g : SF} {ok : Sto → Prop} (I : Nat → Rho → Sto → Prop) (vs : List Val) (hok : ∀ i ρ S, I i ρ S → ok S)
    (step : ∀ i v ρ S, vs[i]? = some v → I i ρ S → ∃ ρ1 ρ2 S2, p.bind v ρ = some ρ1 ∧ g ρ1 S = .nx ρ2 S2 ∧ I (i + 1) ρ2 S2) :
    ∀ (k : Nat) (ρ : Rho) (S : Sto), k ≤ vs.length → I k ρ S → ∃ ρ' S', forR p g ok (vs.drop k) ρ S = .nx ρ' S' ∧ I vs.length ρ' S' := by
  intro k
  induction hn : vs.length - k generalizing k with
  | zero =>
    intro ρ S hk h
    have e : k = vs.length := by omega
    subst e
    rw [List.drop_length]
    exact ⟨ρ, S, forR_nil (hok _ _ _ h), h⟩
  | succ n ih =>
    intro ρ S hk h
    have l : k < vs.length := by omega
    rw [List.drop_eq_getElem_cons l]
    obtain ⟨ρ1, ρ2, S2, h1, h2, h3⟩ := step k vs[k] ρ S (List.getElem?_eq_getElem l) h
    rw [forR_cons (hok _ _ _ h) h1, h2]
    exact ih (k + 1) (by omega) ρ2 S2 (by omega) h3
theorem forR_run {p : Pat} {g : SF} {ok : Sto → Prop} (I : Nat → Rho → Sto → Prop) {vs : List Val} {ρ : Rho} {S : Sto} (hok : ∀ i ρ S, I i ρ S → ok S) (h0 : I 0 ρ S)
    (step : ∀ i v ρ S, vs[i]? = some v → I i ρ S → ∃ ρ1 ρ2 S2, p.bind v ρ = some ρ1 ∧ g ρ1 S = .nx ρ2 S2 ∧ I (i + 1) ρ2 S2) : ∃ ρ' S', forR p g ok vs ρ S = .nx ρ' S' ∧ I vs.length ρ' S' := by
  have := forR_inv I vs hok step 0 ρ S (Nat.zero_le _) h0
  rwa [List.drop_zero] at this

theorem lcR_inv {p : Pat} {t : BF} {f : EF} {ok : Sto → Prop} {ρ : Rho} (I : Nat → List Val → Sto → Prop) (vs : List Val) (hl : vs.length < 900000) (hok : ∀ i a S, I i a S → ok S) (hlen : ∀ i a S, I i a S → a.length ≤ i)
    (step : ∀ i v a S, vs[i]? = some v → I i a S → ∃ ρ1, p.bind v ρ = some ρ1 ∧ ((∃ S1 y S2, t ρ1 S = some (true, S1) ∧ f ρ1 S1 = some (y, S2) ∧ I (i + 1) (a ++ [y]) S2) ∨ (∃ S1, t ρ1 S = some (false, S1) ∧ I (i + 1) a S1))) :
    ∀ (k : Nat) (a : List Val) (S : Sto), k ≤ vs.length → I k a S → ∃ a' S', lcR p t f ok ρ (vs.drop k) a S = some (a', S') ∧ I vs.length a' S' := by
  intro k
  induction hn : vs.length - k generalizing k with
  | zero =>
    intro a S hk h
    have e : k = vs.length := by omega
    subst e
    rw [List.drop_length]
    refine ⟨a, S, ?_, h⟩
    unfold lcR
    rw [if_pos (hok _ _ _ h)]
  | succ n ih =>
    intro a S hk h
    have l : k < vs.length := by omega
    rw [List.drop_eq_getElem_cons l]
    obtain ⟨ρ1, h1, h2⟩ := step k vs[k] a S (List.getElem?_eq_getElem l) h
    have la := hlen _ _ _ h
    rcases h2 with ⟨S1, y, S2, h2, h3, h4⟩ | ⟨S1, h2, h4⟩
    · obtain ⟨a', S', e, h5⟩ := ih (k + 1) (by omega) (a ++ [y]) S2 (by omega) h4
      refine ⟨a', S', ?_, h5⟩
      unfold lcR
      rw [if_pos (hok _ _ _ h), h1, Option.bind_some, h2, Option.bind_some]
      simp only [if_true, h3, Option.bind_some, show a.length < 1000000 by omega, if_true]
      exact e
    · obtain ⟨a', S', e, h5⟩ := ih (k + 1) (by omega) a S1 (by omega) h4
      refine ⟨a', S', ?_, h5⟩
      unfold lcR
      rw [if_pos (hok _ _ _ h), h1, Option.bind_some, h2, Option.bind_some]
      simp only [Bool.false_eq_true, if_false]
      exact e
theorem lcR_run {p : Pat} {t : BF} {f : EF} {ok : Sto → Prop} {ρ : Rho} {S : Sto} (I : Nat → List Val → Sto → Prop) {vs : List Val} (hl : vs.length < 900000) (hok : ∀ i a S, I i a S → ok S) (hlen : ∀ i a S, I i a S → a.length ≤ i) (h0 : I 0 [] S)
    (step : ∀ i v a S, vs[i]? = some v → I i a S → ∃ ρ1, p.bind v ρ = some ρ1 ∧ ((∃ S1 y S2, t ρ1 S = some (true, S1) ∧ f ρ1 S1 = some (y, S2) ∧ I (i + 1) (a ++ [y]) S2) ∨ (∃ S1, t ρ1 S = some (false, S1) ∧ I (i + 1) a S1))) :
    ∃ a' S', lcR p t f ok ρ vs [] S = some (a', S') ∧ I vs.length a' S' := by
  have := lcR_inv I vs hl hok hlen step 0 [] S (Nat.zero_le _) h0
  rwa [List.drop_zero] at this
theorem rangeV_get {lo : Int} {n i : Nat} {v : Val} (h : (rangeV lo n)[i]? = some v) : v = .int (lo + i) ∧ i < n := by
  unfold rangeV at h
  rw [List.getElem?_map] at h
  obtain ⟨k, hk, rfl⟩ := Option.map_eq_some_iff.mp h
  obtain ⟨l, rfl⟩ := List.getElem?_eq_some_iff.mp hk
  rw [List.length_range] at l
  exact ⟨by rw [List.getElem_range], l⟩
theorem rangeV_len (lo : Int) (n : Nat) : (rangeV lo n).length = n := by simp [rangeV]
end AL
namespace K37
open PySem PySem.Spec PyProof.Rows L2 G Th AL
noncomputable def common_divisor_B : SF := (sSeq (sWhile (eT (eB gNe (eV 1) (eC (.int 0)))) (sPar [0, 1] (aCons (eV 1) (aCons (eB gMod (eV 0) (eV 1)) aNil))))
    (sRet (eCall gAbs (aCons (eV 0) aNil))))
noncomputable def common_divisor_ : FA := runF 2 common_divisor_B
noncomputable def ratio_B : SF := (sSeq (sIf (eT (eB gLt (eV 1) (eC (.int 0)))) (sPar [0, 1] (aCons (eU gNeg (eV 0)) (aCons (eU gNeg (eV 1)) aNil))) sNil)
    (sSeq (sAsg (.nm 2) (eDef common_divisor_ 2 (aCons (eV 0) (aCons (eV 1) aNil))))
    (sRet (eTup (aCons (eB gDiv (eV 0) (eV 2)) (aCons (eB gDiv (eV 1) (eV 2)) aNil))))))
noncomputable def ratio_ : FA := runF 3 ratio_B
noncomputable def added_B : SF := (sRet (eDef ratio_ 2 (aCons (eB gAdd (eB gMul (eB gIxA (eV 0) (eC (.int 0))) (eB gIxA (eV 1) (eC (.int 1)))) (eB gMul (eB gIxA (eV 1) (eC (.int 0))) (eB gIxA (eV 0) (eC (.int 1))))) (aCons (eB gMul (eB gIxA (eV 0) (eC (.int 1))) (eB gIxA (eV 1) (eC (.int 1)))) aNil))))
noncomputable def added_ : FA := runF 2 added_B
noncomputable def added_told_B : SF := (sRet (eIf (bOr (eT (eB gIs (eV 0) (eC .non))) (eT (eB gIs (eV 1) (eC .non)))) (eC .non) (eDef added_ 2 (aCons (eV 0) (aCons (eV 1) aNil)))))
noncomputable def added_told_ : FA := runF 2 added_told_B
noncomputable def less_B : SF := (sRet (eDef ratio_ 2 (aCons (eB gSub (eB gMul (eB gIxA (eV 0) (eC (.int 0))) (eB gIxA (eV 1) (eC (.int 1)))) (eB gMul (eB gIxA (eV 1) (eC (.int 0))) (eB gIxA (eV 0) (eC (.int 1))))) (aCons (eB gMul (eB gIxA (eV 0) (eC (.int 1))) (eB gIxA (eV 1) (eC (.int 1)))) aNil))))
noncomputable def less_ : FA := runF 2 less_B
noncomputable def parted_B : SF := (sRet (eDef ratio_ 2 (aCons (eB gMul (eB gIxA (eV 0) (eC (.int 0))) (eB gIxA (eV 1) (eC (.int 1)))) (aCons (eB gMul (eB gIxA (eV 0) (eC (.int 1))) (eB gIxA (eV 1) (eC (.int 0)))) aNil))))
noncomputable def parted_ : FA := runF 2 parted_B
noncomputable def is_below_B : SF := (sRet (eB gLt (eB gMul (eB gIxA (eV 0) (eC (.int 0))) (eB gIxA (eV 1) (eC (.int 1)))) (eB gMul (eB gIxA (eV 1) (eC (.int 0))) (eB gIxA (eV 0) (eC (.int 1))))))
noncomputable def is_below_ : FA := runF 2 is_below_B
noncomputable def least_of_B : SF := (sSeq (sAsg (.nm 1) (eC .non))
    (sSeq (sFor (.nm 2) (iSeq (eV 0)) (sIf (bOr (eT (eB gIs (eV 1) (eC .non))) (eT (eDef is_below_ 2 (aCons (eV 2) (aCons (eV 1) aNil))))) (sAsg (.nm 1) (eV 2)) sNil))
    (sRet (eV 1))))
noncomputable def least_of_ : FA := runF 3 least_of_B
noncomputable def greatest_of_B : SF := (sSeq (sAsg (.nm 1) (eC .non))
    (sSeq (sFor (.nm 2) (iSeq (eV 0)) (sIf (bOr (eT (eB gIs (eV 1) (eC .non))) (eT (eDef is_below_ 2 (aCons (eV 1) (aCons (eV 2) aNil))))) (sAsg (.nm 1) (eV 2)) sNil))
    (sRet (eV 1))))
noncomputable def greatest_of_ : FA := runF 3 greatest_of_B
noncomputable def drift_of_B : SF := (sSeq (sFor (.tp [(.nm 2), (.nm 3), (.nm 4)]) (iSeq (eB gIxA (eV 0) (eC (.int 0)))) (sIf (eT (eB gEq (eV 2) (eV 1))) (sRet (eTup (aCons (eV 3) (aCons (eV 4) aNil)))) sNil))
    (sRet (eC .non)))
noncomputable def drift_of_ : FA := runF 5 drift_of_B
noncomputable def moves_into_B : SF := (sSeq (sAsg (.tp [(.nm 5), (.nm 6), (.nm 7)]) (eV 3))
    (sSeq (sAsg (.nm 4) (eLst aNil))
    (sSeq (sIf (eT (eB gIsN (eV 2) (eC .non))) (sSeq (sAsg (.tp [(.nm 10), (.nm 11)]) (eDef drift_of_ 2 (aCons (eV 0) (aCons (eV 5) aNil))))
    (sSeq (sAsg (.nm 8) (eDef less_ 2 (aCons (eV 6) (aCons (eB gIxA (eB gIxA (eV 1) (eV 2)) (eC (.int 1))) aNil))))
    (sExpr (eMt isL gApp (eV 4) (aCons (eTup (aCons (eV 2) (aCons (eTup (aCons (eDef parted_ 2 (aCons (eV 8) (aCons (eV 11) aNil))) (aCons (eDef parted_ 2 (aCons (eV 8) (aCons (eV 10) aNil))) aNil))) aNil))) aNil))))) sNil)
    (sSeq (sIf (eT (eB gEq (eB gIxA (eV 7) (eC (.int 0))) (eC (.str "hear")))) (sSeq (sAsg (.nm 9) (eB gIxA (eB gIxA (eV 1) (eB gIxA (eV 7) (eC (.int 1)))) (eC (.int 2))))
    (sExpr (eMt isL gApp (eV 4) (aCons (eTup (aCons (eB gIxA (eV 7) (eC (.int 1))) (aCons (eSl gSl (eB gIxA (eB gIxA (eV 0) (eC (.int 1))) (eB gIxA (eV 9) (eC (.int 1)))) (oS (eC (.int 2))) oN) aNil))) aNil)))) sNil)
    (sRet (eV 4))))))
noncomputable def moves_into_ : FA := runF 12 moves_into_B
noncomputable def moved_end_B : SF := (sSeq (sAsg (.tp [(.nm 3), (.nm 4)]) (eV 0))
    (sRet (eDef added_told_ 2 (aCons (eB gIxA (eB gIxA (eV 1) (eV 3)) (eV 2)) (aCons (eB gIxA (eV 4) (eV 2)) aNil)))))
noncomputable def moved_end_ : FA := runF 5 moved_end_B
noncomputable def ends_told_B : SF := (sSeq (sAsg (.nm 3) (eLc (.nm 4) (iSeq (eV 0)) bYes (eDef moved_end_ 3 (aCons (eV 4) (aCons (eV 1) (aCons (eV 2) aNil)))) [4]))
    (sRet (eLc (.nm 5) (iSeq (eV 3)) (eT (eB gIsN (eV 5) (eC .non))) (eV 5) [5])))
noncomputable def ends_told_ : FA := runF 6 ends_told_B
noncomputable def kept_pair_B : SF := (sSeq (sAsg (.tp [(.nm 4), (.nm 5), (.nm 6)]) (eV 1))
    (sSeq (sIf (eT (eB gEq (eV 4) (eB gIxA (eV 0) (eC (.int 2))))) (sRet (eTup (aCons (eV 5) (aCons (eV 5) aNil)))) sNil)
    (sRet (eTup (aCons (eDef greatest_of_ 1 (aCons (eDef ends_told_ 3 (aCons (eV 2) (aCons (eV 3) (aCons (eC (.int 0)) aNil)))) aNil)) (aCons (eDef least_of_ 1 (aCons (eDef ends_told_ 3 (aCons (eV 2) (aCons (eV 3) (aCons (eC (.int 1)) aNil)))) aNil)) aNil))))))
noncomputable def kept_pair_ : FA := runF 7 kept_pair_B
noncomputable def tapeL_B : SF := (sRet (eLst (aCons (eSl gSl (eV 0) oN (oS (eC (.int 63)))) (aCons (eC (.int 0)) (aCons (eC (.int 0)) (aCons (eC (.int 0)) aNil))))))
noncomputable def tapeL_ : FA := runF 1 tapeL_B
noncomputable def lowL_B : SF := (sSeq (sPar [2, 3] (aCons (eCall gAbs (aCons (eV 0) aNil)) (aCons (eV 1) aNil)))
    (sSeq (sWhile (eT (eB gGt (eV 3) (eC (.int 0)))) (sPar [2, 3] (aCons (eV 3) (aCons (eB gMod (eV 2) (eV 3)) aNil))))
    (sRet (eTup (aCons (eB gDiv (eV 0) (eV 2)) (aCons (eB gDiv (eV 1) (eV 2)) aNil))))))
noncomputable def lowL_ : FA := runF 4 lowL_B
noncomputable def plusL_B : SF := (sRet (eDef lowL_ 2 (aCons (eB gAdd (eB gMul (eB gIxA (eV 0) (eC (.int 0))) (eB gIxA (eV 1) (eC (.int 1)))) (eB gMul (eB gIxA (eV 1) (eC (.int 0))) (eB gIxA (eV 0) (eC (.int 1))))) (aCons (eB gMul (eB gIxA (eV 0) (eC (.int 1))) (eB gIxA (eV 1) (eC (.int 1)))) aNil))))
noncomputable def plusL_ : FA := runF 2 plusL_B
noncomputable def byL_B : SF := (sRet (eDef lowL_ 2 (aCons (eB gMul (eB gIxA (eV 0) (eC (.int 0))) (eB gIxA (eV 1) (eC (.int 0)))) (aCons (eB gMul (eB gIxA (eV 0) (eC (.int 1))) (eB gIxA (eV 1) (eC (.int 1)))) aNil))))
noncomputable def byL_ : FA := runF 2 byL_B
noncomputable def overL_B : SF := (sRet (eDef lowL_ 2 (aCons (eB gMul (eB gIxA (eV 0) (eC (.int 0))) (eB gIxA (eV 1) (eC (.int 1)))) (aCons (eB gMul (eB gIxA (eV 0) (eC (.int 1))) (eB gIxA (eV 1) (eC (.int 0)))) aNil))))
noncomputable def overL_ : FA := runF 2 overL_B
noncomputable def is_lessL_B : SF := (sRet (eB gLt (eB gMul (eB gIxA (eV 0) (eC (.int 0))) (eB gIxA (eV 1) (eC (.int 1)))) (eB gMul (eB gIxA (eV 1) (eC (.int 0))) (eB gIxA (eV 0) (eC (.int 1))))))
noncomputable def is_lessL_ : FA := runF 2 is_lessL_B
end K37
namespace AL
open PySem PySem.Spec PyProof.Rows L2 G Th
variable [TT]

def CV (K : PySem.W.Frag) (u : Value) (v : Val) : Prop := ∃ uv : V, RelV uv u ∧ ∀ (H : Hp) (m : List Addr), VR K H m uv v
section
variable {K : PySem.W.Frag}
theorem cv_int {i : Int} {t : Nat} : CV K (.int i t) (.int i) := ⟨.int i, ⟨t, rfl⟩, fun _ _ => .int i⟩
end
section
variable {X : Cx} {e : Expr} {es : List Expr} {kws : List Keyword} {pos p : Pos} {f : EF} {ga gk : AF} {nm : Option Str} {kpos : Pos} {st : Stmt}

theorem pk_w {t t' : TA} (h : PK X kws t) (hi : ∀ σ H Q, t' σ H Q → t σ H Q) : PK X kws t' := ⟨fun p pins s σ H Q I hq => h.run p pins s σ H Q I (hi σ H Q hq)⟩
theorem akn : PK X [] (tFa X.K aNil) := by
  refine pk_w pk_nil fun σ H Q h => ?_
  obtain ⟨m, ρ, S, v, S', R, r, e, q⟩ := h
  cases e
  exact q m [] H (.refl _ _) R .nil
theorem akc (ha : AE X e f) (hr : PK X kws (tFa X.K ga)) : PK X (⟨nm, e, kpos⟩ :: kws) (tFa X.K (aCons f ga)) := by
  refine pk_w (pk_cons ha hr) fun σ H Q h => ?_
  obtain ⟨m, ρ, S, v, S', R, r, e, q⟩ := h
  obtain ⟨⟨x, S1⟩, e1, e⟩ := Option.bind_eq_some_iff.mp e
  obtain ⟨⟨y, S2⟩, e2, e⟩ := Option.bind_eq_some_iff.mp e
  cases e
  exact ⟨m, ρ, S, x, S1, R, r, e1, fun m1 u H1 E1 R1 r1 => ⟨m1, ρ, S1, y, S2, R1, r.kp (E1.kp R), e2, fun m2 w H2 E2 R2 r2 => q m2 _ H2 (E1.trans E2) R2 (.cons (r1.kp (E2.kp R1)) r2)⟩⟩
end
def eDefK (F : FA) (n m : Nat) (gA : List Val → List Val → List Val) (ga gk : AF) : EF := fun ρ S => (ga ρ S).bind fun p => (gk ρ p.2).bind fun q => if p.1.length = n ∧ q.1.length = m then F (gA p.1 q.1) q.2 else none

theorem fund_mk {K : PySem.W.Frag} {x qual : Str} {st : Stmt} {f D : Addr} {oc : Value} {od an : Option Addr} {osl : Array (Option Value)} {doc pm cdv ct : Value} {kws : List (Str × V)} (l : K.lookup f = some ⟨oc, od, .func (PySem.W.fnOf x qual (defArgs st) (defBody st) (defScope st) .none (.ref D) doc pm an cdv ct), osl⟩)
    (c : PySem.W.codeIn K cdv qual = true) (k : PySem.W.keepIn K (.ref f) = true) (hq : ∀ q ∈ kws, ∃ u, PySem.W.nsIn K D q.1 = some (some u) ∧ RelV q.2 u) :
    FunD K x qual (defArgs st) (defBody st) (defScope st) [] kws f (PySem.W.fnOf x qual (defArgs st) (defBody st) (defScope st) .none (.ref D) doc pm an cdv ct) := ⟨⟨oc, od, .none, .ref D, doc, pm, an, cdv, ct, osl, rfl, l, c, .inl ⟨rfl, rfl⟩, .inr ⟨D, rfl, hq⟩⟩, k⟩
end AL
namespace AL
open PySem PySem.Spec PyProof.Rows L2 G Th
variable [TT]
def tyN : Val → Sto → Option String := fun v S => match v with
  | .non => some "NoneType"
  | .bl _ => some "bool"
  | .int _ => some "int"
  | .str _ => some "str"
  | .tup _ => some "tuple"
  | .scr _ => some "list"
  | .ref n => match S[n]? with
    | some (.lst _) => some "list"
    | some (.dic _) => some "dict"
    | _ => none
  | .lam _ _ _ _ _ => none
  | .exc _ _ _ _ => none
  | .ptu _ => none
def gIsi (T : String) : Val → Sto → Option (Val × Sto) := fun v S => (tyN v S).bind fun a => (L2.kitB a T).map fun b => (.bl b, S)
theorem kit_int_int : L2.kitB "int" "int" = some true := by decide +kernel
theorem kit_str_int : L2.kitB "str" "int" = some false := by decide +kernel
theorem kit_tuple_int : L2.kitB "tuple" "int" = some false := by decide +kernel
theorem kit_NoneType_int : L2.kitB "NoneType" "int" = some false := by decide +kernel
theorem kit_int_bool : L2.kitB "int" "bool" = some false := by decide +kernel
theorem kit_bool_bool : L2.kitB "bool" "bool" = some true := by decide +kernel
theorem kit_str_str : L2.kitB "str" "str" = some true := by decide +kernel
theorem kit_int_tuple : L2.kitB "int" "tuple" = some false := by decide +kernel
theorem kit_tuple_tuple : L2.kitB "tuple" "tuple" = some true := by decide +kernel
theorem kit_NoneType_tuple : L2.kitB "NoneType" "tuple" = some false := by decide +kernel
section
variable {X : Cx} {e : Expr} {f : EF} {p p2 pos : Pos} {K : PySem.W.Frag}

def gIsT : Val → Val → Sto → Option (Val × Sto) := fun x y S => match x, y with
  | .bl a, .bl b => some (.bl (decide (a = b)), S)
  | _, _ => none
def gIsNT : Val → Val → Sto → Option (Val × Sto) := fun x y S => match x, y with
  | .bl a, .bl b => some (.bl (!decide (a = b)), S)
  | _, _ => none
end
end AL
namespace AL
open PySem PySem.Spec PyProof.Rows L2 G Th
variable [TT]
def flat (ps : List (V × V)) : List V := ps.flatMap fun p => [p.1, p.2]
section
variable {X : Cx} {pos : Pos} {K : PySem.W.Frag} {ga : AF}
end
end AL
namespace AL
open PySem PySem.Spec PyProof.Rows L2 G Th
variable [TT]
def Wp {α : Type} (o : Option (α × Sto)) (Q : α → Sto → Prop) : Prop := ∃ a S', o = some (a, S') ∧ Q a S'
def WsD (r : Res) (N : Rho → Sto → Prop) (R : Val → Sto → Prop) : Prop := match r with
  | .nx ρ S => N ρ S
  | .rt v S => R v S
  | _ => False
structure Ws (r : Res) (N : Rho → Sto → Prop) (R : Val → Sto → Prop) : Prop where
  h : WsD r N R
def Tb (v : Val) (X : Bool → Prop) : Prop := ∃ b, v = .bl b ∧ X b
theorem tb {v : Val} {b : Bool} {X : Bool → Prop} (h : v = .bl b) (q : X b) : Tb v X := ⟨b, h, q⟩
def Ti (v : Val) (X : Int → Prop) : Prop := ∃ i, v = .int i ∧ X i
theorem ti {v : Val} {i : Int} {X : Int → Prop} (h : v = .int i) (q : X i) : Ti v X := ⟨i, h, q⟩
def Br (b : Bool) (P Q : Prop) : Prop := (b = true → P) ∧ (b = false → Q)
theorem Br.of {b : Bool} {P Q : Prop} (p : b = true → P) (q : b = false → Q) : Br b P Q := ⟨p, q⟩
theorem brT {b : Bool} {P Q : Prop} (h : b = true) (p : P) : Br b P Q := ⟨fun _ => p, fun z => (by rw [h] at z; cases z)⟩
theorem brF {b : Bool} {P Q : Prop} (h : b = false) (q : Q) : Br b P Q := ⟨fun z => (by rw [h] at z; cases z), fun _ => q⟩
def Bn (o : Option Rho) (N : Rho → Prop) : Prop := ∃ ρ1, o = some ρ1 ∧ N ρ1
theorem bn {o : Option Rho} {ρ1 : Rho} {N : Rho → Prop} (h : o = some ρ1) (q : N ρ1) : Bn o N := ⟨ρ1, h, q⟩
def Sd (p q : Prop) : Prop := p ∧ q
theorem sd {p q : Prop} (h : p) (g : q) : Sd p q := ⟨h, g⟩
def Wi (o : Option (List Val × (Sto → Prop) × Sto)) (Q : List Val → (Sto → Prop) → Sto → Prop) : Prop := ∃ vs ok S, o = some (vs, ok, S) ∧ Q vs ok S
section
variable {α β : Type} {ρ : Rho} {S : Sto} {f fa fb fc fo fi : EF} {t t' : BF} {ga : AF} {Q : Val → Sto → Prop} {B : Bool → Sto → Prop} {A : List Val → Sto → Prop} {g1 g2 : SF} {N : Rho → Sto → Prop} {R : Val → Sto → Prop} {v : Val} {i : Nat} {p : Pat}
theorem Wp.bind {o : Option (α × Sto)} {k : α × Sto → Option (β × Sto)} {Q : β → Sto → Prop} (h : Wp o fun a S => Wp (k (a, S)) Q) : Wp (o.bind k) Q := by
  obtain ⟨a, S1, e, b, S2, e2, q⟩ := h
  exact ⟨b, S2, by rw [e]; exact e2, q⟩
theorem Wp.imp {o : Option (α × Sto)} {P Q : α → Sto → Prop} (h : Wp o P) (i : ∀ a S, P a S → Q a S) : Wp o Q := by
  obtain ⟨a, S1, e, q⟩ := h
  exact ⟨a, S1, e, i _ _ q⟩
theorem Wp.of {o : Option (α × Sto)} {Q : α → Sto → Prop} {a : α} {S : Sto} (e : o = some (a, S)) (q : Q a S) : Wp o Q := ⟨a, S, e, q⟩
theorem wv (h : ρ[i]? = some (some v)) (q : Q v S) : Wp (eV i ρ S) Q := ⟨v, S, by unfold eV; rw [h], q⟩
theorem wc (q : Q v S) : Wp (eC v ρ S) Q := ⟨v, S, rfl, q⟩
theorem wB {g : Val → Val → Sto → Option (Val × Sto)} (h : Wp (fa ρ S) fun x S1 => Wp (fb ρ S1) fun y S2 => Wp (g x y S2) Q) : Wp (eB g fa fb ρ S) Q := Wp.bind (h.imp fun a S h => Wp.bind h)
theorem wU {g : Val → Sto → Option (Val × Sto)} (h : Wp (fa ρ S) fun x S1 => Wp (g x S1) Q) : Wp (eU g fa ρ S) Q := Wp.bind h
theorem wT (h : Wp (f ρ S) fun v S1 => Tb v fun b => B b S1) : Wp (eT f ρ S) B := Wp.bind (h.imp fun a S ⟨b, e, q⟩ => by subst e; exact ⟨b, S, rfl, q⟩)
theorem wbA (h : Wp (t ρ S) fun b S1 => Br b (Wp (t' ρ S1) B) (B false S1)) : Wp (bAnd t t' ρ S) B := Wp.bind (h.imp fun b S h => by
  cases b with
  | true => exact h.1 rfl
  | false => exact ⟨_, _, rfl, h.2 rfl⟩)
theorem wbO (h : Wp (t ρ S) fun b S1 => Br b (B true S1) (Wp (t' ρ S1) B)) : Wp (bOr t t' ρ S) B := Wp.bind (h.imp fun b S h => by
  cases b with
  | true => exact ⟨_, _, rfl, h.1 rfl⟩
  | false => exact h.2 rfl)
theorem wbN (h : Wp (t ρ S) fun b S1 => B (!b) S1) : Wp (bNot t ρ S) B := Wp.bind (h.imp fun b S h => ⟨_, _, rfl, h⟩)
theorem wbY (h : B true S) : Wp (bYes ρ S) B := ⟨_, _, rfl, h⟩
theorem weA (h : Wp (fa ρ S) fun v S1 => Tb v fun b => Br b (Wp (fb ρ S1) Q) (Q (.bl false) S1)) : Wp (eAnd fa fb ρ S) Q := Wp.bind (h.imp fun a S ⟨b, e, h⟩ => by
  subst e
  cases b with
  | true => exact h.1 rfl
  | false => exact ⟨_, _, rfl, h.2 rfl⟩)
theorem weO (h : Wp (fa ρ S) fun v S1 => Tb v fun b => Br b (Q (.bl true) S1) (Wp (fb ρ S1) Q)) : Wp (eOr fa fb ρ S) Q := Wp.bind (h.imp fun a S ⟨b, e, h⟩ => by
  subst e
  cases b with
  | true => exact ⟨_, _, rfl, h.1 rfl⟩
  | false => exact h.2 rfl)
theorem weN (h : Wp (fa ρ S) fun v S1 => Tb v fun b => Q (.bl (!b)) S1) : Wp (eNot fa ρ S) Q := Wp.bind (h.imp fun a S ⟨b, e, h⟩ => by
  subst e
  exact ⟨_, _, rfl, h⟩)
theorem weI (h : Wp (t ρ S) fun b S1 => Br b (Wp (fa ρ S1) Q) (Wp (fb ρ S1) Q)) : Wp (eIf t fa fb ρ S) Q := Wp.bind (h.imp fun b S h => by
  cases b with
  | true => exact h.1 rfl
  | false => exact h.2 rfl)
theorem weCh {g g' : Val → Val → Sto → Option (Val × Sto)} (h : Wp (fa ρ S) fun x S1 => Wp (fb ρ S1) fun y S2 => Wp (g x y S2) fun z S3 => Tb z fun b => Br b (Wp (fc ρ S3) fun w S4 => Wp (g' y w S4) Q) (Q (.bl false) S3)) : Wp (eCh g g' fa fb fc ρ S) Q :=
  Wp.bind (h.imp fun x S1 h => Wp.bind (h.imp fun y S2 h => Wp.bind (h.imp fun z S3 ⟨b, e, h⟩ => by
    subst e
    cases b with
    | true => exact Wp.bind (h.1 rfl)
    | false => exact ⟨_, _, rfl, h.2 rfl⟩)))
theorem wa0 (h : A [] S) : Wp (aNil ρ S) A := ⟨_, _, rfl, h⟩
theorem wa1 (h : Wp (f ρ S) fun v S1 => Wp (ga ρ S1) fun vs S2 => A (v :: vs) S2) : Wp (aCons f ga ρ S) A := Wp.bind (h.imp fun x S1 h => Wp.bind (h.imp fun y S2 h => ⟨_, _, rfl, h⟩))
theorem wTup (h : Wp (ga ρ S) fun vs S1 => Sd (vs.length ≤ 1000000) (Q (.tup vs) S1)) : Wp (eTup ga ρ S) Q := Wp.bind (h.imp fun x S1 h => ⟨_, _, if_pos h.1, h.2⟩)

def Nw (S : Sto) (o : Ob) (Q : Val → Sto → Prop) : Prop := ∀ (T : Sto) (r : Nat), r = S.length → T.length = S.length + 1 → T[r]? = some o → Kn S T → Q (.ref r) T
theorem Nw.use {o : Ob} (h : Nw S o Q) : Q (.ref S.length) (S ++ [o]) := h _ _ rfl (by simp) (by simp) (Kn.app _ _)
theorem wLst (h : Wp (ga ρ S) fun vs S1 => Sd (vs.length ≤ 1000000) (Nw S1 (.lst vs) Q)) : Wp (eLst ga ρ S) Q := Wp.bind (h.imp fun x S1 h => ⟨_, _, if_pos h.1, h.2.use⟩)
theorem wDic (h : Nw S (.dic []) Q) : Wp (eDic ρ S) Q := ⟨_, _, rfl, h.use⟩
theorem wCall {g : List Val → Sto → Option (Val × Sto)} (h : Wp (ga ρ S) fun vs S1 => Wp (g vs S1) Q) : Wp (eCall g ga ρ S) Q := Wp.bind h
theorem wDef {F : FA} {n : Nat} (h : Wp (ga ρ S) fun vs S1 => Sd (vs.length = n) (Wp (F vs S1) Q)) : Wp (eDef F n ga ρ S) Q := Wp.bind (h.imp fun x S1 h => by
  show Wp (if x.length = n then F x S1 else none) Q
  rw [if_pos h.1]
  exact h.2)
theorem wMt {ok : Val → Sto → Bool} {g : Val → List Val → Sto → Option (Val × Sto)} (h : Wp (fo ρ S) fun x S1 => Sd (ok x S1 = true) (Wp (ga ρ S1) fun vs S2 => Wp (g x vs S2) Q)) : Wp (eMt ok g fo ga ρ S) Q := Wp.bind (h.imp fun x S1 h => by
  show Wp (if ok x S1 = true then (ga ρ S1).bind fun q => g x q.1 q.2 else none) Q
  rw [if_pos h.1]
  exact Wp.bind h.2)
theorem woN {O : Option Int → Sto → Prop} (h : O none S) : Wp (oN ρ S) O := ⟨_, _, rfl, h⟩
theorem woS {O : Option Int → Sto → Prop} (h : Wp (f ρ S) fun v S1 => Ti v fun i => O (some i) S1) : Wp (oS f ρ S) O := Wp.bind (h.imp fun x S1 ⟨i, e, h⟩ => by
  subst e
  exact ⟨_, _, rfl, h⟩)
theorem wSl {g : Val → Option Int → Option Int → Sto → Option (Val × Sto)} {lo hi : OF} (h : Wp (fa ρ S) fun x S1 => Wp (lo ρ S1) fun a S2 => Wp (hi ρ S2) fun b S3 => Wp (g x a b S3) Q) : Wp (eSl g fa lo hi ρ S) Q := Wp.bind (h.imp fun x S1 h => Wp.bind (h.imp fun y S2 h => Wp.bind h))
variable {x y : Val} {a b : Int}
theorem vI {g : Int → Int → Val} (hx : x = .int a) (hy : y = .int b) (q : Q (g a b) S) : Wp (gI g x y S) Q := by subst hx hy; exact ⟨_, _, rfl, q⟩
theorem vMul (hx : x = .int a) (hy : y = .int b) (q : Q (.int (a * b)) S) (h : CMulW a b) : Wp (gMul x y S) Q := by subst hx hy; exact ⟨_, _, if_pos h, q⟩
theorem vDiv (hx : x = .int a) (hy : y = .int b) (q : Q (.int (a / b)) S) (h : CDivW a b) : Wp (gDiv x y S) Q := by subst hx hy; exact ⟨_, _, if_pos h, q⟩
theorem vMod (hx : x = .int a) (hy : y = .int b) (q : Q (.int (a.fmod b)) S) (h : b ≠ 0) : Wp (gMod x y S) Q := by subst hx hy; exact ⟨_, _, if_pos h, q⟩
theorem vPow (hx : x = .int a) (hy : y = .int b) (q : Q (.int (a ^ b.toNat)) S) (h : CPow a b) : Wp (gPow x y S) Q := by subst hx hy; exact ⟨_, _, if_pos h, q⟩
theorem vAdd (hx : x = .int a) (hy : y = .int b) (q : Q (.int (a + b)) S) : Wp (gAdd x y S) Q := by subst hx hy; exact ⟨_, _, rfl, q⟩
theorem vNeg (hx : x = .int a) (q : Q (.int (-a)) S) : Wp (gNeg x S) Q := by subst hx; exact ⟨_, _, rfl, q⟩
theorem vAbs (hx : x = .int a) (q : Q (.int (if a < 0 then -a else a)) S) : Wp (gAbs [x] S) Q := by subst hx; exact ⟨_, _, rfl, q⟩
theorem vEq {c : Bool} (h : eqS x y = some c) (q : Q (.bl c) S) : Wp (gEq x y S) Q := ⟨_, _, by simp only [gEq, eqA, h]; rfl, q⟩
theorem vNe {c : Bool} (h : eqS x y = some c) (q : Q (.bl (!c)) S) : Wp (gNe x y S) Q := ⟨_, _, by simp only [gNe, eqA, h]; rfl, q⟩
theorem vIs (hy : y = .non) (q : Q (.bl (isNon x)) S) : Wp (gIs x y S) Q := by subst hy; exact ⟨_, _, rfl, q⟩
theorem vIsN (hy : y = .non) (q : Q (.bl (!isNon x)) S) : Wp (gIsN x y S) Q := by subst hy; exact ⟨_, _, rfl, q⟩
theorem vIxL {n : Nat} {i : Int} {vs : List Val} (hx : x = .ref n) (hy : y = .int i) (h : S[n]? = some (.lst vs)) (e : atI vs i = some v) (q : Q v S) : Wp (gIxA x y S) Q := by subst hx hy; exact ⟨v, S, by simp only [gIxA, gIx, h, e, Option.map_some], q⟩
theorem vIxT {i : Int} {vs : List Val} (hx : x = .tup vs) (hy : y = .int i) (e : atI vs i = some v) (q : Q v S) : Wp (gIxA x y S) Q := by subst hx hy; exact ⟨v, S, by simp only [gIxA, gIx, e, Option.map_some], q⟩
theorem vIxD {n : Nat} {k : Key} {kvs : List (Key × Val)} (hx : x = .ref n) (h : S[n]? = some (.dic kvs)) (hk : AL.keyOf y = some k) (e : valA kvs k = some v) (q : Q v S) : Wp (gIxA x y S) Q := by subst hx; exact ⟨v, S, by simp only [gIxA, h, hk, e, Option.map_some], q⟩
theorem isL_of {n : Nat} {vs : List Val} (h : S[n]? = some (.lst vs)) : isL (.ref n) S = true := by simp only [isL, h]
theorem vLenT {vs : List Val} (hx : x = .tup vs) (q : Q (.int vs.length) S) : Wp (gLen [x] S) Q := by subst hx; exact ⟨_, _, rfl, q⟩
theorem vLenL {n : Nat} {vs : List Val} (hx : x = .ref n) (h : S[n]? = some (.lst vs)) (q : Q (.int vs.length) S) : Wp (gLen [x] S) Q := by subst hx; exact ⟨_, S, by simp only [gLen, h], q⟩
theorem vTupL {n : Nat} {vs : List Val} (hx : x = .ref n) (h : S[n]? = some (.lst vs)) (q : Q (.tup vs) S) : Wp (gTuple [x] S) Q := by subst hx; exact ⟨_, S, by simp only [gTuple, h], q⟩
theorem vIn {n : Nat} {neg : Bool} {k : Key} {kvs : List (Key × Val)} (hy : y = .ref n) (h : S[n]? = some (.dic kvs)) (hk : AL.keyOf x = some k) (q : Q (.bl (if neg then !(valA kvs k).isSome else (valA kvs k).isSome)) S) : Wp (gIn neg x y S) Q := by subst hy; exact ⟨_, S, by simp only [gIn, h, hk], q⟩

def Pt (S : Sto) (n : Nat) (o : Ob) (Q : Sto → Prop) : Prop := ∀ T : Sto, T.length = S.length → T[n]? = some o → Kx n S T → Q T
theorem Pt.use {n : Nat} {o o' : Ob} {Q : Sto → Prop} (h : Pt S n o Q) (hn : S[n]? = some o') : Q (S.set n o) := h _ (by simp) (by rw [List.getElem?_set_self (List.getElem?_eq_some_iff.mp hn).1]) Kx.put
theorem vApp {n : Nat} {vs : List Val} (hx : x = .ref n) (h : S[n]? = some (.lst vs)) (q : Pt S n (.lst (vs ++ [v])) (Q .non)) (hl : vs.length < sizeLine) : Wp (gApp x [v] S) Q := by subst hx; exact ⟨.non, _, by simp only [gApp, h, if_pos hl], q.use h⟩
theorem small {n : Nat} (h : n < 1000000) : n < sizeLine := Nat.lt_of_lt_of_le h (by decide)
theorem vGet1 (h : Wp (fo ρ S) fun o S1 => ∃ n kvs, o = .ref n ∧ S1[n]? = some (.dic kvs) ∧ Wp (fi ρ S1) fun x S2 => ∃ kvs k, S2[n]? = some (.dic kvs) ∧ AL.keyOf x = some k ∧ Q ((valA kvs k).getD .non) S2) : Wp (eGet1 fo fi ρ S) Q := Wp.bind (h.imp fun o S1 ⟨n, kvs, e, h1, h2⟩ => by
  subst e
  simp only [h1]
  refine Wp.bind (h2.imp fun x S2 ⟨kvs, k, h3, h4, q⟩ => ?_)
  simp only [h3, h4]
  exact ⟨_, _, rfl, q⟩)
theorem vGet2 {fx : EF} (h : Wp (fo ρ S) fun o S1 => ∃ n kvs, o = .ref n ∧ S1[n]? = some (.dic kvs) ∧ Wp (fi ρ S1) fun x S2 => Wp (fx ρ S2) fun y S3 => ∃ kvs k, S3[n]? = some (.dic kvs) ∧ AL.keyOf x = some k ∧ Q ((valA kvs k).getD y) S3) : Wp (eGet2 fo fi fx ρ S) Q := Wp.bind (h.imp fun o S1 ⟨n, kvs, e, h1, h2⟩ => by
  subst e
  simp only [h1]
  refine Wp.bind (h2.imp fun x S2 h3 => ?_)
  refine Wp.bind (h3.imp fun y S3 ⟨kvs, k, h4, h5, q⟩ => ?_)
  simp only [h4, h5]
  exact ⟨_, _, rfl, q⟩)
theorem ws_seq (h : Ws (g1 ρ S) (fun ρ S => Ws (g2 ρ S) N R) R) : Ws (sSeq g1 g2 ρ S) N R := by
  obtain ⟨h⟩ := h
  unfold sSeq
  cases e : g1 ρ S with
  | nx _ _ => rw [e] at h; exact h
  | rt _ _ => rw [e] at h; exact ⟨h⟩
  | stuck => rw [e] at h; exact h.elim
  | bk _ _ => rw [e] at h; exact h.elim
  | ct _ _ => rw [e] at h; exact h.elim
theorem ws_nil (h : N ρ S) : Ws (sNil ρ S) N R := ⟨h⟩
theorem ws_expr (h : Wp (f ρ S) fun _ S => N ρ S) : Ws (sExpr f ρ S) N R := by
  obtain ⟨a, S1, e, q⟩ := h
  unfold sExpr
  rw [e]
  exact ⟨q⟩
theorem ws_ret (h : Wp (f ρ S) R) : Ws (sRet f ρ S) N R := by
  obtain ⟨a, S1, e, q⟩ := h
  unfold sRet
  rw [e]
  exact ⟨q⟩
theorem ws_if (h : Wp (t ρ S) fun b S1 => Br b (Ws (g1 ρ S1) N R) (Ws (g2 ρ S1) N R)) : Ws (sIf t g1 g2 ρ S) N R := by
  obtain ⟨b, S1, e, q⟩ := h
  unfold sIf
  rw [e]
  cases b with
  | true => exact q.1 rfl
  | false => exact q.2 rfl
theorem ws_asg (h : Wp (f ρ S) fun v S1 => Bn (p.bind v ρ) fun ρ1 => N ρ1 S1) : Ws (sAsg p f ρ S) N R := by
  obtain ⟨v, S1, e, ρ1, e1, q⟩ := h
  unfold sAsg
  rw [e]
  show Ws (match p.bind v ρ with
    | some ρ => .nx ρ S1
    | none => .stuck) N R
  rw [e1]
  exact ⟨q⟩
theorem ws_par {is : List Nat} (h : Wp (ga ρ S) fun vs S1 => Bn (Pat.binds (is.map Pat.nm) vs ρ) fun ρ1 => N ρ1 S1) : Ws (sPar is ga ρ S) N R := by
  obtain ⟨v, S1, e, ρ1, e1, q⟩ := h
  unfold sPar
  rw [e]
  show Ws (match Pat.binds (is.map Pat.nm) v ρ with
    | some ρ => .nx ρ S1
    | none => .stuck) N R
  rw [e1]
  exact ⟨q⟩
theorem ws_sub {g : Val → Val → Val → Sto → Option Sto} (h : Wp (f ρ S) fun v S1 => Wp (fo ρ S1) fun o S2 => Wp (fi ρ S2) fun i S3 => ∃ S4, g o i v S3 = some S4 ∧ N ρ S4) : Ws (sSub g fo fi f ρ S) N R := by
  obtain ⟨v, S1, e1, o, S2, e2, i, S3, e3, S4, e4, q⟩ := h
  unfold sSub
  simp only [e1, e2, e3, e4]
  exact ⟨q⟩
theorem vPut {n : Nat} {x : Val} {k : Key} {v : Val} {N : Sto → Prop} {kvs : List (Key × Val)} (h : S[n]? = some (.dic kvs)) (hk : AL.keyOf x = some k) (q : Pt S n (.dic (putA kvs k v)) N) (hl : kvs.length < sizeLine) : ∃ T, gSetA (.ref n) x v S = some T ∧ N T := ⟨_, by simp only [gSetA, h, hk, if_pos hl], q.use h⟩
theorem vPutL {n j : Nat} {i : Int} {v : Val} {N : Sto → Prop} {vs : List Val} (h : S[n]? = some (.lst vs)) (hj : ixN vs.length i = some j) (q : Pt S n (.lst (vs.set j v)) N) : ∃ T, gSetA (.ref n) (.int i) v S = some T ∧ N T := ⟨_, by simp only [gSetA, gSet, h, hj], q.use h⟩
theorem ws_for {fi : IF} {g : SF} (h : Wi (fi ρ S) fun vs ok S1 => Ws (forR p g ok vs ρ S1) N R) : Ws (sFor p fi g ρ S) N R := by
  obtain ⟨vs, ok, S1, e, h⟩ := h
  unfold sFor
  rw [e]
  exact h
theorem wf {n : Nat} {g : SF} {vs : List Val} (h : Ws (g (vs.map some ++ List.replicate (n - vs.length) none) S) (fun _ S => Q .non S) Q) : Wp (runF n g vs S) Q := by
  unfold runF
  generalize g (vs.map some ++ List.replicate (n - vs.length) none) S = r at h
  obtain ⟨h⟩ := h
  cases r with
  | nx ρ S => exact ⟨_, _, rfl, h⟩
  | rt v S => exact ⟨_, _, rfl, h⟩
  | stuck => exact h.elim
  | bk _ _ => exact h.elim
  | ct _ _ => exact h.elim
theorem ws_loop {g : SF} {ok : Sto → Prop} {vs : List Val} (I : Nat → Rho → Sto → Prop) (h0 : I 0 ρ S) (hok : ∀ i ρ S, i ≤ vs.length → I i ρ S → ok S)
    (step : ∀ i v ρ S, vs[i]? = some v → I i ρ S → Bn (p.bind v ρ) fun ρ1 => Ws (g ρ1 S) (I (i + 1)) R) (post : ∀ ρ S, I vs.length ρ S → N ρ S) : Ws (forR p g ok vs ρ S) N R := by
  have go : ∀ (k : Nat) (ρ : Rho) (S : Sto), k ≤ vs.length → I k ρ S → Ws (forR p g ok (vs.drop k) ρ S) N R := by
    intro k
    induction hn : vs.length - k generalizing k with
    | zero =>
      intro ρ S hk h
      have e : k = vs.length := by omega
      subst e
      rw [List.drop_length, forR_nil (hok _ _ _ hk h)]
      exact ⟨post _ _ h⟩
    | succ n ih =>
      intro ρ S hk h
      have l : k < vs.length := by omega
      rw [List.drop_eq_getElem_cons l]
      obtain ⟨ρ1, h1, h2⟩ := step k vs[k] ρ S (List.getElem?_eq_getElem l) h
      rw [forR_cons (hok _ _ _ hk h) h1]
      obtain ⟨h2⟩ := h2
      cases e : g ρ1 S with
      | nx ρ2 S2 =>
        rw [e] at h2
        exact ih (k + 1) (by omega) ρ2 S2 (by omega) h2
      | rt v S2 => rw [e] at h2; exact ⟨h2⟩
      | stuck => rw [e] at h2; exact h2.elim
      | bk _ _ => rw [e] at h2; exact h2.elim
      | ct _ _ => rw [e] at h2; exact h2.elim
  have := go 0 ρ S (Nat.zero_le _) h0
  rwa [List.drop_zero] at this

theorem wiT {X : List Val → (Sto → Prop) → Sto → Prop} {f : EF} (h : Wp (f ρ S) fun v S1 => (∃ vs, v = .tup vs ∧ X vs (fun _ => True) S1) ∨ ∃ n vs, v = .ref n ∧ S1[n]? = some (.lst vs) ∧ X vs (fun S => S[n]? = some (.lst vs)) S1) : Wi (iSeq f ρ S) X := by
  obtain ⟨v, S1, e, h⟩ := h
  rcases h with ⟨vs, rfl, h⟩ | ⟨n, vs, rfl, h1, h⟩
  · exact ⟨_, _, _, by unfold iSeq; rw [e]; rfl, h⟩
  · exact ⟨_, _, _, by unfold iSeq; rw [e]; simp only [Option.bind_some, h1], h⟩
theorem wiR {X : List Val → (Sto → Prop) → Sto → Prop} (h : Wp (ga ρ S) fun vs S1 => ∃ j, vs = [.int j] ∧ X (rangeV 0 j.toNat) (fun _ => True) S1 ∧ -(2 ^ 62) ≤ j ∧ j < 2 ^ 62) : Wi (iRg1 ga ρ S) X := by
  obtain ⟨v, S1, e, j, rfl, h, h1, h2⟩ := h
  exact ⟨_, _, _, by unfold iRg1; rw [e]; exact if_pos ⟨h1, h2⟩, h⟩
theorem wiR2 {X : List Val → (Sto → Prop) → Sto → Prop} (h : Wp (ga ρ S) fun vs S1 => ∃ i j, vs = [.int i, .int j] ∧ X (rangeV i (j - i).toNat) (fun _ => True) S1 ∧ -(2 ^ 62) ≤ i ∧ i < 2 ^ 62 ∧ -(2 ^ 62) ≤ j ∧ j < 2 ^ 62) : Wi (iRg2 ga ρ S) X := by
  obtain ⟨v, S1, e, i, j, rfl, h, h1⟩ := h
  exact ⟨_, _, _, by unfold iRg2; rw [e]; exact if_pos h1, h⟩
theorem wiE {X : List Val → (Sto → Prop) → Sto → Prop} (h : Wp (ga ρ S) fun vs S1 => (∃ ws, vs = [.tup ws] ∧ X (enumV ws) (fun _ => True) S1) ∨ ∃ n ws, vs = [.ref n] ∧ S1[n]? = some (.lst ws) ∧ X (enumV ws) (fun S => S[n]? = some (.lst ws)) S1) : Wi (iEn ga ρ S) X := by
  obtain ⟨v, S1, e, h⟩ := h
  rcases h with ⟨vs, rfl, h⟩ | ⟨n, vs, rfl, h1, h⟩
  · exact ⟨_, _, _, by unfold iEn; rw [e]; rfl, h⟩
  · exact ⟨_, _, _, by unfold iEn; rw [e]; simp only [Option.bind_some, h1], h⟩

theorem wLc {fi : IF} {own : List Nat} (h : Wi (fi ρ S) fun vs ok S1 => Wp (lcR p t f ok (wipeR ρ own) vs [] S1) fun ys S2 => Nw S2 (.lst ys) Q) : Wp (eLc p fi t f own ρ S) Q := by
  obtain ⟨vs, ok, S1, e, h⟩ := h
  unfold eLc
  rw [e]
  exact Wp.bind (h.imp fun ys S2 h => ⟨_, _, rfl, h.use⟩)

theorem lc_pure {ok : Sto → Prop} {vs : List Val} (b : Val → Bool) (g : Val → Val) (hok : ok S) (hl : vs.length < 1000000)
    (h : ∀ v ∈ vs, Bn (p.bind v ρ) fun ρ1 => Wp (t ρ1 S) fun c T => c = b v ∧ T = S ∧ (b v = true → Wp (f ρ1 S) fun y T => y = g v ∧ T = S)) (q : A ((vs.filter b).map g) S) : Wp (lcR p t f ok ρ vs [] S) A := by
  have := lcR_pure (p := p) (t := t) (f := f) (ok := ok) (ρ := ρ) (S := S) hok b g vs [] (by simpa using hl) fun v hv => by
    obtain ⟨ρ1, h1, c, T, h2, rfl, rfl, h3⟩ := h v hv
    refine ⟨ρ1, h1, h2, fun hb => ?_⟩
    obtain ⟨y, T2, h4, rfl, rfl⟩ := h3 hb
    exact h4
  exact ⟨_, _, this, by simpa using q⟩

theorem lc_inv {ok : Sto → Prop} {vs : List Val} (I : Nat → List Val → Sto → Prop) (hl : vs.length < 900000) (h0 : I 0 [] S) (hok : ∀ i a S, i ≤ vs.length → I i a S → ok S) (hlen : ∀ i a S, I i a S → a.length ≤ i)
    (step : ∀ i v a S, vs[i]? = some v → I i a S → Bn (p.bind v ρ) fun ρ1 => Wp (t ρ1 S) fun c S1 => Br c (Wp (f ρ1 S1) fun y S2 => I (i + 1) (a ++ [y]) S2) (I (i + 1) a S1))
    (q : ∀ a S, I vs.length a S → A a S) : Wp (lcR p t f ok ρ vs [] S) A := by
  have := lcR_run (p := p) (t := t) (f := f) (ok := ok) (ρ := ρ) (S := S) (fun i a S => i ≤ vs.length ∧ I i a S) hl (fun i a S h => hok i a S h.1 h.2) (fun i a S h => hlen i a S h.2) ⟨Nat.zero_le _, h0⟩ fun i v a S hv h => by
    have hi := (List.getElem?_eq_some_iff.mp hv).1
    obtain ⟨ρ1, h1, c, S1, h2, h3, h4⟩ := step i v a S hv h.2
    refine ⟨ρ1, h1, ?_⟩
    cases c with
    | true =>
      obtain ⟨y, S2, h5, h6⟩ := h3 rfl
      exact .inl ⟨S1, y, S2, h2, h5, hi, h6⟩
    | false => exact .inr ⟨S1, h2, hi, h4 rfl⟩
  obtain ⟨a, S1, e, _, h⟩ := this
  exact ⟨a, S1, e, q a S1 h⟩

end
theorem Kn.at {S T : Sto} (k : Kn S T) {n : Nat} {o : Ob} (h : S[n]? = some o) : T[n]? = some o := k n o h
theorem Kx.at {x : Nat} {S T : Sto} (k : Kx x S T) {n : Nat} {o : Ob} (hn : n ≠ x) (h : S[n]? = some o) : T[n]? = some o := k n o hn h
theorem lt_of_at {S : Sto} {n : Nat} {o : Ob} (h : S[n]? = some o) : n < S.length := (List.getElem?_eq_some_iff.mp h).1
end AL
namespace AL
open PySem PySem.Spec PyProof.Rows L2 G Th
variable [TT]
section
variable {ρ : Rho} {S : Sto} {ga gk : AF} {Q : Val → Sto → Prop}
theorem wDefK {F : FA} {n m : Nat} {gA : List Val → List Val → List Val} (h : Wp (ga ρ S) fun vs S1 => Wp (gk ρ S1) fun ws S2 => Sd (vs.length = n ∧ ws.length = m) (Wp (F (gA vs ws) S2) Q)) : Wp (eDefK F n m gA ga gk ρ S) Q := Wp.bind (h.imp fun x S1 h => Wp.bind (h.imp fun y S2 h => by
  show Wp (if x.length = n ∧ y.length = m then F (gA x y) S2 else none) Q
  rw [if_pos h.1]
  exact h.2))
theorem vIsi {x : Val} {T a : String} {b : Bool} (ht : tyN x S = some a) (hk : L2.kitB a T = some b) (q : Q (.bl b) S) : Wp (gIsi T x S) Q := ⟨_, _, by simp only [gIsi, ht, Option.bind_some, hk, Option.map_some], q⟩
theorem vIsT {x y : Val} {a b : Bool} (hx : x = .bl a) (hy : y = .bl b) (q : Q (.bl (decide (a = b))) S) : Wp (gIsT x y S) Q := by subst hx hy; exact ⟨_, _, rfl, q⟩
theorem vIsNT {x y : Val} {a b : Bool} (hx : x = .bl a) (hy : y = .bl b) (q : Q (.bl (!decide (a = b))) S) : Wp (gIsNT x y S) Q := by subst hx hy; exact ⟨_, _, rfl, q⟩
theorem vCatL {x y : Val} {n m : Nat} {vs ws : List Val} (hx : x = .ref n) (hy : y = .ref m) (h : S[n]? = some (.lst vs)) (h' : S[m]? = some (.lst ws)) (hl : vs.length + ws.length ≤ 1000000) (q : Nw S (.lst (vs ++ ws)) Q) : Wp (gAdd x y S) Q := by
  subst hx hy
  exact ⟨_, _, by simp only [gAdd, h, h', if_pos (mill hl)], q.use⟩
theorem wiZ {X : List Val → (Sto → Prop) → Sto → Prop} (h : Wp (ga ρ S) fun vs S1 => ∃ as bs, vs = [.tup as, .tup bs] ∧ X (zipV as bs) (fun _ => True) S1) : Wi (iZp ga ρ S) X := by
  obtain ⟨v, S1, e, as, bs, rfl, h⟩ := h
  exact ⟨_, _, _, by unfold iZp; rw [e]; rfl, h⟩
end
end AL
namespace AL
open PySem PySem.Spec PyProof.Rows L2 G Th
variable [TT]
def maxI : Int → List Int → Int
  | a, [] => a
  | a, b :: r => maxI (if a < b then b else a) r
section
variable {X : Cx} {K : PySem.W.Frag}
end
section
variable {ρ : Rho} {S : Sto} {Q : Val → Sto → Prop} {N : Rho → Sto → Prop} {R : Val → Sto → Prop}

end
end AL
namespace AL
open PySem PySem.Spec PyProof.Rows L2 G Th
variable [TT]
section
variable {X : Cx} {K : PySem.W.Frag}
end
end AL
namespace AL
open PySem PySem.Spec PyProof.Rows L2 G
variable [TT]
section
variable {X : Cx} {K : PySem.W.Frag}
end
end AL
namespace K47
open PySem PySem.Spec PyProof.Rows L2 G Th AL
open K37 (common_divisor_ common_divisor_B ratio_ ratio_B added_ added_B added_told_ added_told_B less_ less_B parted_ parted_B is_below_ is_below_B least_of_ least_of_B greatest_of_ greatest_of_B drift_of_ drift_of_B moves_into_ moves_into_B moved_end_ moved_end_B ends_told_ ends_told_B kept_pair_ kept_pair_B tapeL_ tapeL_B lowL_ lowL_B plusL_ plusL_B byL_ byL_B is_lessL_ is_lessL_B)
end K47
namespace AL
open PySem PySem.Spec PyProof.Rows L2 G Th
variable [TT]
def xv (c : Str) (vs : List Val) : Val := .tup (.scr [] :: .str c :: vs)
def isX : Val → Option (Str × List Val)
  | .tup (.scr _ :: .str c :: vs) => some (c, vs)
  | _ => none
structure XR (K : PySem.W.Frag) (mg : Str → Option Value) (H : Hp) (m : List Addr) (c : Str) (vs : List Val) (cls : Value) (d : Option Addr) : Prop where
  cl : mg c = some cls
  fl : ∃ (dd : Addr) (fs : List (Str × V)), d = some dd ∧ H dd = some (.xd fs) ∧ ∀ (i : Nat) (n : Str) (v : Val), (xfs c)[i]? = some n → vs[i]? = some v → ∃ u, fs.lookup n = some u ∧ VR K H m u v
def PX (K : PySem.W.Frag) (mg : Str → Option Value) (m : List Addr) (H : Hp) (Q : VK) (Ek : XK) (v : Val) (S : Sto) : Prop := match isX v with
  | some (c, vs) => ∀ m' H' cls d, Ext m H m' H' → Rel K m' S H' → XR K mg H' m' c vs cls d → Ek cls d H'
  | none => ∀ m' u H', Ext m H m' H' → Rel K m' S H' → VR K H' m' u v → Q u H'
def PostX (K : PySem.W.Frag) (mg : Str → Option Value) (m : List Addr) (H : Hp) (D : Ends) (Ek : XK) : Res → Prop
  | .stuck => False
  | .nx ρ S => ∀ m' σ' H', Ext m H m' H' → Rel K m' S H' → RhoR K H' m' ρ σ' → D.nx σ' H'
  | .rt v S => PX K mg m H D.rt Ek v S
  | .bk ρ S => ∀ m' σ' H', Ext m H m' H' → Rel K m' S H' → RhoR K H' m' ρ σ' → D.bk σ' H'
  | .ct ρ S => ∀ m' σ' H', Ext m H m' H' → Rel K m' S H' → RhoR K H' m' ρ σ' → D.ct σ' H'
section
variable {K : PySem.W.Frag} {mg : Str → Option Value} {m m1 : List Addr} {H H1 : Hp} {Q Q' : VK} {Ek : XK} {v : Val} {S : Sto} {D : Ends}
theorem PX.ext (h : PX K mg m H Q Ek v S) (E : Ext m H m1 H1) : PX K mg m1 H1 Q Ek v S := by
  unfold PX at h ⊢
  split
  · next c vs e =>
    rw [e] at h
    exact fun m' H' cls d E' R x => h m' H' cls d (E.trans E') R x
  · next e =>
    rw [e] at h
    exact fun m' u H' E' R x => h m' u H' (E.trans E') R x
theorem PX.no (hx : isX v = none) : PX K mg m H Q Ek v S ↔ ∀ m' u H', Ext m H m' H' → Rel K m' S H' → VR K H' m' u v → Q u H' := by
  unfold PX
  rw [hx]
theorem PX.yes {c : Str} {vs : List Val} (hx : isX v = some (c, vs)) : PX K mg m H Q Ek v S ↔ ∀ m' H' cls d, Ext m H m' H' → Rel K m' S H' → XR K mg H' m' c vs cls d → Ek cls d H' := by
  unfold PX
  rw [hx]
theorem PostX.ext {r : Res} (h : PostX K mg m H D Ek r) (E : Ext m H m1 H1) : PostX K mg m1 H1 D Ek r := by
  cases r with
  | stuck => exact h
  | nx ρ S => exact fun m' σ' H' E' => h m' σ' H' (E.trans E')
  | rt ρ S => exact PX.ext h E
  | bk ρ S => exact fun m' σ' H' E' => h m' σ' H' (E.trans E')
  | ct ρ S => exact fun m' σ' H' E' => h m' σ' H' (E.trans E')
end
def tX (K : PySem.W.Frag) (mg : Str → Option Value) (Ek : XK) (g : SF) : TS := fun D σ H => ∃ m ρ S, Rel K m S H ∧ RhoR K H m ρ σ ∧ PostX K mg m H D Ek (g ρ S)

def tXs (K : PySem.W.Frag) (mg : Str → Option Value) (W : WX) (g : SF) : TS := fun D σ H => ∃ m ρ S, Rel K m S H ∧ RhoR K H m ρ σ ∧ PostX K mg m H D (WE W σ) (g ρ S)
abbrev AX (X : Cx) (Ek : XK) (st : Stmt) (g : SF) : Prop := PS X st (tX X.K X.mg Ek g)
abbrev AXs (X : Cx) (Ek : XK) (sts : List Stmt) (g : SF) : Prop := PSs X sts (tX X.K X.mg Ek g)
abbrev AXw (X : Cx) (W : WX) (st : Stmt) (g : SF) : Prop := PS X st (tXs X.K X.mg W g)

abbrev EW (Ek : XK) : WX := fun cls d _ H => Ek cls d H
section
variable {X : Cx} {Ek : XK} {W : WX} {st : Stmt} {sts rest : List Stmt} {e a b c o i : Expr} {es : List Expr} {pos : Pos} {f fa fb fc : EF} {g g1 g2 : SF} {tb : BF} {K : PySem.W.Frag} {ga : AF}
theorem xw (h : AXw X (EW Ek) st g) : AX X Ek st g := h
theorem xl (h : AS X st g) (hg : ∀ ρ S v S', g ρ S = .rt v S' → isX v = none) : AX X Ek st g := ps_w h fun D σ H z => by
  obtain ⟨m, ρ, S, R, r, p⟩ := z
  refine ⟨m, ρ, S, R, r, ?_⟩
  cases e : g ρ S with
  | nx ρ1 S1 => rw [e] at p; exact p
  | stuck => rw [e] at p; exact p
  | rt v S1 => rw [e] at p; exact (PX.no (hg _ _ _ _ e)).mp p
  | bk v S1 => rw [e] at p; exact p
  | ct v S1 => rw [e] at p; exact p
theorem xsn : AXs X Ek [] sNil := pss_w pss_nil fun D σ H h => by
  obtain ⟨m, ρ, S, R, r, p⟩ := h
  exact p m σ H (.refl _ _) R r
theorem xsq (h1 : AX X Ek st g1) (h2 : AXs X Ek rest g2) : AXs X Ek (st :: rest) (sSeq g1 g2) := pss_w (pss_cons h1 h2) fun D σ H h => by
  obtain ⟨m, ρ, S, R, r, p⟩ := h
  refine ⟨m, ρ, S, R, r, ?_⟩
  unfold sSeq at p
  cases e : g1 ρ S with
  | nx ρ1 S1 =>
    rw [e] at p
    intro m1 σ1 H1 E1 R1 r1
    exact ⟨m1, ρ1, S1, R1, r1, p.ext E1⟩
  | stuck => rw [e] at p; exact p
  | rt v S1 => rw [e] at p; exact p
  | bk v S1 => rw [e] at p; exact p
  | ct v S1 => rw [e] at p; exact p
theorem xs1 (h : AX X Ek st g) : AXs X Ek [st] g := pss_one h
theorem xsi (hc : AT X c tb) (h1 : AXs X Ek sts g1) (h2 : AXs X Ek rest g2) : AX X Ek (.If c sts rest pos) (sIf tb g1 g2) := ps_w (ps_if hc h1 h2) fun D σ H h => by
  obtain ⟨m, ρ, S, R, r, p⟩ := h
  unfold sIf at p
  split at p
  · next S1 e1 => exact ⟨m, ρ, S, true, S1, R, r, e1, fun m1 H1 E1 R1 => ⟨m1, ρ, S1, R1, r.kp (E1.kp R), p.ext E1⟩⟩
  · next S1 e1 => exact ⟨m, ρ, S, false, S1, R, r, e1, fun m1 H1 E1 R1 => ⟨m1, ρ, S1, R1, r.kp (E1.kp R), p.ext E1⟩⟩
  · exact p.elim
theorem nr_asg {p : Pat} : ∀ ρ S v S', sAsg p f ρ S = .rt v S' → isX v = none := fun ρ S v S' h => by
  unfold sAsg at h
  split at h
  · split at h <;> cases h
  · cases h
theorem nr_expr : ∀ ρ S v S', sExpr f ρ S = .rt v S' → isX v = none := fun ρ S v S' h => by
  unfold sExpr at h
  split at h <;> cases h
theorem nr_sub {gs : Val → Val → Val → Sto → Option Sto} : ∀ ρ S v S', sSub gs fa fb fc ρ S = .rt v S' → isX v = none := fun ρ S v S' h => by
  unfold sSub at h
  split at h
  · split at h
    · split at h
      · split at h <;> cases h
      · cases h
    · cases h
  · cases h
def sRetN (f : EF) : SF := fun ρ S => match f ρ S with
  | some (v, S) => match isX v with
    | none => .rt v S
    | some _ => .stuck
  | none => .stuck
theorem xsr (he : AE X e f) : AX X Ek (.Return (some e) pos) (sRetN f) := ps_w (ps_ret he) fun D σ H h => by
  obtain ⟨m, ρ, S, R, r, p⟩ := h
  unfold sRetN at p
  split at p
  · next v S1 e1 =>
    split at p
    · next hx => exact ⟨m, ρ, S, v, S1, R, r, e1, (PX.no hx).mp p⟩
    · exact p.elim
  · exact p.elim
def tFx (K : PySem.W.Frag) (mg : Str → Option Value) (W : WX) (f : EF) : TE := fun σ H Q => ∃ m ρ S v S', Rel K m S H ∧ RhoR K H m ρ σ ∧ f ρ S = some (v, S') ∧ PX K mg m H Q (WE W σ) v S'
abbrev AEX (X : Cx) (W : WX) (e : Expr) (f : EF) : Prop := PE X e (tFx X.K X.mg W f)
theorem xsrX (he : AEX X W e f) : AXw X W (.Return (some e) pos) (sRet f) := ps_w (ps_ret he) fun D σ H h => by
  obtain ⟨m, ρ, S, R, r, p⟩ := h
  unfold sRet at p
  split at p
  · next v S1 e1 => exact ⟨m, ρ, S, v, S1, R, r, e1, p⟩
  · exact p.elim
def sExprX (f : EF) : SF := fun ρ S => match f ρ S with
  | some (v, S) => match isX v with
    | none => .nx ρ S
    | some _ => .rt v S
  | none => .stuck
theorem xsx (he : AEX X W e f) (hs : swapsWith e none pos.line X.env = pure false := by rfl) : AXw X W (.Expr e pos) (sExprX f) := ps_w (ps_expr he hs) fun D σ H h => by
  obtain ⟨m, ρ, S, R, r, p⟩ := h
  unfold sExprX at p
  split at p
  · next v S1 e1 =>
    refine ⟨m, ρ, S, v, S1, R, r, e1, ?_⟩
    split at p
    · next hx => exact (PX.no hx).mpr fun m1 u H1 E1 R1 r1 => p m1 σ H1 E1 R1 (r.kp (E1.kp R))
    · next hx => exact (PX.yes hx).mpr ((PX.yes hx).mp p)
  · exact p.elim
def sAsgX (q : Pat) (f : EF) : SF := fun ρ S => match f ρ S with
  | some (v, S) => match isX v with
    | none => match q.bind v ρ with
      | some ρ => .nx ρ S
      | none => .stuck
    | some _ => .rt v S
  | none => .stuck
theorem xss {i : Nat} {x : Str} {pos' : Pos} (hN : X.N.Nodup) (hi : X.N[i]? = some x) (hx : Loc X.env.scope x) (he : AEX X W e f) (hs : swapsWith e (some (.Name x pos')) pos.line X.env = pure false := by rfl) (hf : X.fn x = true ∨ X.env.scope.names.lookup x = some .local := by first | exact .inl rfl | exact .inr rfl | assumption) :
    AXw X W (.Assign [.Name x pos'] e pos) (sAsgX (.nm i) f) := ps_w (ps_set hN hi hx he hs hf) fun D σ H h => by
  obtain ⟨m, ρ, S, R, r, p⟩ := h
  unfold sAsgX at p
  split at p
  · next v S1 e1 =>
    refine ⟨m, ρ, S, v, S1, R, r, e1, ?_⟩
    split at p
    · next hx =>
      simp only [Pat.bind] at p
      exact (PX.no hx).mpr fun m1 u H1 E1 R1 r1 => p m1 _ H1 E1 R1 ((r.kp (E1.kp R)).set r1 i)
    · next hx => exact (PX.yes hx).mpr ((PX.yes hx).mp p)
  · exact p.elim
end
structure FnX (P : Program) (w : World) (K : PySem.W.Frag) (mg : Str → Option Value) (base : Heap) (k : Nat) (f : Addr) (fd : FuncData) (ps : List Str) (sp : Sp) : Prop where
  len : ∀ vs H Q E, sp vs H Q E → vs.length = ps.length
  run : ∀ (A : Around) (outer : List Env) (s : Shared) (H : Hp) (args : Args) (us : List Value) (vs : List V) (Q : VK) (E : XK),
    A.guards = some [] → Room k A → Env0 P w K mg base A outer s H → BindsTo s fd args (ps.zip us) → Vals vs us → sp vs H Q E →
      codeAny (model P w) A (.call (.ref f) args) (CR (CX P w) outer P w H s Q E) s

theorem fn_x {P : Program} {w : World} {K : PySem.W.Frag} {mg : Str → Option Value} {base : Heap} {x qual : Str} {st : Stmt} {f : Addr} {fd : FuncData} {N ps : List Str} {k : Nat} {sp : Sp}
    (F : Fun K x qual st f fd) (S : FnScope N ps (defScope st)) (len : ∀ vs H Q E, sp vs H Q E → vs.length = ps.length)
    (body : ∀ (cdv : Value) (A : Around) (outer : List Env) (s : Shared) (H : Hp) (vs : List V) (Q : VK) (E : XK), A.guards = some [] →
      Room k (A.deeper (envOfC qual (defScope st) s.heap.objs.size f cdv)) → sp vs H Q E →
      ∃ t, PSs (cxOf (CX P w) P w K mg base N qual (defScope st) f cdv A outer s H E)  (defBody st) t ∧ t { nx := fun _ H' => Q .non H', rt := Q } (start N vs) H) :
    FnX P w K mg base (k + 1) f fd ps sp := by
  obtain ⟨oc, od, kV, doc, pm, an, cdv, ct, osl, rfl, lk, hcd⟩ := F.ex
  refine ⟨len, ?_⟩
  intro A outer s H args us vs Q E g hr e0 hb r hsp
  have up : ∀ b o, base.get? b = some o → s.heap.get? b = some o := fun b o e => (e0.bs b o e).1
  have KX : K.In s.heap := e0.mod.kin.keeps up
  refine codeAny_call_function hr.depth (KX _ _ lk) rfl S.co S.gen rfl (PySem.W.codeRec_of KX hcd) (hb _ _ _ _ ?_)
  refine wpAny_newFunctionEnv_cells S.kind ?_ ?_
  · rintro ⟨n, v⟩ hy
    cases S.par n (List.of_mem_zip hy).1 with
    | inl q => exact .inl q
    | inr q => exact .inr ⟨q, PySem.W.cellsFrom_some _ _ _ (.inl q)⟩
  · rintro env rfl s1 x
    refine ⟨(e0.mod.nolimit.keeps up).keeps x.toInCall.keep, codeAny_func ?_⟩
    obtain ⟨t, ht, hq⟩ := body cdv A outer s H vs Q E g (hr.deeper _) hsp
    have I := inv_start (CX := (CX P w)) (E := E) S hr.hd e0 (len _ _ _ _ hsp) r x
    refine wpAny_mono (ht.run [] s1 (start N vs) H _ I hq) ?_ (fun e s' hs => hs)
    intro fl s' hs
    match fl, hs with
    | .ret u, ⟨v, σ', H', J, rv, q⟩ => exact ⟨v, H', J.os, J.bare, J.base, J.hok, rv, q⟩
    | .next, ⟨σ', H', J, q⟩ => exact ⟨.non, H', J.os, J.bare, J.base, J.hok, rfl, q⟩
    | .brk, ⟨_, _, _, q⟩ => exact False.elim q
    | .cont, ⟨_, _, _, q⟩ => exact False.elim q
def spX (K : PySem.W.Frag) (mg : Str → Option Value) (n : Nat) (F : FA) : Sp := fun us H Q Ek => us.length = n ∧ ∃ m S vs v S', Rel K m S H ∧ VRs K H m us vs ∧ F vs S = some (v, S') ∧ PX K mg m H Q Ek v S'
theorem fn_aX {P : Program} {w : World} {K : PySem.W.Frag} {mg : Str → Option Value} {base : Heap} {x qual : Str} {st : Stmt} {f : Addr} {fd : FuncData} {N ps : List Str} {k : Nat} {g : SF}
    (F : Fun K x qual st f fd) (S : FnScope N ps (defScope st))
    (body : ∀ (cdv : Value) (A : Around) (outer : List Env) (s : Shared) (H : Hp) (Ek : XK), A.guards = some [] →
      Room k (A.deeper (envOfC qual (defScope st) s.heap.objs.size f cdv)) → Takes (cxOf (CX P w) P w K mg base N qual (defScope st) f cdv A outer s H Ek) (EW Ek) →
      PassesOwn (model P w) (cxOf (CX P w) P w K mg base N qual (defScope st) f cdv A outer s H Ek).A (cxOf (CX P w) P w K mg base N qual (defScope st) f cdv A outer s H Ek).env (cxOf (CX P w) P w K mg base N qual (defScope st) f cdv A outer s H Ek).xe →
      AXs (cxOf (CX P w) P w K mg base N qual (defScope st) f cdv A outer s H Ek) Ek (defBody st) g) {n : Nat} (hn : N.length = n := by rfl) :
    FnX P w K mg base (k + 1) f fd ps (spX K mg ps.length (runF n g)) := by
  subst hn
  refine fn_x F S (fun vs H Q E h => h.1) (fun cdv A outer s H us Q E hg hr h => ⟨_, body cdv A outer s H E hg hr (takes_of rfl rfl rfl rfl) (passes_of rfl), ?_⟩)
  obtain ⟨hl, m, S0, vs, v, S', R, r, e, q⟩ := h
  refine ⟨m, _, S0, R, rho_start N r, ?_⟩
  unfold runF at e
  split at e
  · next v' S1 e1 =>
    cases e
    rw [e1]
    exact q
  · next v' S1 e1 =>
    cases e
    rw [e1]
    exact fun m' σ' H' E' R' r' => (PX.no rfl).mp q m' .non H' E' R' .non
  · cases e
section
variable {X : Cx} {W : WX} {k : Nat} {f : Addr} {fd : FuncData} {ps : List Str} {sp : Sp} {x : Str} {p pos : Pos} {e : Expr} {es : List Expr} {t : TA} {ga : AF}
theorem run_x {pins : List (Addr × Obj)} {σ : L2.St} {H : Hp} {s : Shared} {Q : VK} {us : List Value} {vs : List V}
    (F : FnX X.prog X.w X.K X.mg X.base k f fd ps sp) (g : X.A.guards = some []) (hr : Room k X.A) (hb : Binds X.K fd ps []) (tk : Takes X W)
    (I : Inv X pins σ H s) (r : Vals vs us) (h : sp vs H Q (WE W σ)) :
    wpAny (model X.prog X.w) X.A (call (.ref f) us) (EP X pins σ Q) X.xe s := by
  have n1 : us.length = ps.length := r.length.symm.trans (F.len vs H Q _ h)
  have b1 := hb s us I.kIn ((congrArg List.length (List.append_nil us)).trans n1)
  rw [List.append_nil] at b1
  refine wpAny_call (codeAny_mono (F.run X.A X.stack s H ⟨us, []⟩ us vs Q _ g hr I.env0 b1 r h) ?_)
  intro res s' c
  match res, c with
  | .error e, c => exact passAt tk σ pins H s e s' I c
  | .ok (.ret _), c => exact I.after c
  | .ok .next, c => exact False.elim c
  | .ok .brk, c => exact False.elim c
  | .ok .cont, c => exact False.elim c
end
end AL
namespace AL
open PySem PySem.Spec PyProof.Rows L2 G Th

structure OexA (K : PySem.W.Frag) (C : Addr) : Prop where
  cls : ∃ (B newId initId : String) (bmB : List Value) (nm q : Str) (N : Addr) (bs bm : List Value) (sn : List Str) (sub : List Value) (ab : Bool) (col : Option Bool) (dd : Option Addr) (k0 k1 k2 k3 k5 : Option Value),
    K.lookup C = some (excClassObj nm q C N bs bm true sn sub ab col dd k0 k1 k2 k3 k5 newId) ∧ PySem.W.excTail bmB bm = true ∧ ExcBaseFacts B newId initId bmB ∧ StoreFacts B bmB "object.__setattr__" "object"
  saC : PySem.W.findIn K (.ref C) "__setattr__" = some (some (.builtin "object.__setattr__"))
  beC : PySem.W.subIn K (.ref C) (.type "BaseException") = some true
  ttC : PySem.W.typeIn K (.ref C) = some (.type "type")
  keC : PySem.W.keepIn K (.ref C) = true

structure OexL (K : PySem.W.Frag) (C : Addr) : Prop where
  cls : ∃ (nm q : Str) (N : Addr) (bs bm : List Value) (sn : List Str) (sub : List Value) (ab : Bool) (col : Option Bool) (dd : Option Addr) (k0 k1 k2 k3 k5 : Option Value),
    K.lookup C = some (excClassObj nm q C N bs bm true sn sub ab col dd k0 k1 k2 k3 k5 "LookupError.__new__") ∧ PySem.W.excTail [.type "LookupError", .type "Exception", .type "BaseException", .type "object"] bm = true
  sa : PySem.W.findIn K (.ref C) "__setattr__" = some (some (.builtin "object.__setattr__"))
  be : PySem.W.subIn K (.ref C) (.type "BaseException") = some true
  tt : PySem.W.typeIn K (.ref C) = some (.type "type")
  ke : PySem.W.keepIn K (.ref C) = true
theorem OexL.a {K : PySem.W.Frag} {C : Addr} (T : OexL K C) : OexA K C := by
  obtain ⟨⟨nm, q, N, bs, bm, sn, sub, ab, col, dd, k0, k1, k2, k3, k5, e, t⟩, h1, h2, h3, h4⟩ := T
  exact ⟨⟨_, _, _, _, nm, q, N, bs, bm, sn, sub, ab, col, dd, k0, k1, k2, k3, k5, e, t, F.excBase_LookupError, F.store_LookupError⟩, h1, h2, h3, h4⟩
theorem tail_VE : ∀ l : List Value, PySem.HandSPX.refsVE l = true → PySem.W.excTail PySem.HandSPX.veTail l = true
  | [], z => by cases z
  | a :: r, z => by
    rcases PySem.HandSPX.refsVE_cases _ z with ⟨c, r2, e, z2⟩ | e
    · cases e
      exact tail_VE r z2
    · rw [e]
      decide +kernel
theorem oexA_VE {K : PySem.W.Frag} {C : Addr} (T : OexC K C) : OexA K C := by
  obtain ⟨⟨nm, q, N, bs, bm, sn, sub, ab, col, dd, k0, k1, k2, k3, k5, e, t⟩, h1, h2, h3, h4⟩ := T
  exact ⟨⟨_, _, _, _, nm, q, N, bs, bm, sn, sub, ab, col, dd, k0, k1, k2, k3, k5, e, tail_VE _ t, F.excBase_ValueError, F.store_ValueError⟩, h1, h2, h3, h4⟩
instance {K : PySem.W.Frag} {C : Addr} : Coe (OexC K C) (OexA K C) := ⟨oexA_VE⟩
instance {K : PySem.W.Frag} {C : Addr} : Coe (OexL K C) (OexA K C) := ⟨OexL.a⟩
section
open Builtin Builtin.ObjectAttr PySem.W
variable {prog : Program} {w : World} {A : Around} {K : PySem.W.Frag} {C x : Addr} {g : Array GenState} {d : Drawn} {t : Nat} {os : OsState} {hp : Heap} {fl : Str} {tk : Tok} {v : Value} {fv : Array Value}
theorem taker_no (h : PySem.W.findIn K (.ref C) fl = some none) : PySem.W.takerIn K C fl = some none := by
  unfold PySem.W.takerIn
  rw [h]
  rfl
theorem OexA.got (T : OexA K C) : ∃ (B newId initId : String) (bmB : List Value) (cd : ClassData), PySem.W.clsIn K C = some cd ∧ cd.hasDict = true ∧ PySem.W.excOver K C bmB = true ∧ StoreFacts B bmB "object.__setattr__" "object" := by
  obtain ⟨B, newId, initId, bmB, nm, q, N, bs, bm, sn, sub, ab, col, dd, k0, k1, k2, k3, k5, e, t, _, SF⟩ := T.cls
  have c : PySem.W.clsIn K C = some { name := nm, bases := bs, mro := .ref C :: bm, ns := N, qualname := q, hasDict := true, slotNames := sn, subclasses := sub, abstract := ab, collection := col, hasDel := false } := by
    unfold PySem.W.clsIn
    rw [e] <;> rfl
  refine ⟨B, newId, initId, bmB, _, c, rfl, ?_, SF⟩
  unfold PySem.W.excOver
  rw [c]
  simp [t]

theorem first_field {R : Result → Shared → Prop} (T : OexA K C) (kn : K.In hp) (hx : hp.get? x = some { cls := .ref C, data := .fields fv }) (no : PySem.W.findIn K (.ref C) fl = some none)
    (q : ∀ (h2 : Heap) (t2 : Nat) (y : Addr), (∀ b o, b ≠ x → hp.get? b = some o → h2.get? b = some o) → hp.objs.size ≤ y → y ≠ x → h2.get? x = some { cls := .ref C, dict := some y, data := .fields fv } → h2.Ns1 y (fun z => if z = fl then some v else none) → R (.ok (.ret .none)) ⟨h2, g, d, t2, os⟩) :
    codeAny (model prog w) A (.call (.builtin "object.__setattr__") ⟨[.ref x, .str fl tk, v], []⟩) R ⟨hp, g, d, t, os⟩ := by
  obtain ⟨B, newId, initId, bmB, cd, hc, hh, hov, SF⟩ := T.got
  have lk : PySem.W.Looks (model prog w) hp (classData C) cd := PySem.W.looks_clsIn kn hc
  have apart : x ≠ hp.objs.size := Nat.ne_of_lt (Heap.lt_size hx)
  refine PySem.W.osa_openX (s := ⟨hp, g, d, t, os⟩) SF kn (ox := { cls := .ref C, data := .fields fv }) (od := none) ⟨hx, rfl, rfl, trivial⟩ hov (taker_no no) fun b => ?_
  show wpAny _ _ (storeInOwnDict (.ref x) (.ref C) (.str fl tk) fl v b) _ _ _
  obtain ⟨c1, c2, c3, c4, c5, c6, c7, c8, c9, c10, c11⟩ := cd
  obtain rfl : c6 = true := hh
  unfold storeInOwnDict ownDictForStores
  repeat (first | with_reducible refine PySem.HandSPX.store_in_new ?e ?n | with_reducible refine wpAny_loadPart_at hx ?_ | with_reducible refine lk.at ?_ | wp_step)
  case e => exact ⟨_, #[], _, (Heap.get?_update_ne _ _ _ _ (Ne.symm apart)).trans (Heap.get?_push_at rfl rfl), rfl, fun z hz => by simp at hz, fun _ => rfl⟩
  case n =>
    intro h2 t2 n2 same
    have there : (hp.push { cls := .type "dict", data := .dict #[] }).get? x = some { cls := .ref C, data := .fields fv } := Heap.get?_push_of_some _ hx
    refine q h2 t2 hp.objs.size (fun b o nb hb => ?_) (Nat.le_refl _) (Ne.symm apart) ((same.2 x apart).trans (Heap.get?_update_self _ there rfl)) n2
    have lb : b ≠ hp.objs.size := Nat.ne_of_lt (Heap.lt_size hb)
    exact ((same.2 b lb).trans (Heap.get?_update_ne _ _ _ _ nb)).trans (Heap.get?_push_of_some _ hb)

theorem later_field {R : Result → Shared → Prop} {y : Addr} {m0 : Str → Option Value} {nl : List Str} {oD : Obj} (T : OexA K C) (kn : K.In hp) (hx : hp.get? x = some { cls := .ref C, dict := some y, data := .fields fv }) (ns : hp.Ns1 y m0) (hw : Within m0 nl) (hz : nl.length ≤ 1000) (hoD : hp.get? y = some oD) (no : PySem.W.findIn K (.ref C) fl = some none)
    (q : ∀ (h2 : Heap) (t2 : Nat), (∀ b o, b ≠ y → hp.get? b = some o → h2.get? b = some o) → h2.Ns1 y (fun z => if z = fl then some v else m0 z) → R (.ok (.ret .none)) ⟨h2, g, d, t2, os⟩) :
    codeAny (model prog w) A (.call (.builtin "object.__setattr__") ⟨[.ref x, .str fl tk, v], []⟩) R ⟨hp, g, d, t, os⟩ := by
  obtain ⟨B, newId, initId, bmB, cd, hc, hh, hov, SF⟩ := T.got
  have lk : PySem.W.Looks (model prog w) hp (classData C) cd := PySem.W.looks_clsIn kn hc
  refine PySem.W.osa_openX (s := ⟨hp, g, d, t, os⟩) SF kn (ox := { cls := .ref C, dict := some y, data := .fields fv }) (od := some oD) ⟨hx, rfl, rfl, hoD⟩ hov (taker_no no) fun b => ?_
  show wpAny _ _ (storeInOwnDict (.ref x) (.ref C) (.str fl tk) fl v b) _ _ _
  obtain ⟨c1, c2, c3, c4, c5, c6, c7, c8, c9, c10, c11⟩ := cd
  obtain rfl : c6 = true := hh
  unfold storeInOwnDict ownDictForStores
  repeat (first | with_reducible refine PySem.OEX.store_in_old ns hw hz ?n | with_reducible refine wpAny_loadPart_at hx ?_ | with_reducible refine lk.at ?_ | wp_step)
  case n =>
    intro h2 t2 n2 same
    exact q h2 t2 (fun b o nb hb => (same.2 b nb).trans hb) n2
end
section
variable {X : Cx} {pins : List (Addr × Obj)} {σ : L2.St} {H : Hp} {s : Shared} {a C dx : Addr} {f : Str} {y : V} {u : Value} {fs : List (Str × V)} {Q : Unit → Shared → Prop} {E : Value → Shared → Prop} {A : Around}
theorem new_field (T : OexA X.K C) (I : Inv X pins σ H s) (e : H a = some (exo a C none)) (no : PySem.W.findIn X.K (.ref C) f = some none) (ry : RelV y u)
    (go : ∀ dx s2, H dx = none → dx ≠ a → Inv X pins σ (upd (upd H dx (exd dx [(f, y)])) a (exo a C (some dx))) s2 → Q () s2) : wpAny (model X.prog X.w) A (setAttr (.ref a) f u) Q E s := by
  obtain ⟨t1, there⟩ := exo_at I.hok e
  obtain ⟨hp, g, d, t, os⟩ := s
  refine PySem.W.set_plain I.kIn (ox := { cls := .ref C, dict := none, data := .fields #[.ref t1, .none, .none, .none, .bool false, .none] }) (od := none) ⟨there, rfl, rfl, trivial⟩ T.saC ?_
  refine first_field T I.kIn there no fun h2 t2 dx stay new apart hx ns => ?_
  have fresh : H dx = none := I.hok.fresh new
  refine go dx _ fresh apart ?_
  -- the dict laid, then the object written
  let old : Obj := { cls := .ref C, dict := none, data := .fields #[.ref t1, .none, .none, .none, .bool false, .none] }
  have i1 : (h2.update a fun _ => old).get? a = some old := Heap.get?_update_self (fun _ => old) hx rfl
  have i2 : ∀ b, b ≠ a → (h2.update a fun _ => old).get? b = h2.get? b := fun b nb => Heap.get?_update_other _ _ (Ne.symm nb)
  have J := I.laid (t' := t2) (a := dx) (o := exd dx [(f, y)]) (h' := h2.update a fun _ => old) (fun b o hb => by
      by_cases z : b = a
      · rw [z] at hb ⊢
        rw [i1]
        exact there.symm.trans hb
      · rw [i2 b z]
        exact stay b o z hb) new (exd_ok (ns.at fun o z => (i2 dx apart).trans z) (relO_put (fs := []) ry fun _ => True.intro))
  have ea : upd H dx (exd dx [(f, y)]) a = some (exo a C none) := (upd_ne (Ne.symm apart)).trans e
  exact J.write (t' := t2) (x := a) (e := a) (o := exo a C (some dx)) (by rw [ea]; exact True.intro) (.inl rfl) (fun b o nb hb => (i2 b nb).symm.trans hb) ⟨_, hx⟩ (exo_ok hx)
theorem more_field (T : OexA X.K C) (I : Inv X pins σ H s) (e : H a = some (exo a C (some dx))) (ed : H dx = some (exd dx fs)) (few : fs.length ≤ 900) (no : PySem.W.findIn X.K (.ref C) f = some none) (ry : RelV y u)
    (go : ∀ s2, Inv X pins σ (upd H dx (exd dx ((f, y) :: fs))) s2 → Q () s2) : wpAny (model X.prog X.w) A (setAttr (.ref a) f u) Q E s := by
  obtain ⟨t1, there⟩ := exo_at I.hok e
  obtain ⟨mA, ns, rel⟩ := exd_at I.hok ed
  have hw := within_of rel
  obtain ⟨hp, g, d, t, os⟩ := s
  obtain ⟨oD, _, _, hoD, _, _⟩ := ns.count hw
  refine PySem.W.set_plain I.kIn (ox := { cls := .ref C, dict := some dx, data := .fields #[.ref t1, .none, .none, .none, .bool false, .none] }) (od := some oD) ⟨there, rfl, rfl, hoD⟩ T.saC ?_
  refine later_field T I.kIn there ns hw (by rw [List.length_map]; omega) hoD no fun h2 t2 stay ns2 => ?_
  have hd : ∃ o, h2.get? dx = some o := by
    obtain ⟨o, _, _, z, _⟩ := ns2
    exact ⟨o, z⟩
  exact go _ (I.write (t' := t2) (x := dx) (e := dx) (o := exd dx ((f, y) :: fs)) (by rw [ed]; exact True.intro) (.inl rfl) stay hd (exd_ok ns2 (relO_put ry rel)))
end

def tOstA (K : PySem.W.Frag) (f : Str) (to te : TE) : TS := fun D σ H => te σ H fun y H1 => to σ H1 fun x H2 => ∃ a C : Addr, x = .ref a ∧ OexA K C ∧ PySem.W.findIn K (.ref C) f = some none ∧
  ((H2 a = some (exo a C none) ∧ ∀ dx, H2 dx = none → dx ≠ a → D.nx σ (upd (upd H2 dx (exd dx [(f, y)])) a (exo a C (some dx)))) ∨ ∃ (dx : Addr) (fs : List (Str × V)), H2 a = some (exo a C (some dx)) ∧ H2 dx = some (exd dx fs) ∧ fs.length ≤ 900 ∧ D.nx σ (upd H2 dx (exd dx ((f, y) :: fs))))
section
variable {X : Cx} {o e : Expr} {es : List Expr} {to te : TE} {ta : TA} {f : Str} {p p' p1 p2 pos : Pos}
theorem ps_ostA (ho : PE X o to) (he : PE X e te) (hs : swapsWith e (some (.Attribute o f p')) pos.line X.env = pure false := by rfl) : PS X (.Assign [.Attribute o f p'] e pos) (tOstA X.K f to te) := by
  refine ⟨fun pins s σ H D I h => plainObj_wpAny_Assign_Attribute (thn (he.run pins s σ H _ I h) fun v s1 z => ?_) hs⟩
  obtain ⟨y, H1, I1, r1, q1⟩ := z
  refine thn (ho.run pins s1 σ H1 _ I1 q1) fun u s2 z => ?_
  obtain ⟨_, H2, I2, r2, a, C, rfl, T, no, q⟩ := z
  obtain rfl : u = Value.ref a := r2
  rcases q with ⟨ea, q⟩ | ⟨dx, fs, ea, ed, few, q⟩
  · exact new_field T I2 ea no r1 fun dx s2 n apart J => ⟨σ, _, J, q dx n apart⟩
  · exact more_field T I2 ea ed few no r1 fun s2 J => ⟨σ, _, J, q⟩

theorem pmk_oexA {CX : CXT} {x : Str} {C fI : Addr} {k : Nat} {fd : FuncData} {ps : List Str} {sp : Sp} {ds : List Value} {dvs : List V} (T : OexA X.K C) (iC : PySem.W.findIn X.K (.ref C) "__init__" = some (some (.ref fI))) (tI : PySem.W.typeIn X.K (.ref fI) = some (.type "function"))
    (F1 : FnOk X.prog X.w X.K X.mg X.base CX k fI fd ps sp) (hr : Room (k + 1) X.A) (hb : Binds X.K fd ps ds) (hd : Vals dvs ds) (pass : Passes CX X (fun _ _ _ => False)) (hg : Gl X x) (hm : X.mg x = some (.ref C)) (ha : PA X (e :: es) ta)
    (hdb : (x == ("__debug__" : Str)) = false := by decide) (he : starEach (e :: es) X.env = (false, eval e X.env) :: starEach es X.env := by rfl) (hpl : (backTo pos (starEach es X.env)).any (·.1) = false := by rfl) :
    PMk X (.Call (.Name x p) (e :: es) [] pos) (tMkO C sp dvs ta) := by
  intro pins s0 σ H Q I0 h
  obtain ⟨B, newId, initId, bmB, nm, q, N, bs, bm, sn, sub, ab, col, dd, k0, k1, k2, k3, k5, cl, tl, EB, _⟩ := T.cls
  refine wpAny_Call_Name_kw (ld_glob I0 hg hm ?_ hdb)
  refine PySem.W.callWith_K (h₀ := X.base) I0.ok.mod.kin T.keC (thn (ha.run pos pins s0 σ H _ I0 h) fun us s1 z => ?_) he hpl
  obtain ⟨vs, H1, I1, r1, few, q1⟩ := z
  refine ⟨I1.kIn, ?_⟩
  show wpAny _ _ (call (.ref C) us) _ _ _
  obtain ⟨h1, g1, d1, t1, os1⟩ := s1
  let h2 := (h1.push (PySem.W.kdv_tup us)).push (PySem.HandSPX.excO C h1.objs.size)
  have keep : ∀ b o, h1.get? b = some o → h2.get? b = some o := fun b o z => Heap.get?_push_of_some _ (Heap.get?_push_of_some _ z)
  have self : h2.get? (h1.objs.size + 1) = some (PySem.HandSPX.excO C h1.objs.size) := by
    show ((h1.push (PySem.W.kdv_tup us)).push (PySem.HandSPX.excO C h1.objs.size)).get? _ = _
    heap_get
  have beyond : h1.objs.size ≤ h1.objs.size + 1 := Nat.le_succ _
  have q2 := q1 _ (I1.hok.fresh beyond)
  have I2 := I1.laid (t' := t1) (a := h1.objs.size + 1) (o := exo (h1.objs.size + 1) C none) (h' := h2) keep beyond (exo_ok self)
  have rel : Vals (.ref (h1.objs.size + 1) :: (vs ++ dvs)) (Value.ref (h1.objs.size + 1) :: (us ++ ds)) := .cons rfl (r1.append hd)
  have many : (Value.ref (h1.objs.size + 1) :: us ++ ds).length = ps.length := by
    have z := rel.length
    rw [F1.len _ _ _ _ q2] at z
    exact z.symm
  have line : us.length ≤ sizeLine := by
    rw [← r1.length, sizeLine_eq]
    omega
  have run := F1.run _ X.stack _ _ ⟨Value.ref (h1.objs.size + 1) :: us, []⟩ _ _ _ (fun _ _ _ => False) (hr.make C us []) (I2.env0.make C us []) (hb _ (Value.ref (h1.objs.size + 1) :: us) I2.kIn many) rel q2
  refine wpAny_call (PySem.HandSPX.call_own EB (fun Y => PySem.W.excTail_contains Y bm tl) (I1.kIn _ _ cl) (PySem.W.looks_findIn I1.kIn iC) (fun z => PySem.W.bind_fn I1.kIn z tI) line (codeAny_mono run ?_))
  intro r s2 z
  match r, z with
  | .error er, z => exact pass pins σ _ _ er s2 I2 z
  | .ok (.ret u), z =>
    obtain ⟨_, H2, o2, bare, un, hok2, rv, rfl, d, fs, ea, ed, n1, q3⟩ := z
    obtain ⟨h3, g3, d3, t3, os3⟩ := s2
    exact ⟨rv, mk_end (raises_own T.beC T.ttC) I1 beyond keep un hok2 o2 bare ea ed n1 q3⟩
  | .ok .next, z => exact z.elim
  | .ok .brk, z => exact z.elim
  | .ok .cont, z => exact z.elim
end
end AL
namespace AL
open PySem PySem.Spec PyProof.Rows L2 G Th
variable [TT]
def spI1 (C : Addr) (f1 : Str) : Sp := fun us H Q _ => ∃ a y, us = [.ref a, y] ∧ H a = some (exo a C none) ∧ ∀ dx, H dx = none → dx ≠ a → Q .non (upd (upd H dx (exd dx [(f1, y)])) a (exo a C (some dx)))
def spI2 (C : Addr) (f1 f2 : Str) : Sp := fun us H Q _ => ∃ a y z, us = [.ref a, y, z] ∧ H a = some (exo a C none) ∧ ∀ dx, H dx = none → dx ≠ a → Q .non (upd (upd (upd H dx (exd dx [(f1, y)])) a (exo a C (some dx))) dx (exd dx [(f2, z), (f1, y)]))
structure KnX (P : Program) (w : World) (K : PySem.W.Frag) (mg : Str → Option Value) (base : Heap) (c : Str) : Prop where
  ex : ∃ (C fI : Addr) (fd : FuncData), OexA K C ∧ PySem.W.findIn K (.ref C) "__init__" = some (some (.ref fI)) ∧ PySem.W.typeIn K (.ref fI) = some (.type "function") ∧ mg c = some (.ref C) ∧
    ((∃ f1, xfs c = [f1] ∧ FnOk P w K mg base CX0 1 fI fd ["self", f1] (spI1 C f1) ∧ Binds K fd ["self", f1] []) ∨
      ∃ f1 f2, xfs c = [f1, f2] ∧ f1 ≠ f2 ∧ FnOk P w K mg base CX0 1 fI fd ["self", f1, f2] (spI2 C f1 f2) ∧ Binds K fd ["self", f1, f2] [])
def sRaise (c : Str) (ga : AF) : SF := fun ρ S => match ga ρ S with
  | some (vs, S) => if vs.length = (xfs c).length then .rt (xv c vs) S else .stuck
  | none => .stuck
theorem land {H1 H2 : Hp} {a dx : Addr} {o : HO} (ha : H1 a = none) (h : ∀ b, b ≠ a → b ≠ dx → H2 b = H1 b) (ne : dx ≠ a) : upd (del H2 a) dx o = upd H1 dx o := by
  funext b
  by_cases z : b = dx
  · subst z
    rw [upd_same, upd_same]
  · rw [upd_ne z, upd_ne z]
    by_cases y : b = a
    · subst y
      rw [del_same, ha]
    · rw [del_ne y, h b y z]
theorem asraise {X : Cx} {Ek : XK} {c : Str} {e : Expr} {es : List Expr} {p pos pos2 : Pos} {ga : AF} (tk : Takes X (EW Ek)) (C : KnX X.prog X.w X.K X.mg X.base c) (hr : Room 2 X.A) (hc : X.calm = true) (hg : Gl X c) (ha : AA X (e :: es) ga)
    (hdb : (c == ("__debug__" : Str)) = false := by decide) (he : starEach (e :: es) X.env = (false, eval e X.env) :: starEach es X.env := by rfl) (hpl : (backTo pos (starEach es X.env)).any (·.1) = false := by rfl) :
    AX X Ek (.Raise (some (.Call (.Name c p) (e :: es) [] pos)) none pos2) (sRaise c ga) := by
  obtain ⟨C, fI, fd, T, iC, tI, hm, h⟩ := C.ex
  rcases h with ⟨f1, hx, F1, hb⟩ | ⟨f1, f2, hx, hne, F1, hb⟩
  · refine ps_w (ps_raise hc tk (pmk_oexA (dvs := []) T iC tI F1 hr hb .nil pass0 hg hm ha hdb he hpl)) fun D σ H z => ?_
    obtain ⟨m, ρ, S, R, r, q⟩ := z
    unfold sRaise at q
    split at q
    · next vs S1 e1 =>
      split at q
      · next hl =>
        have q : PX X.K X.mg m H D.rt Ek (xv c vs) S1 := q
        have q := (PX.yes (v := xv c vs) (c := c) (vs := vs) rfl).mp q
        rw [hx] at hl
        refine ⟨m, ρ, S, vs, S1, R, r, e1, fun m1 us H1 E1 R1 r1 => ⟨by rw [r1.len, hl]; simp, fun a ha => ?_⟩⟩
        match vs, hl, us, r1 with
        | [v], _, [u], .cons ru .nil =>
          refine ⟨a, u, rfl, upd_same, fun dx hdx ne => ⟨rfl, dx, _, upd_same, (upd_ne ne).trans upd_same, (upd_ne ne).symm.trans hdx, ?_⟩⟩
          have hd0 : H1 dx = none := (upd_ne ne).symm.trans hdx
          rw [land ha (fun b h1 h2 => by rw [upd_ne h1, upd_ne h2, upd_ne h1]) ne]
          obtain ⟨R2, E2⟩ := R1.tmp (o := .xd [(f1, u)]) hd0
          refine q m1 _ _ _ (E1.trans E2) R2 ⟨hm, dx, _, rfl, upd_same, fun i n w h1 h2 => ?_⟩
          rw [hx] at h1
          match i, h1, h2 with
          | 0, h1, h2 =>
            cases h1
            cases h2
            exact ⟨u, by simp [List.lookup], ru.kp (E2.kp R1)⟩
      · exact q.elim
    · exact q.elim
  · refine ps_w (ps_raise hc tk (pmk_oexA (dvs := []) T iC tI F1 hr hb .nil pass0 hg hm ha hdb he hpl)) fun D σ H z => ?_
    obtain ⟨m, ρ, S, R, r, q⟩ := z
    unfold sRaise at q
    split at q
    · next vs S1 e1 =>
      split at q
      · next hl =>
        have q : PX X.K X.mg m H D.rt Ek (xv c vs) S1 := q
        have q := (PX.yes (v := xv c vs) (c := c) (vs := vs) rfl).mp q
        rw [hx] at hl
        refine ⟨m, ρ, S, vs, S1, R, r, e1, fun m1 us H1 E1 R1 r1 => ⟨by rw [r1.len, hl]; simp, fun a ha => ?_⟩⟩
        match vs, hl, us, r1 with
        | [v, v2], _, [u, u2], .cons ru (.cons ru2 .nil) =>
          refine ⟨a, u, u2, rfl, upd_same, fun dx hdx ne => ⟨rfl, dx, _, (upd_ne (Ne.symm ne)).trans upd_same, upd_same, (upd_ne ne).symm.trans hdx, ?_⟩⟩
          have hd0 : H1 dx = none := (upd_ne ne).symm.trans hdx
          rw [land ha (fun b h1 h2 => by rw [upd_ne h2, upd_ne h1, upd_ne h2, upd_ne h1]) ne]
          obtain ⟨R2, E2⟩ := R1.tmp (o := .xd [(f2, u2), (f1, u)]) hd0
          refine q m1 _ _ _ (E1.trans E2) R2 ⟨hm, dx, _, rfl, upd_same, fun i n w h1 h2 => ?_⟩
          rw [hx] at h1
          match i, h1, h2 with
          | 0, h1, h2 =>
            cases h1
            cases h2
            exact ⟨u, by rw [lookup_put, if_neg hne, lookup_put, if_pos rfl], ru.kp (E2.kp R1)⟩
          | 1, h1, h2 =>
            cases h1
            cases h2
            exact ⟨u2, by rw [lookup_put, if_pos rfl], ru2.kp (E2.kp R1)⟩
      · exact q.elim
    · exact q.elim
theorem init1 {P : Program} {w : World} {K : PySem.W.Frag} {mg : Str → Option Value} {base : Heap} {qual f1 : Str} {st : Stmt} {f C : Addr} {fd : FuncData} (F : Fun K "__init__" qual st f fd) (S : FnScope ["self", f1] ["self", f1] (defScope st)) (T : OexA K C) (hno : PySem.W.findIn K (.ref C) f1 = some none)
    {p1 p2 p3 p4 : Pos} (hb : defBody st = [.Assign [.Attribute (.Name "self" p1) f1 p2] (.Name f1 p3) p4])
    (v0 : Vis (defScope st) "self") (v1 : Vis (defScope st) f1) (hd : (f1 == ("__debug__" : Str)) = false) (hcd : (f1 == ("__classdict__" : Str)) = false) : FnOk P w K mg base CX0 1 f fd ["self", f1] (spI1 C f1) := by
  obtain ⟨oc, od, kV, doc, pm, an, cdv, ct, osl, rfl, lk, hcd2⟩ := F.ex
  refine fn_of lk hcd2 S (fun vs H Q E h => by obtain ⟨a, y, rfl, _⟩ := h; rfl) (fun A outer s H vs Q E hr h => ?_)
  rw [hb]
  refine ⟨_, pss_one (ps_ostA (pe_var (i := 0) rfl v0) (pe_var (i := 1) rfl v1 hd hcd)), ?_⟩
  obtain ⟨a, y, rfl, ha, q⟩ := h
  refine ⟨y, rfl, .ref a, rfl, a, C, rfl, T, hno, .inl ⟨ha, fun dx h1 h2 => q dx h1 h2⟩⟩
theorem init2 {P : Program} {w : World} {K : PySem.W.Frag} {mg : Str → Option Value} {base : Heap} {qual f1 f2 : Str} {st : Stmt} {f C : Addr} {fd : FuncData} (F : Fun K "__init__" qual st f fd) (S : FnScope ["self", f1, f2] ["self", f1, f2] (defScope st)) (T : OexA K C) (hno : PySem.W.findIn K (.ref C) f1 = some none) (hno2 : PySem.W.findIn K (.ref C) f2 = some none)
    {p1 p2 p3 p4 r1 r2 r3 r4 : Pos} (hb : defBody st = [.Assign [.Attribute (.Name "self" p1) f1 p2] (.Name f1 p3) p4, .Assign [.Attribute (.Name "self" r1) f2 r2] (.Name f2 r3) r4])
    (v0 : Vis (defScope st) "self") (v1 : Vis (defScope st) f1) (v2 : Vis (defScope st) f2) (hd : (f1 == ("__debug__" : Str)) = false) (hcd : (f1 == ("__classdict__" : Str)) = false) (hd2 : (f2 == ("__debug__" : Str)) = false) (hcd' : (f2 == ("__classdict__" : Str)) = false) : FnOk P w K mg base CX0 1 f fd ["self", f1, f2] (spI2 C f1 f2) := by
  obtain ⟨oc, od, kV, doc, pm, an, cdv, ct, osl, rfl, lk, hcd2⟩ := F.ex
  refine fn_of lk hcd2 S (fun vs H Q E h => by obtain ⟨a, y, z, rfl, _⟩ := h; rfl) (fun A outer s H vs Q E hr h => ?_)
  rw [hb]
  refine ⟨_, pss_cons (ps_ostA (pe_var (i := 0) rfl v0) (pe_var (i := 1) rfl v1 hd hcd)) (pss_one (ps_ostA (pe_var (i := 0) rfl v0) (pe_var (i := 2) rfl v2 hd2 hcd'))), ?_⟩
  obtain ⟨a, y, z, rfl, ha, q⟩ := h
  refine ⟨y, rfl, .ref a, rfl, a, C, rfl, T, hno, .inl ⟨ha, fun dx h1 h2 => ?_⟩⟩
  exact ⟨z, rfl, .ref a, rfl, a, C, rfl, T, hno2, .inr ⟨dx, _, upd_same, (upd_ne h2).trans upd_same, by simp, q dx h1 h2⟩⟩
def clsB : Stmt → List Stmt
  | .ClassDef _ _ _ b _ _ _ _ _ _ _ => b
  | _ => []

def noX (F : FA) : FA := fun vs S => (F vs S).bind fun p => match isX p.1 with
  | none => some p
  | some _ => none
theorem fnx_g {P : Program} {w : World} {K : PySem.W.Frag} {mg : Str → Option Value} {base : Heap} {k : Nat} {f : Addr} {fd : FuncData} {ps : List Str} {F : FA} (G : FnX P w K mg base k f fd ps (spX K mg ps.length F)) :
    FnG P w K mg base k f fd ps (spA K ps.length (noX F)) := by
  refine ⟨fun vs H Q E h => h.1, fun A outer s H args us vs Q E hg hr e0 hb r h => ?_⟩
  obtain ⟨hl, m, S, ws, v, S', R, rv, e, q⟩ := h
  obtain ⟨⟨v1, S1⟩, e1, e⟩ := Option.bind_eq_some_iff.mp e
  dsimp only at e
  split at e
  · next hx =>
    cases e
    refine codeAny_mono (G.run A outer s H args us vs Q (fun _ _ _ => False) hg hr e0 hb r ⟨hl, m, S, ws, v, S', R, rv, e1, (PX.no hx).mpr q⟩) ?_
    intro res s' c
    match res, c with
    | .error _, c =>
      obtain ⟨_, _, _, _, _, _, _, _, _, _, _, _, z⟩ := c
      exact z.elim
    | .ok (.ret _), c => exact c
    | .ok .next, c => exact c
    | .ok .brk, c => exact c
    | .ok .cont, c => exact c
  · cases e
def Xs (v : Val) (A B : Prop) : Prop := (isX v = none ∧ A) ∨ (∃ c vs, isX v = some (c, vs) ∧ B)
theorem Xs.no {v : Val} {A B : Prop} (h : isX v = none) (a : A) : Xs v A B := .inl ⟨h, a⟩
theorem Xs.yes {v : Val} {A B : Prop} {c : Str} {vs : List Val} (h : isX v = some (c, vs)) (b : B) : Xs v A B := .inr ⟨c, vs, h, b⟩
section
variable {ρ : Rho} {S : Sto} {f : EF} {ga : AF} {g h : SF} {N : Rho → Sto → Prop} {R : Val → Sto → Prop} {p : Pat} {c : Str}
theorem ws_retN (z : Wp (f ρ S) fun v S1 => Sd (isX v = none) (R v S1)) : Ws (sRetN f ρ S) N R := by
  obtain ⟨v, S1, e, q⟩ := z
  unfold sRetN
  rw [e]
  dsimp only
  rw [q.1]
  exact ⟨q.2⟩
theorem ws_exprX (z : Wp (f ρ S) fun v S1 => Xs v (N ρ S1) (R v S1)) : Ws (sExprX f ρ S) N R := by
  obtain ⟨v, S1, e, q⟩ := z
  unfold sExprX
  rw [e]
  dsimp only
  rcases q with ⟨hx, q⟩ | ⟨c, vs, hx, q⟩ <;> (rw [hx]; exact ⟨q⟩)
theorem ws_asgX (z : Wp (f ρ S) fun v S1 => Xs v (Bn (p.bind v ρ) fun ρ1 => N ρ1 S1) (R v S1)) : Ws (sAsgX p f ρ S) N R := by
  obtain ⟨v, S1, e, q⟩ := z
  unfold sAsgX
  rw [e]
  dsimp only
  rcases q with ⟨hx, ρ1, hb, q⟩ | ⟨c, vs, hx, q⟩
  · rw [hx]
    dsimp only
    rw [hb]
    exact ⟨q⟩
  · rw [hx]
    exact ⟨q⟩
theorem ws_raise (z : Wp (ga ρ S) fun vs S1 => Sd (vs.length = (xfs c).length) (R (xv c vs) S1)) : Ws (sRaise c ga ρ S) N R := by
  obtain ⟨v, S1, e, q⟩ := z
  unfold sRaise
  rw [e]
  dsimp only
  rw [if_pos q.1]
  exact ⟨q.2⟩
theorem wnoX {F : FA} {vs : List Val} {Q : Val → Sto → Prop} (z : Wp (F vs S) fun v S1 => isX v = none ∧ Q v S1) : Wp (noX F vs S) Q := by
  obtain ⟨v, S1, e, hx, q⟩ := z
  refine ⟨v, S1, ?_, q⟩
  unfold noX
  rw [e, Option.bind_some]
  dsimp only
  rw [hx]
end
end AL
namespace AL
open PySem PySem.Spec PyProof.Rows L2 G Th
variable [TT]
section
variable {K : PySem.W.Frag}
end
section
variable {X : Cx} {K : PySem.W.Frag}
noncomputable def gSlA : Val → Option Int → Option Int → Sto → Option (Val × Sto) := fun x lo hi S => match x with
  | .tup vs => some (.tup (cutL vs lo hi), S)
  | _ => gSl x lo hi S
def rSlB (K : PySem.W.Frag) : V → Option Int → Option Int → Hp → VK → Prop := fun x lo hi H Q => L2.rSlA K x lo hi H Q ∨ AL.rSlA K x lo hi H Q
theorem sl_B : SlR X (rSlB X.K) := sl_tupA.or sl_A
theorem cut_whole {α : Type} {vs : List α} {lo hi : Option Int} (h : HT.sIx vs.length 0 lo = 0 ∧ HT.sIx vs.length vs.length hi = vs.length) : cutL vs lo hi = vs := by
  unfold cutL
  rw [h.1, h.2, List.drop_zero, Nat.sub_zero, List.take_of_length_le (Nat.le_refl _)]
theorem oSlA : SlA K (rSlB K) gSlA := by
  intro m S H x lo hi v S' u Q R ru e q
  cases x with
  | tup vs =>
    simp only [gSlA] at e
    cases e
    cases ru with
    | tup ha ra =>
      refine .inl ⟨_, _, rfl, ha.sq, fun hw => ?_, fun hw => newTup R (ra.cut lo hi) q⟩
      rw [ra.len] at hw
      rw [cut_whole hw] at q
      exact q m _ H (.refl _ _) R (.tup ha ra)
  | _ => exact .inr (oSl m S H _ lo hi v S' u Q R ru e q)
end
end AL
namespace K48
open PySem PySem.Spec PyProof.Rows L2 G Th AL
open K37 (common_divisor_ common_divisor_B is_below_ is_below_B least_of_ least_of_B greatest_of_ greatest_of_B tapeL_ tapeL_B lowL_ lowL_B plusL_ plusL_B is_lessL_ is_lessL_B)

end K48
namespace K49
open PySem PySem.Spec PyProof.Rows L2 G Th AL
open K37
end K49
namespace K52
open PySem PySem.Spec PyProof.Rows L2 G Th AL
open K37
open K49
end K52
namespace K51
open PySem PySem.Spec PyProof.Rows L2 G Th AL
open K37
open K49
open K52
end K51
namespace AL
open PySem PySem.Spec PyProof.Rows L2 G Th
end AL
namespace AL
open PySem PySem.Spec PyProof.Rows L2 G Th
end AL
namespace AL
open PySem PySem.Spec PyProof.Rows L2 G
end AL
namespace AL
open PySem PySem.Spec PyProof.Rows L2 G Th
end AL
namespace AL
open PySem PySem.Spec PyProof.Rows L2 G Th
variable [TT]
section
variable {X : Cx} {K : PySem.W.Frag} {pos : Pos} {e : Expr} {f : EF}
end
end AL
namespace AL
open PySem PySem.Spec PyProof.Rows L2 G Th
variable [TT]

section
variable {ρ : Rho} {S : Sto} {Q : Val → Sto → Prop} {f f1 f2 : EF}
end
end AL
namespace AL
open PySem PySem.Spec PyProof.Rows L2 G Th
end AL
namespace G
open PySem PySem.Spec PyProof.Rows L2 LamX
end G
namespace G
open PySem PySem.Spec PyProof.Rows L2 LamX
end G
namespace AL
open PySem PySem.Spec PyProof.Rows L2 G Th LamX
variable [TT]
end AL
namespace AL
open PySem PySem.Spec PyProof.Rows L2 G Th LamX
variable [TT]

def ClsV (mg : Str → Option Value) (C : Str) (v : V) : Prop := (∃ A, mg C = some (.ref A) ∧ v = .ref A) ∨ (mg C = none ∧ ∃ T, bootBuiltins C = some (.type T) ∧ v = .ty T)
def vOf : V → Value
  | .ref a => .ref a
  | .ty n => .type n
  | _ => .none
inductive ClsVs (mg : Str → Option Value) : List Str → List V → Prop
  | nil : ClsVs mg [] []
  | cons {C : Str} {v : V} {Cs : List Str} {vs : List V} : ClsV mg C v → ClsVs mg Cs vs → ClsVs mg (C :: Cs) (v :: vs)
theorem ClsV.rel {mg : Str → Option Value} {C : Str} {v : V} (h : ClsV mg C v) {u : Value} (r : RelV v u) : u = vOf v := by
  rcases h with ⟨A, _, rfl⟩ | ⟨_, T, _, rfl⟩ <;> exact r
theorem ClsVs.rel {mg : Str → Option Value} : ∀ {Cs : List Str} {vs : List V} {us : List Value}, ClsVs mg Cs vs → Vals vs us → us = vs.map vOf
  | _, _, _, .nil, r => by cases r; rfl
  | _, _, _, .cons h t, r => by
    cases r with
    | cons a b => rw [h.rel a, t.rel b]; rfl
section
variable {X : Cx} {a D dd : Addr} {oe : Obj} {pn : List (Addr × Obj)}
variable {c e : Str} {i : Nat} {vs : List Val} {p p1 p2 pos : Pos}
end
section
variable {ρ : Rho} {S : Sto} {N : Rho → Sto → Prop} {R : Val → Sto → Prop} {Q : Val → Sto → Prop} {g : SF} {h : Str → List Val → Val → SF} {cs : List Str} {i : Nat} {fb : EF}
end
end AL
namespace AL
open PySem PySem.Spec PyProof.Rows L2 G Th LamX
variable [TT]
end AL
namespace AL
open PySem PySem.Spec PyProof.Rows L2 G Th
variable [TT]
def putV (f : Str) (v : Val) : List (Str × Val) → List (Str × Val)
  | [] => [(f, v)]
  | (g, x) :: r => if g = f then (g, v) :: r else (g, x) :: putV f v r
section
variable {K : PySem.W.Frag} {H : Hp} {m : List Addr} {f : Str}
omit [TT] in
theorem look_some : ∀ {xs : List (Str × V)} {fs : List (Str × Val)} {v : Val}, xs.map (·.1) = fs.map (·.1) → VRs K H m (xs.map (·.2)) (fs.map (·.2)) → fs.lookup f = some v → ∃ u, xs.lookup f = some u ∧ VR K H m u v
  | [], [], _, _, _, h => by cases h
  | [], _ :: _, _, e, _, _ => by cases e
  | _ :: _, [], _, e, _, _ => by cases e
  | (g, u) :: xs, (g', w) :: fs, v, e, r, h => by
    have e1 : g = g' := (List.cons.inj e).1
    have e2 : xs.map (·.1) = fs.map (·.1) := (List.cons.inj e).2
    subst e1
    cases r with
    | cons a b =>
      by_cases z : f = g
      · subst z
        have h : some w = some v := by rw [← h]; simp [List.lookup]
        cases h
        exact ⟨u, by simp [List.lookup], a⟩
      · have zb : (f == g) = false := by simpa using z
        have h : fs.lookup f = some v := by rw [← h]; simp [List.lookup, zb]
        obtain ⟨u', h1, h2⟩ := look_some e2 b h
        exact ⟨u', by simp [List.lookup, zb]; exact h1, h2⟩
omit [TT] in
theorem look_none : ∀ {xs : List (Str × V)} {fs : List (Str × Val)}, xs.map (·.1) = fs.map (·.1) → fs.lookup f = none → xs.lookup f = none
  | [], _, _, _ => rfl
  | _ :: _, [], e, _ => by cases e
  | (g, u) :: xs, (g', w) :: fs, e, h => by
    have e1 : g = g' := (List.cons.inj e).1
    have e2 : xs.map (·.1) = fs.map (·.1) := (List.cons.inj e).2
    subst e1
    by_cases z : f = g
    · subst z
      simp [List.lookup] at h
    · have zb : (f == g) = false := by simpa using z
      simp only [List.lookup, zb] at h ⊢
      exact look_none e2 h
omit [TT] in
theorem put_rel {u : V} {v : Val} (ru : VR K H m u v) : ∀ {xs : List (Str × V)} {fs : List (Str × Val)}, xs.map (·.1) = fs.map (·.1) → VRs K H m (xs.map (·.2)) (fs.map (·.2)) → (putF f u xs).map (·.1) = (putV f v fs).map (·.1) ∧ VRs K H m ((putF f u xs).map (·.2)) ((putV f v fs).map (·.2))
  | [], [], _, _ => ⟨rfl, .cons ru .nil⟩
  | [], _ :: _, e, _ => by cases e
  | _ :: _, [], e, _ => by cases e
  | (g, x) :: xs, (g', w) :: fs, e, r => by
    have e1 : g = g' := (List.cons.inj e).1
    have e2 : xs.map (·.1) = fs.map (·.1) := (List.cons.inj e).2
    subst e1
    cases r with
    | cons a b =>
      by_cases z : g = f
      · simp only [putF, putV, if_pos z]
        exact ⟨congrArg (g :: ·) e2, .cons ru b⟩
      · obtain ⟨p, q⟩ := put_rel ru e2 b
        simp only [putF, putV, if_neg z]
        exact ⟨congrArg (g :: ·) p, .cons a q⟩
end

def objAt (C : Str) (v : Val) (S : Sto) : Option (Nat × List (Str × Val)) := match v with
  | .ref n => match S[n]? with
    | some (.obj D fs) => if D = C then some (n, fs) else none
    | _ => none
  | _ => none
omit [TT] in
theorem objAt_some {C : Str} {v : Val} {S : Sto} {n : Nat} {fs : List (Str × Val)} (h : objAt C v S = some (n, fs)) : v = .ref n ∧ S[n]? = some (.obj C fs) := by
  unfold objAt at h
  split at h
  · split at h
    · split at h
      · next e =>
        cases h
        subst e
        exact ⟨rfl, by assumption⟩
      · cases h
    · cases h
  · cases h
omit [TT] in
theorem objAt_of {C : Str} {S : Sto} {n : Nat} {fs : List (Str × Val)} (h : S[n]? = some (.obj C fs)) : objAt C (.ref n) S = some (n, fs) := by
  unfold objAt
  simp only [h, if_true]
theorem Rel.objR {K : PySem.W.Frag} {H : Hp} {m : List Addr} {S : Sto} {C : Str} {n : Nat} {fs : List (Str × Val)} {u : V} (R : Rel K m S H) (h : S[n]? = some (.obj C fs)) (r : VR K H m u (.ref n)) :
    ∃ (a dx : Addr) (xs : List (Str × V)), u = .ref a ∧ m[n]? = some a ∧ H a = some (.ins (TT.cls C) dx xs) ∧ xs.map (·.1) = fs.map (·.1) ∧ VRs K H m (xs.map (·.2)) (fs.map (·.2)) := by
  cases r with
  | ref hm =>
    obtain ⟨dx, xs, h1, h2, h3⟩ := R.ob n _ _ h hm
    exact ⟨_, dx, xs, rfl, hm, h1, h2, h3⟩
def eFld (C f : Str) (g : EF) : EF := fun ρ S => (g ρ S).bind fun p => (objAt C p.1 p.2).bind fun q => (q.2.lookup f).map fun v => (v, p.2)

def sFldS (C f : Str) (o v : EF) : SF := fun ρ S => match v ρ S with
  | some (y, S1) => match o ρ S1 with
    | some (x, S2) => match objAt C x S2 with
      | some (n, fs) => if fs.length < 900 then .nx ρ (S2.set n (.obj C (putV f y fs))) else .stuck
      | none => .stuck
    | none => .stuck
  | none => .stuck
section
variable {X : Cx} {e o value : Expr} {f C : Str} {g go gv : EF} {pos pos' : Pos}
theorem aFld (c : Cls X.K (TT.cls C)) (n : NoAttr X.K (TT.cls C) f) (he : AE X e g) (hb : attributeBase e f X.env (eval e X.env) = eval e X.env := by rfl) : AE X (.Attribute e f pos) (eFld C f g) := by
  refine pe_w (pe_fld he hb) fun σ H Q h => ?_
  obtain ⟨m, ρ, S, v, S', R, r, e, q⟩ := h
  obtain ⟨⟨x, S1⟩, e1, e⟩ := Option.bind_eq_some_iff.mp e
  obtain ⟨⟨k, fs⟩, e2, e⟩ := Option.bind_eq_some_iff.mp e
  obtain ⟨w, e3, e4⟩ := Option.map_eq_some_iff.mp e
  cases e4
  obtain ⟨rfl, e2⟩ := objAt_some e2
  refine ⟨m, ρ, S, .ref k, S1, R, r, e1, fun m1 u H1 E1 R1 r1 => ?_⟩
  obtain ⟨a, dx, xs, rfl, hm, hH, hk, hr⟩ := R1.objR e2 r1
  obtain ⟨u', l, ru⟩ := look_some hk hr e3
  exact ⟨a, _, dx, xs, u', rfl, hH, c, n, l, q m1 u' H1 E1 R1 ru⟩
theorem asFld (c : Cls X.K (TT.cls C)) (n : NoAttr X.K (TT.cls C) f) (ho : AE X o go) (hv : AE X value gv) (hs : swapsWith value (some (.Attribute o f pos')) pos.line X.env = pure false := by rfl) : AS X (.Assign [.Attribute o f pos'] value pos) (sFldS C f go gv) := by
  refine ps_w (ps_fld ho hv hs) fun D σ H h => ?_
  obtain ⟨m, ρ, S, R, r, p⟩ := h
  unfold sFldS at p
  split at p
  · next y S1 e1 =>
    split at p
    · next x S2 e2 =>
      split at p
      · next k fs e3 =>
        split at p
        · next hl =>
          obtain ⟨rfl, e4⟩ := objAt_some e3
          refine ⟨m, ρ, S, y, S1, R, r, e1, fun m1 u H1 E1 R1 r1 => ⟨m1, ρ, S1, .ref k, S2, R1, r.kp (E1.kp R), e2, fun m2 u2 H2 E2 R2 r2 => ?_⟩⟩
          obtain ⟨a, dx, xs, rfl, hm, hH, hk, hr⟩ := R2.objR e4 r2
          have lx : xs.length = fs.length := by have := congrArg List.length hk; simpa using this
          refine ⟨a, _, dx, xs, rfl, hH, c, n, by omega, ?_⟩
          have ru := r1.kp (E2.kp R1)
          obtain ⟨p1, p2⟩ := put_rel (f := f) ru hk hr
          obtain ⟨R3, E3⟩ := R2.put (o := .ins (TT.cls C) dx (putF f u xs)) (b := .obj C (putV f y fs)) hm ⟨dx, _, upd_same, p1, p2.kp (R2.kput (List.mem_of_getElem? hm))⟩
          exact p _ σ _ ((E1.trans E2).trans E3) R3 (r.kp (((E1.trans E2).trans E3).kp R))
        · exact p.elim
      · exact p.elim
    · exact p.elim
  · exact p.elim
end

structure Met (P : Program) (w : World) (K : PySem.W.Frag) (mg : Str → Option Value) (base : Heap) (k : Nat) (C m : Str) (ps : List Str) (F : FA) : Prop where
  ex : ∃ f fd, FnG P w K mg base k f fd ps (spA K ps.length F) ∧ Binds K fd ps [] ∧ Meth K (TT.cls C) m f ∧ Cls K (TT.cls C)
structure MetX (P : Program) (w : World) (K : PySem.W.Frag) (mg : Str → Option Value) (base : Heap) (k : Nat) (C m : Str) (ps : List Str) (F : FA) : Prop where
  ex : ∃ f fd, FnX P w K mg base k f fd ps (spX K mg ps.length F) ∧ Binds K fd ps [] ∧ Meth K (TT.cls C) m f ∧ Cls K (TT.cls C)
theorem MetX.no {P : Program} {w : World} {K : PySem.W.Frag} {mg : Str → Option Value} {base : Heap} {k : Nat} {C m : Str} {ps : List Str} {F : FA} (D : MetX P w K mg base k C m ps F) : Met P w K mg base k C m ps (noX F) := by
  obtain ⟨f, fd, h1, h2, h3, h4⟩ := D.ex
  exact ⟨f, fd, fnx_g h1, h2, h3, h4⟩
section
variable {X : Cx} {W : WX} {k : Nat} {C f : Addr} {fd : FuncData} {ps : List Str} {sp : Sp} {x m : Str} {p pos apos : Pos} {o e : Expr} {es : List Expr} {ta : TE} {t : TA} {ga : AF} {go : EF}
theorem pe_methG {pl : Sem Bool} (he : PE X o ta) (c : Cls X.K C) (hm : Meth X.K C m f) (F : FnG X.prog X.w X.K X.mg X.base k f fd ps sp) (g : X.A.guards = some []) (hr : Room k X.A) (hb : Binds X.K fd ps []) (ha : PA X (e :: es) t)
    (hst : starEach (e :: es) X.env = (false, eval e X.env) :: starEach es X.env := by rfl) (hpl : (backTo pos (starEach es X.env)).any (·.1) = false := by rfl)
    (ht : eval (.Call (.Attribute o m apos) (e :: es) [] pos) X.env = (do
      let ov ← eval o X.env
      standAt apos.atName
      let (f, first) ← holding [ov] (getMethod ov m pl)
      callWith pos f first (backTo pos (starEach (e :: es) X.env)) (backToKw pos (keywordEach [] X.env))) := by rfl) :
    PE X (.Call (.Attribute o m apos) (e :: es) [] pos) (fun σ H Q => ta σ H fun x H1 => ∃ a dx fs, x = .ref a ∧ H1 a = some (.ins C dx fs) ∧ fs.lookup m = none ∧ t σ H1 fun vs H2 => sp (.ref a :: vs) H2 Q E0) := by
  constructor
  intro pins s σ H Q I h
  refine PySem.W.methodCall_KW (pl := pl) (thn (he.run pins s σ H _ I h) ?_) ht
  rintro u s1 ⟨x, H1, I1, rx, a, dx, fs, rfl, at_, no, q⟩
  obtain rfl : u = Value.ref a := rx
  refine getmeth_ok I1 at_ c hm no (PySem.W.callWith_K (first := [.ref a]) (h₀ := X.base) I.ok.mod.kin hm.kp (thn (ha.run pos pins s1 σ H1 _ I1 q) ?_) hst hpl)
  rintro us s2 ⟨vs, H2, I2, r, q2⟩
  exact ⟨I2.kIn, run_g (E := E0) (us := .ref a :: us) (vs := .ref a :: vs) F g hr hb I2 (.cons rfl r) q2⟩
theorem pe_methG0 {pl : Sem Bool} (he : PE X o ta) (c : Cls X.K C) (hm : Meth X.K C m f) (F : FnG X.prog X.w X.K X.mg X.base k f fd ps sp) (g : X.A.guards = some []) (hr : Room k X.A) (hb : Binds X.K fd ps [])
    (ht : eval (.Call (.Attribute o m apos) [] [] pos) X.env = (do
      let ov ← eval o X.env
      standAt apos.atName
      let (f, first) ← holding [ov] (getMethod ov m pl)
      callWith pos f first (backTo pos (starEach [] X.env)) (backToKw pos (keywordEach [] X.env))) := by rfl) :
    PE X (.Call (.Attribute o m apos) [] [] pos) (fun σ H Q => ta σ H fun x H1 => ∃ a dx fs, x = .ref a ∧ H1 a = some (.ins C dx fs) ∧ fs.lookup m = none ∧ sp [.ref a] H1 Q E0) := by
  constructor
  intro pins s σ H Q I h
  refine PySem.W.methodCall_KW (pl := pl) (thn (he.run pins s σ H _ I h) ?_) ht
  rintro u s1 ⟨x, H1, I1, rx, a, dx, fs, rfl, at_, no, q⟩
  obtain rfl : u = Value.ref a := rx
  exact getmeth_ok I1 at_ c hm no (PySem.W.callWith_K0 (first := [.ref a]) I1.kIn hm.kp (run_g (E := E0) (us := [.ref a]) (vs := [.ref a]) F g hr hb I1 (.cons rfl .nil) q))
theorem pe_methX {pl : Sem Bool} (he : PE X o ta) (c : Cls X.K C) (hm : Meth X.K C m f) (F : FnX X.prog X.w X.K X.mg X.base k f fd ps sp) (g : X.A.guards = some []) (hr : Room k X.A) (hb : Binds X.K fd ps []) (tk : Takes X W) (ha : PA X (e :: es) t)
    (hst : starEach (e :: es) X.env = (false, eval e X.env) :: starEach es X.env := by rfl) (hpl : (backTo pos (starEach es X.env)).any (·.1) = false := by rfl)
    (ht : eval (.Call (.Attribute o m apos) (e :: es) [] pos) X.env = (do
      let ov ← eval o X.env
      standAt apos.atName
      let (f, first) ← holding [ov] (getMethod ov m pl)
      callWith pos f first (backTo pos (starEach (e :: es) X.env)) (backToKw pos (keywordEach [] X.env))) := by rfl) :
    PE X (.Call (.Attribute o m apos) (e :: es) [] pos) (fun σ H Q => ta σ H fun x H1 => ∃ a dx fs, x = .ref a ∧ H1 a = some (.ins C dx fs) ∧ fs.lookup m = none ∧ t σ H1 fun vs H2 => sp (.ref a :: vs) H2 Q (WE W σ)) := by
  constructor
  intro pins s σ H Q I h
  refine PySem.W.methodCall_KW (pl := pl) (thn (he.run pins s σ H _ I h) ?_) ht
  rintro u s1 ⟨x, H1, I1, rx, a, dx, fs, rfl, at_, no, q⟩
  obtain rfl : u = Value.ref a := rx
  refine getmeth_ok I1 at_ c hm no (PySem.W.callWith_K (first := [.ref a]) (h₀ := X.base) I.ok.mod.kin hm.kp (thn (ha.run pos pins s1 σ H1 _ I1 q) ?_) hst hpl)
  rintro us s2 ⟨vs, H2, I2, r, q2⟩
  exact ⟨I2.kIn, run_x (us := .ref a :: us) (vs := .ref a :: vs) F g hr hb tk I2 (.cons rfl r) q2⟩

def eMe (C m : Str) (F : FA) (n : Nat) (o : EF) (ga : AF) : EF := fun ρ S => (o ρ S).bind fun p => (objAt C p.1 p.2).bind fun q => if q.2.lookup m = none then (ga ρ p.2).bind fun r => if r.1.length + 1 = n then F (.ref q.1 :: r.1) r.2 else none else none
theorem aMe {C m : Str} {F : FA} (D : Met X.prog X.w X.K X.mg X.base k C m ps F) (g : X.A.guards = some []) (hr : Room k X.A) (ho : AE X o go) (ha : AA X (e :: es) ga)
    {pl : Sem Bool} (hst : starEach (e :: es) X.env = (false, eval e X.env) :: starEach es X.env := by rfl) (hpl : (backTo pos (starEach es X.env)).any (·.1) = false := by rfl)
    (ht : eval (.Call (.Attribute o m apos) (e :: es) [] pos) X.env = (do
      let ov ← eval o X.env
      standAt apos.atName
      let (f, first) ← holding [ov] (getMethod ov m pl)
      callWith pos f first (backTo pos (starEach (e :: es) X.env)) (backToKw pos (keywordEach [] X.env))) := by rfl) {n : Nat} (hn : ps.length = n := by rfl) : AE X (.Call (.Attribute o m apos) (e :: es) [] pos) (eMe C m F n go ga) := by
  subst hn
  obtain ⟨f, fd, hF, hb, hm, hc⟩ := D.ex
  refine pe_w (pe_methG (pl := pl) ho hc hm hF g hr hb ha hst hpl ht) fun σ H Q h => ?_
  obtain ⟨m0, ρ, S, v, S', R, r, e, q⟩ := h
  obtain ⟨⟨x, S1⟩, e1, e⟩ := Option.bind_eq_some_iff.mp e
  obtain ⟨⟨j, fs⟩, e2, e⟩ := Option.bind_eq_some_iff.mp e
  dsimp only at e
  split at e
  · next hl =>
    obtain ⟨⟨vs, S2⟩, e3, e⟩ := Option.bind_eq_some_iff.mp e
    dsimp only at e
    split at e
    · next hn =>
      have ez := e
      obtain ⟨rfl, e4⟩ := objAt_some e2
      refine ⟨m0, ρ, S, .ref j, S1, R, r, e1, fun m1 u H1 E1 R1 r1 => ?_⟩
      obtain ⟨a, dx, xs, rfl, hm, hH, hk, hrr⟩ := R1.objR e4 r1
      refine ⟨a, dx, xs, rfl, hH, look_none hk hl, m1, ρ, S1, vs, S2, R1, r.kp (E1.kp R), e3, fun m2 us H2 E2 R2 r2 => ?_⟩
      refine ⟨by rw [List.length_cons, r2.len]; exact hn, m2, S2, .ref j :: vs, v, S', R2, .cons (r1.kp (E2.kp R1)) r2, ez, fun m3 z H3 E3 R3 r3 => q m3 z H3 ((E1.trans E2).trans E3) R3 r3⟩
    · cases e
  · cases e
theorem aMe0 {C m : Str} {F : FA} (D : Met X.prog X.w X.K X.mg X.base k C m ps F) (g : X.A.guards = some []) (hr : Room k X.A) (ho : AE X o go) {pl : Sem Bool}
    (ht : eval (.Call (.Attribute o m apos) [] [] pos) X.env = (do
      let ov ← eval o X.env
      standAt apos.atName
      let (f, first) ← holding [ov] (getMethod ov m pl)
      callWith pos f first (backTo pos (starEach [] X.env)) (backToKw pos (keywordEach [] X.env))) := by rfl) (hn : ps.length = 1 := by rfl) : AE X (.Call (.Attribute o m apos) [] [] pos) (eMe C m F 1 go aNil) := by
  obtain ⟨f, fd, hF, hb, hm, hc⟩ := D.ex
  rw [hn] at hF
  refine pe_w (pe_methG0 (pl := pl) ho hc hm hF g hr hb ht) fun σ H Q h => ?_
  obtain ⟨m0, ρ, S, v, S', R, r, e, q⟩ := h
  obtain ⟨⟨x, S1⟩, e1, e⟩ := Option.bind_eq_some_iff.mp e
  obtain ⟨⟨j, fs⟩, e2, e⟩ := Option.bind_eq_some_iff.mp e
  dsimp only at e
  split at e
  · next hl =>
    obtain ⟨⟨vs, S2⟩, e3, e⟩ := Option.bind_eq_some_iff.mp e
    cases e3
    dsimp only at e
    have ez := e
    obtain ⟨rfl, e4⟩ := objAt_some e2
    refine ⟨m0, ρ, S, .ref j, S1, R, r, e1, fun m1 u H1 E1 R1 r1 => ?_⟩
    obtain ⟨a, dx, xs, rfl, hm, hH, hk, hrr⟩ := R1.objR e4 r1
    exact ⟨a, dx, xs, rfl, hH, look_none hk hl, rfl, m1, S1, [.ref j], v, S', R1, .cons r1 .nil, ez, fun m3 z H3 E3 R3 r3 => q m3 z H3 (E1.trans E3) R3 r3⟩
  · cases e
theorem aMeX {C m : Str} {F : FA} (D : MetX X.prog X.w X.K X.mg X.base k C m ps F) (g : X.A.guards = some []) (hr : Room k X.A) (tk : Takes X W) (ho : AE X o go) (ha : AA X (e :: es) ga)
    {pl : Sem Bool} (hst : starEach (e :: es) X.env = (false, eval e X.env) :: starEach es X.env := by rfl) (hpl : (backTo pos (starEach es X.env)).any (·.1) = false := by rfl)
    (ht : eval (.Call (.Attribute o m apos) (e :: es) [] pos) X.env = (do
      let ov ← eval o X.env
      standAt apos.atName
      let (f, first) ← holding [ov] (getMethod ov m pl)
      callWith pos f first (backTo pos (starEach (e :: es) X.env)) (backToKw pos (keywordEach [] X.env))) := by rfl) {n : Nat} (hn : ps.length = n := by rfl) : AEX X W (.Call (.Attribute o m apos) (e :: es) [] pos) (eMe C m F n go ga) := by
  subst hn
  obtain ⟨f, fd, hF, hb, hm, hc⟩ := D.ex
  refine pe_w (pe_methX (pl := pl) ho hc hm hF g hr hb tk ha hst hpl ht) fun σ H Q h => ?_
  obtain ⟨m0, ρ, S, v, S', R, r, e, q⟩ := h
  obtain ⟨⟨x, S1⟩, e1, e⟩ := Option.bind_eq_some_iff.mp e
  obtain ⟨⟨j, fs⟩, e2, e⟩ := Option.bind_eq_some_iff.mp e
  dsimp only at e
  split at e
  · next hl =>
    obtain ⟨⟨vs, S2⟩, e3, e⟩ := Option.bind_eq_some_iff.mp e
    dsimp only at e
    split at e
    · next hn =>
      have ez := e
      obtain ⟨rfl, e4⟩ := objAt_some e2
      refine ⟨m0, ρ, S, .ref j, S1, R, r, e1, fun m1 u H1 E1 R1 r1 => ?_⟩
      obtain ⟨a, dx, xs, rfl, hm, hH, hk, hrr⟩ := R1.objR e4 r1
      refine ⟨a, dx, xs, rfl, hH, look_none hk hl, m1, ρ, S1, vs, S2, R1, r.kp (E1.kp R), e3, fun m2 us H2 E2 R2 r2 => ?_⟩
      exact ⟨by rw [List.length_cons, r2.len]; exact hn, m2, S2, .ref j :: vs, v, S', R2, .cons (r1.kp (E2.kp R1)) r2, ez, q.ext (E1.trans E2)⟩
    · cases e
  · cases e
end
section
variable {X : Cx} {k : Nat} {f CA : Addr} {fd : FuncData} {ps : List Str} {sp : Sp} {x C : Str} {p pos : Pos} {e : Expr} {es : List Expr} {t : TA} {ga : AF}
theorem run_makeG {pins : List (Addr × Obj)} {σ : L2.St} {H : Hp} {s : Shared} {Q : VK} {us : List Value} {vs : List V} (M : Mk X.K CA f) (F : FnG X.prog X.w X.K X.mg X.base k f fd ps sp) (g : X.A.guards = some []) (hr : Room (k + 1) X.A) (hb : Binds X.K fd ps [])
    (I : Inv X pins σ H s) (r : Vals vs us)
    (h : ∀ x dx, H x = none → H dx = none → dx ≠ x → sp (.ref x :: vs) (upd (upd H dx (.own x)) x (.ins CA dx [])) (fun v H2 => v = .non ∧ Q (.ref x) H2) E0) :
    wpAny (model X.prog X.w) X.A (call (.ref CA) us) (EP X pins σ Q) X.xe s := by
  have want := h (s.heap.objs.size + 1) s.heap.objs.size (I.hok.fresh (Nat.le_succ _)) (I.hok.fresh (Nat.le_refl _)) (Nat.ne_of_lt (Nat.lt_succ_self _))
  have I2 := Inv.made (C := CA) I
  have rr : Vals (V.ref (s.heap.objs.size + 1) :: vs) (Value.ref (s.heap.objs.size + 1) :: us) := .cons rfl r
  have n1 := rr.length.symm.trans (F.len _ _ _ _ want)
  have b1 := hb _ (Value.ref (s.heap.objs.size + 1) :: us) I2.kIn ((congrArg List.length (List.append_nil _)).trans n1)
  rw [List.append_nil] at b1
  have gu : (X.A.under (.builtin "type.__call__" ⟨.ref CA :: us, []⟩)).guards = some [] := g
  refine wpAny_call (make_map (f := f) I.kIn M.makes M.init (beq_iff_eq.mp M.fn) (codeAny_mono (F.run _ X.stack _ _ ⟨Value.ref (s.heap.objs.size + 1) :: us, []⟩ _ _ _ E0 gu (hr.make CA us []) (I2.env0.make CA us []) b1 rr want) ?_))
  intro res s' c
  match res, c with
  | .error _, c => exact False.elim c
  | .ok (.ret u), c =>
    obtain ⟨v, H', I3, rv, rfl, q3⟩ := I2.after c
    exact ⟨rv, ⟨V.ref (s.heap.objs.size + 1), H', I3, rfl, q3⟩⟩
  | .ok .next, c => exact False.elim c
  | .ok .brk, c => exact False.elim c
  | .ok .cont, c => exact False.elim c
theorem pe_makeG (M : Mk X.K CA f) (F : FnG X.prog X.w X.K X.mg X.base k f fd ps sp) (g : X.A.guards = some []) (hr : Room (k + 1) X.A) (hgl : Gl X x) (hm : X.mg x = some (.ref CA)) (hb : Binds X.K fd ps []) (ha : PA X (e :: es) t)
    (hdb : (x == ("__debug__" : Str)) = false := by decide) (he : starEach (e :: es) X.env = (false, eval e X.env) :: starEach es X.env := by rfl) (hpl : (backTo pos (starEach es X.env)).any (·.1) = false := by rfl) :
    PE X (.Call (.Name x p) (e :: es) [] pos) (fun σ H Q => t σ H fun vs H1 => ∀ y dx, H1 y = none → H1 dx = none → dx ≠ y → sp (.ref y :: vs) (upd (upd H1 dx (.own y)) y (.ins CA dx [])) (fun v H2 => v = .non ∧ Q (.ref y) H2) E0) := by
  constructor
  intro pins s σ H Q I h
  refine wpAny_Call_Name_kw (ld_glob I hgl hm (PySem.W.callWith_K (h₀ := X.base) I.ok.mod.kin M.kp (thn (ha.run pos pins s σ H _ I h) ?_) he hpl) hdb)
  rintro us s1 ⟨vs, H1, I1, r, q⟩
  exact ⟨I1.kIn, run_makeG M F g hr hb I1 r q⟩

structure Made (P : Program) (w : World) (K : PySem.W.Frag) (mg : Str → Option Value) (base : Heap) (k : Nat) (C : Str) (ps : List Str) (F : FA) : Prop where
  ex : ∃ f fd, FnG P w K mg base k f fd ps (spA K ps.length F) ∧ Binds K fd ps [] ∧ Mk K (TT.cls C) f ∧ mg C = some (.ref (TT.cls C))
def eMk (C : Str) (F : FA) (n : Nat) (ga : AF) : EF := fun ρ S => (ga ρ S).bind fun q => if q.1.length + 1 = n then (F (.ref q.2.length :: q.1) (q.2 ++ [.obj C []])).bind fun r => match r.1 with
  | .non => some (.ref q.2.length, r.2)
  | _ => none
  else none
theorem aMk {F : FA} (D : Made X.prog X.w X.K X.mg X.base k C ps F) (g : X.A.guards = some []) (hr : Room (k + 1) X.A) (hgl : Gl X C) (ha : AA X (e :: es) ga)
    (hdb : (C == ("__debug__" : Str)) = false := by decide) (he : starEach (e :: es) X.env = (false, eval e X.env) :: starEach es X.env := by rfl) (hpl : (backTo pos (starEach es X.env)).any (·.1) = false := by rfl) {n : Nat} (hn : ps.length = n := by rfl) :
    AE X (.Call (.Name C p) (e :: es) [] pos) (eMk C F n ga) := by
  subst hn
  obtain ⟨f, fd, hF, hb, hM, hm⟩ := D.ex
  refine pe_w (pe_makeG hM hF g hr hgl hm hb ha hdb he hpl) fun σ H Q h => ?_
  obtain ⟨m, ρ, S, v, S', R, r, e, q⟩ := h
  obtain ⟨⟨vs, S1⟩, e1, e⟩ := Option.bind_eq_some_iff.mp e
  dsimp only at e
  split at e
  · next hl =>
    obtain ⟨⟨w, S2⟩, e2, e⟩ := Option.bind_eq_some_iff.mp e
    dsimp only at e
    split at e
    · cases e
      refine ⟨m, ρ, S, vs, S1, R, r, e1, fun m1 us H1 E1 R1 r1 y dx hy hdx ne => ?_⟩
      obtain ⟨Ra, Ea⟩ := R1.tmp (o := .own y) hdx
      have hy' : upd H1 dx (.own y) y = none := by rw [upd_ne (Ne.symm ne)]; exact hy
      obtain ⟨Rb, Eb⟩ := Ra.alloc (o := .ins (TT.cls C) dx []) (b := .obj C []) hy' ⟨dx, [], upd_same, rfl, .nil⟩
      have r3 := (r1.kp (Ea.kp R1)).kp (Eb.kp Ra)
      refine ⟨by rw [List.length_cons, r1.len]; exact hl, m1 ++ [y], S1 ++ [.obj C []], .ref S1.length :: vs, .non, _, Rb, .cons (.ref ?_) r3, e2, fun m' z H' E' R' rz => ?_⟩
      · rw [← R1.len, List.getElem?_concat_length]
      · cases rz
        refine ⟨rfl, q m' (.ref y) H' ((E1.trans (Ea.trans Eb)).trans E') R' (.ref ?_)⟩
        refine (E'.kp Rb).get ?_
        rw [← R1.len, List.getElem?_concat_length]
    · cases e
  · cases e
end
section
variable {X : Cx} {K : PySem.W.Frag} {k : Nat} {C : Str} {F : FA}
end
end AL
namespace G
open PySem PySem.Spec PyProof.Rows L2 LamX
end G
namespace AL
open PySem PySem.Spec PyProof.Rows L2 G Th LamX
end AL
namespace K43
open PySem PySem.Spec PyProof.Rows L2 G Th AL
open K37 (common_divisor_ common_divisor_B ratio_ ratio_B added_ added_B added_told_ added_told_B less_ less_B parted_ parted_B is_below_ is_below_B least_of_ least_of_B greatest_of_ greatest_of_B drift_of_ drift_of_B moves_into_ moves_into_B moved_end_ moved_end_B ends_told_ ends_told_B kept_pair_ kept_pair_B tapeL_ tapeL_B)
noncomputable def Keeper_init_B : SF := (sSeq (sFldS "Keeper" "at_field" (eV 0) (eV 1))
    (sSeq (sFldS "Keeper" "events" (eV 0) (eLst aNil))
    (sSeq (sFldS "Keeper" "pairs" (eV 0) (eLst aNil))
    (sFldS "Keeper" "last_at" (eV 0) eDic))))
noncomputable def Keeper_init_ : FA := runF 2 Keeper_init_B
noncomputable def Keeper_bar_place_B : SF := (sSeq (sIf (eT (eB gIs (eDef drift_of_ 2 (aCons (eFld "Keeper" "at_field" (eV 0)) (aCons (eV 1) aNil))) (eC .non))) (sRaise "NoHouse" (aCons (eV 1) aNil)) sNil)
    (sSeq (sAsg (.nm 3) (eGet1 (eFld "Keeper" "last_at" (eV 0)) (eV 1)))
    (sIf (bAnd (eT (eB gIsN (eV 3) (eC .non))) (eT (eDef is_below_ 2 (aCons (eV 2) (aCons (eB gIxA (eB gIxA (eFld "Keeper" "events" (eV 0)) (eV 3)) (eC (.int 1))) aNil))))) (sRaise "NoEvent" (aCons (eC (.str "falls")) (aCons (eV 3) aNil))) sNil)))
noncomputable def Keeper_bar_place_ : FA := runF 4 Keeper_bar_place_B
noncomputable def Keeper_bar_send_B : SF := (sSeq (sAsg (.nm 3) (eB gIxA (eFld "Keeper" "at_field" (eV 0)) (eC (.int 1))))
    (sSeq (sIf (bNot (eT (eCh gLe gLt (eC (.int 0)) (eV 2) (eCall gLen (aCons (eV 3) aNil))))) (sRaise "NoLink" (aCons (eV 2) aNil)) sNil)
    (sIf (eT (eB gNe (eB gIxA (eB gIxA (eV 3) (eV 2)) (eC (.int 0))) (eV 1))) (sRaise "NoEvent" (aCons (eC (.str "from")) (aCons (eV 2) aNil))) sNil)))
noncomputable def Keeper_bar_send_ : FA := runF 4 Keeper_bar_send_B
noncomputable def Keeper_bar_number_B : SF := (sIf (bNot (eT (eCh gLe gLt (eC (.int 0)) (eV 1) (eCall gLen (aCons (eFld "Keeper" "events" (eV 0)) aNil))))) (sRaise "NoNumber" (aCons (eV 1) aNil)) sNil)
noncomputable def Keeper_bar_number_ : FA := runF 2 Keeper_bar_number_B
noncomputable def Keeper_bar_hear_B : SF := (sSeq (sExprX (eMe "Keeper" "bar_number" Keeper_bar_number_ 2 (eV 0) (aCons (eV 2) aNil)))
    (sSeq (sAsg (.nm 3) (eB gIxA (eB gIxA (eFld "Keeper" "events" (eV 0)) (eV 2)) (eC (.int 2))))
    (sSeq (sIf (eT (eB gNe (eB gIxA (eV 3) (eC (.int 0))) (eC (.str "send")))) (sRaise "NoEvent" (aCons (eC (.str "send")) (aCons (eV 2) aNil))) sNil)
    (sIf (eT (eB gNe (eB gIxA (eB gIxA (eB gIxA (eFld "Keeper" "at_field" (eV 0)) (eC (.int 1))) (eB gIxA (eV 3) (eC (.int 1)))) (eC (.int 1))) (eV 1))) (sRaise "NoEvent" (aCons (eC (.str "to")) (aCons (eV 2) aNil))) sNil))))
noncomputable def Keeper_bar_hear_ : FA := runF 4 Keeper_bar_hear_B
noncomputable def Keeper_bar_deed_B : SF := (sSeq (sIf (eT (eB gEq (eB gIxA (eV 2) (eC (.int 0))) (eC (.str "send")))) (sExprX (eMe "Keeper" "bar_send" Keeper_bar_send_ 3 (eV 0) (aCons (eV 1) (aCons (eB gIxA (eV 2) (eC (.int 1))) aNil)))) sNil)
    (sIf (eT (eB gEq (eB gIxA (eV 2) (eC (.int 0))) (eC (.str "hear")))) (sExprX (eMe "Keeper" "bar_hear" Keeper_bar_hear_ 3 (eV 0) (aCons (eV 1) (aCons (eB gIxA (eV 2) (eC (.int 1))) aNil)))) sNil))
noncomputable def Keeper_bar_deed_ : FA := runF 3 Keeper_bar_deed_B
noncomputable def Keeper_pair_next_B : SF := (sSeq (sAsg (.nm 2) (eDef moves_into_ 4 (aCons (eFld "Keeper" "at_field" (eV 0)) (aCons (eFld "Keeper" "events" (eV 0)) (aCons (eGet1 (eFld "Keeper" "last_at" (eV 0)) (eB gIxA (eV 1) (eC (.int 0)))) (aCons (eV 1) aNil))))))
    (sRet (eDef kept_pair_ 4 (aCons (eFld "Keeper" "at_field" (eV 0)) (aCons (eV 1) (aCons (eV 2) (aCons (eFld "Keeper" "pairs" (eV 0)) aNil)))))))
noncomputable def Keeper_pair_next_ : FA := runF 3 Keeper_pair_next_B
noncomputable def Keeper_note_B : SF := (sSeq (sExprX (eMe "Keeper" "bar_place" Keeper_bar_place_ 3 (eV 0) (aCons (eV 1) (aCons (eV 2) aNil))))
    (sSeq (sExprX (eMe "Keeper" "bar_deed" Keeper_bar_deed_ 3 (eV 0) (aCons (eV 1) (aCons (eV 3) aNil))))
    (sSeq (sAsg (.nm 4) (eTup (aCons (eV 1) (aCons (eV 2) (aCons (eV 3) aNil)))))
    (sSeq (sAsg (.nm 5) (eCall gLen (aCons (eFld "Keeper" "events" (eV 0)) aNil)))
    (sSeq (sExpr (eMt isL gApp (eFld "Keeper" "pairs" (eV 0)) (aCons (eMe "Keeper" "pair_next" Keeper_pair_next_ 2 (eV 0) (aCons (eV 4) aNil)) aNil)))
    (sSeq (sExpr (eMt isL gApp (eFld "Keeper" "events" (eV 0)) (aCons (eV 4) aNil)))
    (sSeq (sSub gSetA (eFld "Keeper" "last_at" (eV 0)) (eV 1) (eV 5))
    (sRetN (eV 5)))))))))
noncomputable def Keeper_note_ : FA := runF 6 Keeper_note_B
noncomputable def Keeper_history_B : SF := (sRet (eTup (aCons (eFld "Keeper" "at_field" (eV 0)) (aCons (eCall gTuple (aCons (eFld "Keeper" "events" (eV 0)) aNil)) aNil))))
noncomputable def Keeper_history_ : FA := runF 1 Keeper_history_B
noncomputable def Keeper_pair_B : SF := (sSeq (sExprX (eMe "Keeper" "bar_number" Keeper_bar_number_ 2 (eV 0) (aCons (eV 1) aNil)))
    (sRetN (eB gIxA (eFld "Keeper" "pairs" (eV 0)) (eV 1))))
noncomputable def Keeper_pair_ : FA := runF 2 Keeper_pair_B
noncomputable def Keeper_now_B : SF := (sSeq (sExprX (eMe "Keeper" "bar_place" Keeper_bar_place_ 3 (eV 0) (aCons (eV 1) (aCons (eV 2) aNil))))
    (sRetN (eMe "Keeper" "pair_next" Keeper_pair_next_ 2 (eV 0) (aCons (eTup (aCons (eV 1) (aCons (eV 2) (aCons (eTup (aCons (eC (.str "mark")) aNil)) aNil)))) aNil))))
noncomputable def Keeper_now_ : FA := runF 3 Keeper_now_B
end K43
namespace Od
open PySem PySem.Spec PyProof.Rows L2
inductive Tr where
  | i (n : Int)
  | s (l : List Nat)
  | t (l : List Tr)
mutual
def bq : Tr → Tr → Bool
  | .i a, .i b => decide (a = b)
  | .s a, .s b => decide (a = b)
  | .t a, .t b => bqs a b
  | _, _ => false
def bqs : List Tr → List Tr → Bool
  | [], [] => true
  | x :: xs, y :: ys => bq x y && bqs xs ys
  | _, _ => false
end
mutual
theorem bq_iff : ∀ x y : Tr, bq x y = true ↔ x = y
  | .i a, .i b => by simp [bq]
  | .s a, .s b => by simp [bq]
  | .t a, .t b => by simp only [bq, Tr.t.injEq]; exact bqs_iff a b
  | .i _, .s _ => by simp [bq]
  | .i _, .t _ => by simp [bq]
  | .s _, .i _ => by simp [bq]
  | .s _, .t _ => by simp [bq]
  | .t _, .i _ => by simp [bq]
  | .t _, .s _ => by simp [bq]
theorem bqs_iff : ∀ x y : List Tr, bqs x y = true ↔ x = y
  | [], [] => by simp [bqs]
  | [], _ :: _ => by simp [bqs]
  | _ :: _, [] => by simp [bqs]
  | x :: xs, y :: ys => by
    simp only [bqs, Bool.and_eq_true, List.cons.injEq]
    rw [bq_iff x y, bqs_iff xs ys]
end
mutual
def lt : Tr → Tr → Bool
  | .i a, .i b => decide (a < b)
  | .i _, .s _ => true
  | .i _, .t _ => true
  | .s _, .i _ => false
  | .s a, .s b => strKind.blt a b
  | .s _, .t _ => true
  | .t _, .i _ => false
  | .t _, .s _ => false
  | .t a, .t b => lts a b
def lts : List Tr → List Tr → Bool
  | [], [] => false
  | [], _ :: _ => true
  | _ :: _, [] => false
  | x :: xs, y :: ys => if bq x y = true then lts xs ys else lt x y
end
mutual
theorem irr : ∀ x : Tr, lt x x = false
  | .i a => by simp [lt]
  | .s a => by simp only [lt]; exact strKind.irrefl a
  | .t a => by simp only [lt]; exact irrs a
theorem irrs : ∀ x : List Tr, lts x x = false
  | [] => by simp [lts]
  | x :: xs => by rw [lts, if_pos ((bq_iff x x).mpr rfl), irrs xs]
end
mutual
theorem tot : ∀ x y : Tr, lt x y = false → lt y x = false → x = y
  | .i a, .i b, h, g => by
    simp only [lt, decide_eq_false_iff_not] at h g
    rw [show a = b by omega]
  | .i _, .s _, h, _ => by simp [lt] at h
  | .i _, .t _, h, _ => by simp [lt] at h
  | .s _, .i _, _, g => by simp [lt] at g
  | .s a, .s b, h, g => by
    simp only [lt] at h g
    rw [strKind.total a b h g]
  | .s _, .t _, h, _ => by simp [lt] at h
  | .t _, .i _, _, g => by simp [lt] at g
  | .t _, .s _, _, g => by simp [lt] at g
  | .t a, .t b, h, g => by
    simp only [lt] at h g
    rw [tots a b h g]
theorem tots : ∀ x y : List Tr, lts x y = false → lts y x = false → x = y
  | [], [], _, _ => rfl
  | [], _ :: _, h, _ => by simp [lts] at h
  | _ :: _, [], _, g => by simp [lts] at g
  | x :: xs, y :: ys, h, g => by
    by_cases e : x = y
    · subst e
      rw [lts, if_pos ((bq_iff _ _).mpr rfl)] at h g
      rw [tots xs ys h g]
    · rw [lts, if_neg (fun z => e ((bq_iff _ _).mp z))] at h
      rw [lts, if_neg (fun z => e ((bq_iff _ _).mp z).symm)] at g
      exact absurd (tot x y h g) e
end
mutual
theorem tra : ∀ x y z : Tr, lt x y = true → lt y z = true → lt x z = true
  | .i a, .i b, .i c, h, g => by
    simp only [lt, decide_eq_true_eq] at h g ⊢
    omega
  | .i _, .i _, .s _, _, _ => by simp [lt]
  | .i _, .i _, .t _, _, _ => by simp [lt]
  | .i _, .s _, .i _, _, g => by simp [lt] at g
  | .i _, .s _, .s _, _, _ => by simp [lt]
  | .i _, .s _, .t _, _, _ => by simp [lt]
  | .i _, .t _, .i _, _, g => by simp [lt] at g
  | .i _, .t _, .s _, _, _ => by simp [lt]
  | .i _, .t _, .t _, _, _ => by simp [lt]
  | .s _, .i _, _, h, _ => by simp [lt] at h
  | .s _, .s _, .i _, _, g => by simp [lt] at g
  | .s a, .s b, .s c, h, g => by
    simp only [lt] at h g ⊢
    exact strKind.trans a b c h g
  | .s _, .s _, .t _, _, _ => by simp [lt]
  | .s _, .t _, .i _, _, g => by simp [lt] at g
  | .s _, .t _, .s _, _, g => by simp [lt] at g
  | .s _, .t _, .t _, _, _ => by simp [lt]
  | .t _, .i _, _, h, _ => by simp [lt] at h
  | .t _, .s _, _, h, _ => by simp [lt] at h
  | .t _, .t _, .i _, _, g => by simp [lt] at g
  | .t _, .t _, .s _, _, g => by simp [lt] at g
  | .t a, .t b, .t c, h, g => by
    simp only [lt] at h g ⊢
    exact tras a b c h g
theorem tras : ∀ x y z : List Tr, lts x y = true → lts y z = true → lts x z = true
  | [], [], _, h, _ => by simp [lts] at h
  | [], _ :: _, [], _, g => by simp [lts] at g
  | [], _ :: _, _ :: _, _, _ => by simp [lts]
  | _ :: _, [], _, h, _ => by simp [lts] at h
  | _ :: _, _ :: _, [], _, g => by simp [lts] at g
  | x :: xs, y :: ys, z :: zs, h, g => by
    by_cases e1 : x = y
    · subst e1
      rw [lts, if_pos ((bq_iff _ _).mpr rfl)] at h
      by_cases e2 : x = z
      · subst e2
        rw [lts, if_pos ((bq_iff _ _).mpr rfl)] at g ⊢
        exact tras xs ys zs h g
      · rw [lts, if_neg (fun w => e2 ((bq_iff _ _).mp w))] at g ⊢
        exact g
    · rw [lts, if_neg (fun w => e1 ((bq_iff _ _).mp w))] at h
      by_cases e2 : y = z
      · subst e2
        rw [lts, if_neg (fun w => e1 ((bq_iff _ _).mp w))]
        exact h
      · rw [lts, if_neg (fun w => e2 ((bq_iff _ _).mp w))] at g
        by_cases e3 : x = z
        · subst e3
          have := tra x y x h g
          rw [irr] at this
          cases this
        · rw [lts, if_neg (fun w => e3 ((bq_iff _ _).mp w))]
          exact tra x y z h g
end
theorem asy (a b : Tr) (h : lt a b = true) : lt b a = false := by
  cases e : lt b a with
  | false => rfl
  | true =>
    have := tra a b a h e
    rw [irr] at this
    cases this
theorem ntr (x y z : Tr) (h1 : lt y x = false) (h2 : lt z y = false) : lt z x = false := by
  cases e : lt z x with
  | false => rfl
  | true =>
    cases f : lt x y with
    | true =>
      rw [tra z x y e f] at h2
      cases h2
    | false =>
      have e2 := tot x y f h1
      subst e2
      rw [e] at h2
      cases h2
theorem lts_same (x : Tr) (xs ys : List Tr) : lts (x :: xs) (x :: ys) = lts xs ys := by rw [lts, if_pos ((bq_iff _ _).mpr rfl)]
theorem lts_other {x y : Tr} (h : x ≠ y) (xs ys : List Tr) : lts (x :: xs) (y :: ys) = lt x y := by rw [lts, if_neg (fun w => h ((bq_iff _ _).mp w))]
mutual
def toT : PyData → Tr
  | .int a => .i a
  | .str x => .s x.cps.toList
  | .tuple xs => .t (toTs xs)
  | _ => .i 0
def toTs : List PyData → List Tr
  | [] => []
  | x :: xs => toT x :: toTs xs
end
mutual
def sm : PyData → PyData → Bool
  | .int _, .int _ => true
  | .str _, .str _ => true
  | .tuple xs, .tuple ys => sms xs ys
  | _, _ => false
def sms : List PyData → List PyData → Bool
  | [], _ => true
  | _ :: _, [] => true
  | x :: xs, y :: ys => sm x y && sms xs ys
end
theorem str_inj {x y : Str} (h : x.cps.toList = y.cps.toList) : x = y := by
  have hc : x.cps = y.cps := Array.toList_inj.mp h
  cases x
  cases y
  simp only [Str.mk.injEq]
  exact hc
mutual
theorem eqv_iff : ∀ d e : PyData, sm d e = true → (PyData.eqv d e = true ↔ toT d = toT e)
  | .int a, .int b, _ => by simp [PyData.eqv, toT]
  | .str a, .str b, _ => by
    simp only [PyData.eqv, toT, beq_iff_eq, Tr.s.injEq]
    exact ⟨fun h => by rw [h], str_inj⟩
  | .tuple xs, .tuple ys, h => by
    simp only [sm] at h
    simp only [PyData.eqv, toT, Tr.t.injEq]
    exact eqvs_iff xs ys h
  | .none, _, h => by simp [sm] at h
  | .bool _, _, h => by simp [sm] at h
  | .list _, _, h => by simp [sm] at h
  | .dict _, _, h => by simp [sm] at h
  | .int _, .none, h => by simp [sm] at h
  | .int _, .bool _, h => by simp [sm] at h
  | .int _, .str _, h => by simp [sm] at h
  | .int _, .list _, h => by simp [sm] at h
  | .int _, .tuple _, h => by simp [sm] at h
  | .int _, .dict _, h => by simp [sm] at h
  | .str _, .none, h => by simp [sm] at h
  | .str _, .bool _, h => by simp [sm] at h
  | .str _, .int _, h => by simp [sm] at h
  | .str _, .list _, h => by simp [sm] at h
  | .str _, .tuple _, h => by simp [sm] at h
  | .str _, .dict _, h => by simp [sm] at h
  | .tuple _, .none, h => by simp [sm] at h
  | .tuple _, .bool _, h => by simp [sm] at h
  | .tuple _, .int _, h => by simp [sm] at h
  | .tuple _, .str _, h => by simp [sm] at h
  | .tuple _, .list _, h => by simp [sm] at h
  | .tuple _, .dict _, h => by simp [sm] at h
theorem eqvs_iff : ∀ d e : List PyData, sms d e = true → (PyData.eqvAll d e = true ↔ toTs d = toTs e)
  | [], [], _ => by simp [PyData.eqvAll]
  | [], _ :: _, _ => by simp [PyData.eqvAll, toTs]
  | _ :: _, [], _ => by simp [PyData.eqvAll, toTs]
  | x :: xs, y :: ys, h => by
    simp only [sms, Bool.and_eq_true] at h
    simp only [PyData.eqvAll, toTs, Bool.and_eq_true, List.cons.injEq]
    rw [eqv_iff x y h.1, eqvs_iff xs ys h.2]
end
end Od
namespace Od
open PySem PySem.Spec PyProof.Rows L2 SeqAt
open PySem.W (KatLex KatTups kat_lt kat_nil kat_cons kat_go kat_yes kat_no kat_kind)
def eT (l m : List Tr) (j : Nat) : Bool := match l[j]?, m[j]? with
  | some x, some y => bq x y
  | _, _ => false
def rT (l m : List Tr) (j : Nat) : Bool := match l[j]?, m[j]? with
  | some x, some y => lt x y
  | _, _ => false
theorem lexAt_up (e r : Nat → Bool) (z : Bool) : ∀ (k i : Nat), Ob.lexAt e r z (i + 1) k = Ob.lexAt (fun j => e (j + 1)) (fun j => r (j + 1)) z i k
  | 0, _ => rfl
  | k + 1, i => by rw [Ob.lexAt_succ, Ob.lexAt_succ, lexAt_up e r z k (i + 1)]
theorem lexAt_lts : ∀ l m : List Tr, Ob.lexAt (eT l m) (rT l m) (decide (l.length < m.length)) 0 (min l.length m.length) = lts l m
  | [], [] => by rfl
  | [], _ :: _ => by simp [lts, Ob.lexAt_zero]
  | _ :: _, [] => by simp [lts, Ob.lexAt_zero]
  | x :: l, y :: m => by
    have e : min (x :: l).length (y :: m).length = min l.length m.length + 1 := by simp only [List.length_cons]; omega
    rw [e, Ob.lexAt_succ, lexAt_up, show (decide ((x :: l).length < (y :: m).length)) = decide (l.length < m.length) by simp]
    have ih := lexAt_lts l m
    show (if bq x y = true then Ob.lexAt (eT l m) (rT l m) _ 0 _ else lt x y) = _
    rw [ih, lts]
theorem toTs_get : ∀ (ds : List PyData) (j : Nat) (d : PyData), ds[j]? = some d → (toTs ds)[j]? = some (toT d)
  | [], _, _, h => by simp at h
  | x :: xs, 0, d, h => by simp at h; subst h; simp [toTs]
  | x :: xs, j + 1, d, h => by simp only [toTs, List.getElem?_cons_succ] at h ⊢; exact toTs_get xs j d h
theorem toTs_len : ∀ ds : List PyData, (toTs ds).length = ds.length
  | [] => rfl
  | x :: xs => by simp [toTs, toTs_len xs]
theorem bq_eqv {d e : PyData} (h : sm d e = true) : PyData.eqv d e = bq (toT d) (toT e) := by
  have a := eqv_iff d e h
  have b := bq_iff (toT d) (toT e)
  cases x : PyData.eqv d e <;> cases y : bq (toT d) (toT e) <;> simp_all
theorem reads_tup {h : Heap} {v : Value} {xs : List PyData} {as : List Addr} (r : Reads h v (.tuple xs) as) : ∃ a o vs n as', v = .ref a ∧ h.get? a = some o ∧ o.cls = .type "tuple" ∧ o.data = .seq vs n ∧ ReadsAll h vs.toList xs as' := by
  cases r with
  | tuple ho hc hd r1 => exact ⟨_, _, _, _, _, rfl, ho, hc, hd, r1⟩
theorem reads_cons {h : Heap} {vs : List Value} {x : PyData} {xs : List PyData} {as : List Addr} (r : ReadsAll h vs (x :: xs) as) : ∃ v ws a1 a2, vs = v :: ws ∧ Reads h v x a1 ∧ ReadsAll h ws xs a2 := by
  cases r with
  | cons r1 r2 => exact ⟨_, _, _, _, rfl, r1, r2⟩
mutual
theorem rc_lt : ∀ (d e : PyData) (A : Around) (s : Shared) (a b : Value) (as bs : List Addr), Reads s.heap a d as → Reads s.heap b e bs → sm d e = true → d.canLay0 = true → e.canLay0 = true → A.units + d.depth + 1 < cLine → Ob.RcOp .Lt A s a b (lt (toT d) (toT e))
  | .int x, .int y, A, s, _, _, _, _, ra, rb, _, _, _, _ => by
    cases ra
    cases rb
    rw [toT, toT, lt]
    exact Ob.RcOp.lt_int _ _ _ _
  | .str x, .str y, A, s, _, _, _, _, ra, rb, _, _, _, _ => by
    cases ra
    cases rb
    rw [toT, toT, lt]
    exact fun prog w E Q h => P.lt_str h
  | .tuple xs, .tuple ys, A, s, _, _, _, _, ra, rb, h, ha, hb, hu => by
    obtain ⟨a, o, vs, n, as, rfl, ho, hc, hd, r1⟩ := reads_tup ra
    obtain ⟨b, o2, ws, n2, bs, rfl, ho2, hc2, hd2, r2⟩ := reads_tup rb
    simp only [PyData.depth] at hu
    simp only [PyData.canLay0] at ha hb
    simp only [sm] at h
    have I := rc_lts xs ys A.in1 s vs.toList ws.toList as bs r1 r2 h ha hb (by show A.units + 1 + PyData.depthAll xs + 1 < cLine; omega)
    have l1 := ReadsAll.length xs vs.toList as r1
    have l2 := ReadsAll.length ys ws.toList bs r2
    have t := Ob.RcOp.tuples_lt (A := A) (s := s) (l := a) (b := b) (items := vs) (items2 := ws) (e := eT (toTs xs) (toTs ys)) (r := rT (toTs xs) (toTs ys)) ⟨o, ho, hc, n, hd⟩ ⟨o2, ho2, hc2, n2, hd2⟩ (by omega) (fun j h1 h2 => ?_) (fun j h1 h2 _ => ?_)
    · rw [toT, toT, lt, ← lexAt_lts, toTs_len, toTs_len, ← l1, ← l2, Array.length_toList, Array.length_toList]
      exact t
    · obtain ⟨x, y, hx, hy, q, _⟩ := I j (by simpa using h1) (by simpa using h2)
      unfold eT
      rw [toTs_get _ _ _ hx, toTs_get _ _ _ hy]
      simpa using q
    · obtain ⟨x, y, hx, hy, _, q⟩ := I j (by simpa using h1) (by simpa using h2)
      unfold rT
      rw [toTs_get _ _ _ hx, toTs_get _ _ _ hy]
      simpa using q
  | .none, _, _, _, _, _, _, _, _, _, h, _, _, _ => by simp [sm] at h
  | .bool _, _, _, _, _, _, _, _, _, _, h, _, _, _ => by simp [sm] at h
  | .list _, _, _, _, _, _, _, _, _, _, h, _, _, _ => by simp [sm] at h
  | .dict _, _, _, _, _, _, _, _, _, _, h, _, _, _ => by simp [sm] at h
  | .int _, .none, _, _, _, _, _, _, _, _, h, _, _, _ => by simp [sm] at h
  | .int _, .bool _, _, _, _, _, _, _, _, _, h, _, _, _ => by simp [sm] at h
  | .int _, .str _, _, _, _, _, _, _, _, _, h, _, _, _ => by simp [sm] at h
  | .int _, .list _, _, _, _, _, _, _, _, _, h, _, _, _ => by simp [sm] at h
  | .int _, .tuple _, _, _, _, _, _, _, _, _, h, _, _, _ => by simp [sm] at h
  | .int _, .dict _, _, _, _, _, _, _, _, _, h, _, _, _ => by simp [sm] at h
  | .str _, .none, _, _, _, _, _, _, _, _, h, _, _, _ => by simp [sm] at h
  | .str _, .bool _, _, _, _, _, _, _, _, _, h, _, _, _ => by simp [sm] at h
  | .str _, .int _, _, _, _, _, _, _, _, _, h, _, _, _ => by simp [sm] at h
  | .str _, .list _, _, _, _, _, _, _, _, _, h, _, _, _ => by simp [sm] at h
  | .str _, .tuple _, _, _, _, _, _, _, _, _, h, _, _, _ => by simp [sm] at h
  | .str _, .dict _, _, _, _, _, _, _, _, _, h, _, _, _ => by simp [sm] at h
  | .tuple _, .none, _, _, _, _, _, _, _, _, h, _, _, _ => by simp [sm] at h
  | .tuple _, .bool _, _, _, _, _, _, _, _, _, h, _, _, _ => by simp [sm] at h
  | .tuple _, .int _, _, _, _, _, _, _, _, _, h, _, _, _ => by simp [sm] at h
  | .tuple _, .str _, _, _, _, _, _, _, _, _, h, _, _, _ => by simp [sm] at h
  | .tuple _, .list _, _, _, _, _, _, _, _, _, h, _, _, _ => by simp [sm] at h
  | .tuple _, .dict _, _, _, _, _, _, _, _, _, h, _, _, _ => by simp [sm] at h
theorem rc_lts : ∀ (xs ys : List PyData) (A : Around) (s : Shared) (vs ws : List Value) (as bs : List Addr), ReadsAll s.heap vs xs as → ReadsAll s.heap ws ys bs → sms xs ys = true → PyData.canLayAll0 xs = true → PyData.canLayAll0 ys = true → A.units + PyData.depthAll xs + 1 < cLine →
    ∀ j (h1 : j < vs.length) (h2 : j < ws.length), ∃ x y, xs[j]? = some x ∧ ys[j]? = some y ∧ EqAt A s vs[j] ws[j] (bq (toT x) (toT y)) ∧ Ob.RcOp .Lt A s vs[j] ws[j] (lt (toT x) (toT y))
  | [], _, _, _, _, _, _, _, ra, _, _, _, _, _, j, h1, _ => by cases ra; exact absurd h1 (Nat.not_lt_zero _)
  | _ :: _, [], _, _, _, _, _, _, _, rb, _, _, _, _, j, _, h2 => by cases rb; exact absurd h2 (Nat.not_lt_zero _)
  | x :: xs, y :: ys, A, s, _, _, _, _, ra, rb, h, ha, hb, hu, j, h1, h2 => by
    obtain ⟨v, vs, a1, a2, rfl, r1, r2⟩ := reads_cons ra
    obtain ⟨w, ws, b1, b2, rfl, q1, q2⟩ := reads_cons rb
    simp only [PyData.depthAll] at hu
    simp only [PyData.canLayAll0, Bool.and_eq_true] at ha hb
    simp only [sms, Bool.and_eq_true] at h
    cases j with
    | zero =>
      refine ⟨x, y, rfl, rfl, ?_, ?_⟩
      · have z := eqAt_reads x y A s v w a1 b1 r1 q1 ha.1 hb.1 (by omega)
        rw [bq_eqv h.1] at z
        exact z
      · exact rc_lt x y A s v w a1 b1 r1 q1 h.1 ha.1 hb.1 (by omega)
    | succ j =>
      exact rc_lts xs ys A s vs ws a2 b2 r2 q2 h.2 ha.2 hb.2 (by omega) j (Nat.lt_of_succ_lt_succ h1) (Nat.lt_of_succ_lt_succ h2)
end

def hd1 : PyData → Bool
  | .tuple (.int _ :: _) => true
  | .tuple (.str _ :: _) => true
  | _ => false
section
variable {prog : Program} {w : World} {A : Around} {E : Value → Shared → Prop} {s : Shared}
theorem one_lt {f : Bool} {p q : Value} {d e : PyData} {as bs : List Addr} {Q : Bool → Shared → Prop} (ra : Reads s.heap p d as) (rb : Reads s.heap q e bs) (h : sm d e = true) (ha : d.canLay0 = true) (hb : e.canLay0 = true) (hu : A.units + d.depth + 1 < cLine)
    (hf : f = true → (∃ n, d = .int n) ∨ ∃ x, d = .str x) (k : Q (lt (toT d) (toT e)) s) : wpAny (model prog w) A (oneLt' f p q) Q (fun _ _ => False) s := by
  cases f with
  | false =>
    rw [oneLt'_eq]
    simp only [Bool.false_eq_true, if_false]
    exact wpAny_bind (rc_lt d e A s p q as bs ra rb h ha hb hu prog w _ _ (wpAny_truthy_bool k))
  | true =>
    rcases hf rfl with ⟨n, rfl⟩ | ⟨x, rfl⟩
    · cases e with
      | int m =>
        cases ra
        cases rb
        rw [toT, toT, lt] at k
        exact oneLt_int k
      | _ => simp [sm] at h
    · cases e with
      | str y =>
        cases ra
        cases rb
        rw [toT, toT, lt] at k
        exact oneLt_str k
      | _ => simp [sm] at h
theorem kat_run {b fin : Bool} {Q : Bool → Shared → Prop} (hu : A.units + 60 < cLine) : ∀ (xs ys : List PyData) (ps qs : List Value) (as bs : List Addr) (i : Nat), ReadsAll s.heap ps xs as → ReadsAll s.heap qs ys bs → sms xs ys = true → PyData.canLayAll0 xs = true → PyData.canLayAll0 ys = true → PyData.depthAll xs ≤ 50 →
    (i = 0 → ∀ x, xs[0]? = some x → (∃ n, x = .int n) ∨ ∃ z, x = .str z) → fin = decide (ps.length < qs.length) → Q (lts (toTs xs) (toTs ys)) s → KatLex prog w A b fin Q (ps.zip qs) i s
  | [], [], _, _, _, _, i, ra, rb, _, _, _, _, _, hf, h => by
    cases ra
    cases rb
    have e : fin = false := by rw [hf]; rfl
    subst e
    exact kat_nil h
  | [], y :: ys, _, _, _, _, i, ra, rb, _, _, _, _, _, hf, h => by
    cases ra
    obtain ⟨w', ws, b1, b2, rfl, q1, q2⟩ := reads_cons rb
    have e : fin = true := by rw [hf]; exact decide_eq_true (Nat.succ_pos _)
    subst e
    rw [toTs, toTs, lts] at h
    exact kat_nil h
  | x :: xs, [], _, _, _, _, i, ra, rb, _, _, _, _, _, hf, h => by
    cases rb
    obtain ⟨w', ws, b1, b2, rfl, q1, q2⟩ := reads_cons ra
    have e : fin = false := by rw [hf]; exact decide_eq_false (Nat.not_lt_zero _)
    subst e
    rw [toTs, toTs, lts] at h
    exact kat_nil h
  | x :: xs, y :: ys, _, _, _, _, i, ra, rb, h, ha, hb, hd, h0, hf, k => by
    obtain ⟨v, vs, a1, a2, rfl, r1, r2⟩ := reads_cons ra
    obtain ⟨w', ws, b1, b2, rfl, q1, q2⟩ := reads_cons rb
    simp only [PyData.depthAll] at hd
    simp only [PyData.canLayAll0, Bool.and_eq_true] at ha hb
    simp only [sms, Bool.and_eq_true] at h
    have hf' : fin = decide (vs.length < ws.length) := by rw [hf]; simp only [List.length_cons, Nat.add_lt_add_iff_right]
    refine kat_cons (eqAt_reads x y A s v w' a1 b1 r1 q1 ha.1 hb.1 (by omega) prog w _ _ ?_)
    rw [bq_eqv h.1]
    refine kat_go (fun e => kat_yes ?_) (fun e => kat_no ?_)
    · have e2 := (bq_iff _ _).mp e
      refine kat_run hu xs ys vs ws a2 b2 (i + 1) r2 q2 h.2 ha.2 hb.2 (by omega) (fun z => absurd z (Nat.succ_ne_zero _)) hf' ?_
      rw [toTs, toTs, e2, lts_same] at k
      exact k
    · have ne : toT x ≠ toT y := fun z => by rw [(bq_iff _ _).mpr z] at e; cases e
      rw [toTs, toTs, lts_other ne] at k
      refine one_lt r1 q1 h.1 ha.1 hb.1 (by omega) (fun hb2 => h0 ?_ x rfl) k
      simp only [Bool.and_eq_true, beq_iff_eq] at hb2
      exact hb2.2
theorem key_run {b : Bool} {d e : PyData} {p q : Value} {as bs : List Addr} {Q : Bool → Shared → Prop} {E : Value → Shared → Prop} (hu : A.units + 60 < cLine) (ra : Reads s.heap p d as) (rb : Reads s.heap q e bs) (h : sm d e = true) (ha : d.canLay0 = true) (hb : e.canLay0 = true) (hd : d.depth ≤ 50) (h1 : hd1 d = true)
    (k : Q (lt (toT d) (toT e)) s) : wpAny (model prog w) A (keyLt' (tuples' b) p q) Q E s := by
  cases d with
  | tuple xs =>
    cases e with
    | tuple ys =>
      obtain ⟨a, o, vs, n, as', rfl, ho, hc, hdt, r1⟩ := reads_tup ra
      obtain ⟨a2, o2, ws, n2, bs', rfl, ho2, hc2, hdt2, r2⟩ := reads_tup rb
      simp only [PyData.depth] at hd
      simp only [PyData.canLay0] at ha hb
      simp only [sm] at h
      rw [toT, toT, lt] at k
      refine kat_lt ho hdt ho2 hdt2 (kat_run hu xs ys vs.toList ws.toList as' bs' 0 r1 r2 h ha hb (by omega) (fun _ x hx => ?_) (by rw [Array.length_toList, Array.length_toList]) k)
      cases xs with
      | nil => simp at hx
      | cons y ys =>
        cases hx
        cases x with
        | int n => exact .inl ⟨n, rfl⟩
        | str z => exact .inr ⟨z, rfl⟩
        | _ => simp [hd1] at h1
    | _ => simp [sm] at h
  | _ => simp [hd1] at h1

theorem hd_sm {d e : PyData} (h : sm d e = true) (h1 : hd1 d = true) (h2 : hd1 e = true) : True ∧ ((∃ n m r r', d = .tuple (.int n :: r) ∧ e = .tuple (.int m :: r')) ∨ ∃ n m r r', d = .tuple (.str n :: r) ∧ e = .tuple (.str m :: r')) := by
  cases d with
  | tuple xs =>
    cases e with
    | tuple ys =>
      cases xs with
      | nil => simp [hd1] at h1
      | cons x xs =>
        cases ys with
        | nil => simp [hd1] at h2
        | cons y ys =>
          simp only [sm, sms, Bool.and_eq_true] at h
          cases x with
          | int n =>
            cases y with
            | int m => exact ⟨trivial, .inl ⟨n, m, xs, ys, rfl, rfl⟩⟩
            | _ => simp [sm] at h
          | str n =>
            cases y with
            | str m => exact ⟨trivial, .inr ⟨n, m, xs, ys, rfl, rfl⟩⟩
            | _ => simp [sm] at h
          | _ => simp [hd1] at h1
    | _ => simp [sm] at h
  | _ => simp [hd1] at h1
theorem kind_run {vs : List Value} {Q : SortKind → Shared → Prop} {E : Value → Shared → Prop} (h2 : 0 < vs.length) (d0 : PyData) (h0 : hd1 d0 = true) (hv : ∀ v ∈ vs, ∃ d as, Reads s.heap v d as ∧ sm d0 d = true ∧ hd1 d = true) (q : Q (tuples' true) s) : wpAny (model prog w) A (keyKind' vs.toArray) Q E s := by
  have fs : ∀ l : List Value, (∀ v ∈ l, v ∈ vs) → ∃ fs, fs.length = l.length ∧ KatTups s.heap l fs ∧ ((∃ n r, d0 = .tuple (.int n :: r)) → ∀ v ∈ fs, ∃ n t, v = Value.int n t) ∧ ((∃ n r, d0 = .tuple (.str n :: r)) → ∀ v ∈ fs, ∃ n t, v = Value.str n t) := by
    intro l
    induction l with
    | nil => exact fun _ => ⟨[], rfl, KatTups.nil, fun _ => by simp, fun _ => by simp⟩
    | cons v l ih =>
      intro hl
      obtain ⟨fs, e, t, ti, ts⟩ := ih fun x hx => hl x (List.mem_cons_of_mem _ hx)
      obtain ⟨d, as, rd, hs, hd⟩ := hv v (hl v List.mem_cons_self)
      obtain ⟨_, hk⟩ := hd_sm hs h0 hd
      clear hd
      rcases hk with ⟨n, m, r, r', e1, rfl⟩ | ⟨n, m, r, r', e1, rfl⟩
      · obtain ⟨a, o, xs, k, as', rfl, ho, hc, hd, r1⟩ := reads_tup rd
        obtain ⟨v1, ws, a1, a2, ex, q1, q2⟩ := reads_cons r1
        cases q1 with
        | int i t' =>
        refine ⟨.int m t' :: fs, by simp [e], KatTups.cons ho hc hd ?_ t, fun _ => ?_, fun ⟨n', r2, e2⟩ => ?_⟩
        · rw [← Array.getElem?_toList, ex]
          rfl
        · intro u hu
          rcases List.mem_cons.mp hu with rfl | hu
          · exact ⟨_, _, rfl⟩
          · exact ti ⟨_, _, e1⟩ u hu
        · rw [e1] at e2
          cases e2
      · obtain ⟨a, o, xs, k, as', rfl, ho, hc, hd, r1⟩ := reads_tup rd
        obtain ⟨v1, ws, a1, a2, ex, q1, q2⟩ := reads_cons r1
        cases q1 with
        | str i t' =>
        refine ⟨.str m t' :: fs, by simp [e], KatTups.cons ho hc hd ?_ t, fun ⟨n', r2, e2⟩ => ?_, fun _ => ?_⟩
        · rw [← Array.getElem?_toList, ex]
          rfl
        · rw [e1] at e2
          cases e2
        · intro u hu
          rcases List.mem_cons.mp hu with rfl | hu
          · exact ⟨_, _, rfl⟩
          · exact ts ⟨_, _, e1⟩ u hu
  obtain ⟨fs, e, t, ti, ts⟩ := fs vs fun _ h => h
  have hd : (∃ n r, d0 = .tuple (.int n :: r)) ∨ ∃ n r, d0 = .tuple (.str n :: r) := by
    cases d0 with
    | tuple xs =>
      cases xs with
      | nil => simp [hd1] at h0
      | cons x xs =>
        cases x with
        | int n => exact .inl ⟨_, _, rfl⟩
        | str n => exact .inr ⟨_, _, rfl⟩
        | _ => simp [hd1] at h0
    | _ => simp [hd1] at h0
  rcases hd with hd | hd
  · have e1 : (Value.type "int" != Value.type "tuple") = true := by first | rfl | decide
    refine kat_kind (T := Value.type "int") t (by omega) (fun v hv => ?_) rfl (by rw [e1]; exact q)
    obtain ⟨k, t, rfl⟩ := ti hd v hv
    exact PySem.W.Looks.of_pure rfl
  · have e1 : (Value.type "str" != Value.type "tuple") = true := by first | rfl | decide
    refine kat_kind (T := Value.type "str") t (by omega) (fun v hv => ?_) rfl (by rw [e1]; exact q)
    obtain ⟨k, t, rfl⟩ := ts hd v hv
    exact PySem.W.Looks.of_pure rfl
end
end Od
namespace Od
open PySem PySem.Spec PyProof.Rows L2 SeqAt

def Old (g h : Heap) : Prop := ∀ b o, g.get? b = some o → h.get? b = some o
section
variable {pr : Program} {wd : World} {Ar : Around} {Rs : Result → Shared → Prop} {It ax : Addr} {its : Array Value} {g : Heap}
theorem Old.up {h1 h2 : Heap} {I S : Addr} (o : Old g h1) (gI : ∀ b x, g.get? b = some x → b ≠ I) (k : ∀ b x, b ∉ [I] → h1.get? b = some x → h2.get? b = some x) : Old g h2 := fun b x e => k b x (fun m => gI b x e (List.mem_singleton.mp m)) (o b x e)
end
end Od
namespace AL
open PySem PySem.Spec PyProof.Rows L2 G Th Od
variable [TT]
mutual
def dV : Val → PyData
  | .int i => .int i
  | .str x => .str x
  | .tup vs => .tuple (dVs vs)
  | _ => .none
def dVs : List Val → List PyData
  | [] => []
  | v :: vs => dV v :: dVs vs
end
mutual
def pureV : Val → Bool
  | .int _ => true
  | .str _ => true
  | .tup vs => pureVs vs
  | _ => false
def pureVs : List Val → Bool
  | [] => true
  | v :: vs => pureV v && pureVs vs
end
def trV (v : Val) : Tr := toT (dV v)
def ltV (a b : Val) : Bool := lt (trV a) (trV b)
def smV (a b : Val) : Bool := sm (dV a) (dV b)
def okV (v : Val) : Bool := pureV v && (dV v).canLay0 && decide ((dV v).depth ≤ 50)
mutual
theorem trV_inj : ∀ a b : Val, pureV a = true → pureV b = true → trV a = trV b → a = b
  | .int _, .int _, _, _, h => by simp only [trV, dV, toT, Tr.i.injEq] at h; rw [h]
  | .str _, .str _, _, _, h => by simp only [trV, dV, toT, Tr.s.injEq] at h; rw [str_inj h]
  | .tup xs, .tup ys, h1, h2, h => by
    simp only [trV, dV, toT, Tr.t.injEq] at h
    simp only [pureV] at h1 h2
    rw [trVs_inj xs ys h1 h2 h]
  | .int _, .str _, _, _, h => by simp [trV, dV, toT] at h
  | .int _, .tup _, _, _, h => by simp [trV, dV, toT] at h
  | .str _, .int _, _, _, h => by simp [trV, dV, toT] at h
  | .str _, .tup _, _, _, h => by simp [trV, dV, toT] at h
  | .tup _, .int _, _, _, h => by simp [trV, dV, toT] at h
  | .tup _, .str _, _, _, h => by simp [trV, dV, toT] at h
  | .non, _, h, _, _ => by simp [pureV] at h
  | .bl _, _, h, _, _ => by simp [pureV] at h
  | .ref _, _, h, _, _ => by simp [pureV] at h
  | .scr _, _, h, _, _ => by simp [pureV] at h
  | .lam _ _ _ _ _, _, h, _, _ => by simp [pureV] at h
  | .exc _ _ _ _, _, h, _, _ => by simp [pureV] at h
  | .ptu _, _, h, _, _ => by simp [pureV] at h
  | .int _, .non, _, h, _ => by simp [pureV] at h
  | .int _, .bl _, _, h, _ => by simp [pureV] at h
  | .int _, .ref _, _, h, _ => by simp [pureV] at h
  | .int _, .scr _, _, h, _ => by simp [pureV] at h
  | .int _, .lam _ _ _ _ _, _, h, _ => by simp [pureV] at h
  | .int _, .exc _ _ _ _, _, h, _ => by simp [pureV] at h
  | .int _, .ptu _, _, h, _ => by simp [pureV] at h
  | .str _, .non, _, h, _ => by simp [pureV] at h
  | .str _, .bl _, _, h, _ => by simp [pureV] at h
  | .str _, .ref _, _, h, _ => by simp [pureV] at h
  | .str _, .scr _, _, h, _ => by simp [pureV] at h
  | .str _, .lam _ _ _ _ _, _, h, _ => by simp [pureV] at h
  | .str _, .exc _ _ _ _, _, h, _ => by simp [pureV] at h
  | .str _, .ptu _, _, h, _ => by simp [pureV] at h
  | .tup _, .non, _, h, _ => by simp [pureV] at h
  | .tup _, .bl _, _, h, _ => by simp [pureV] at h
  | .tup _, .ref _, _, h, _ => by simp [pureV] at h
  | .tup _, .scr _, _, h, _ => by simp [pureV] at h
  | .tup _, .lam _ _ _ _ _, _, h, _ => by simp [pureV] at h
  | .tup _, .exc _ _ _ _, _, h, _ => by simp [pureV] at h
  | .tup _, .ptu _, _, h, _ => by simp [pureV] at h
theorem trVs_inj : ∀ a b : List Val, pureVs a = true → pureVs b = true → toTs (dVs a) = toTs (dVs b) → a = b
  | [], [], _, _, _ => rfl
  | [], _ :: _, _, _, h => by simp [dVs, toTs] at h
  | _ :: _, [], _, _, h => by simp [dVs, toTs] at h
  | x :: xs, y :: ys, h1, h2, h => by
    simp only [dVs, toTs, List.cons.injEq] at h
    simp only [pureVs, Bool.and_eq_true] at h1 h2
    rw [trV_inj x y h1.1 h2.1 h.1, trVs_inj xs ys h1.2 h2.2 h.2]
end
section
variable {K : PySem.W.Frag} {H : Hp} {m : List Addr}
mutual
theorem dV_dp : ∀ (v : Val) (u : V), VR K H m u v → pureV v = true → Dp K H u (dV v)
  | .int _, _, r, _ => by cases r; rw [dV]; exact .int _
  | .str _, _, r, _ => by cases r; rw [dV]; exact .str _
  | .tup vs, _, r, h => by
    simp only [pureV] at h
    cases r with
    | tup ha ra => rw [dV]; exact .tup ha.sq (dVs_dp vs _ ra h)
  | .non, _, _, h => by simp [pureV] at h
  | .bl _, _, _, h => by simp [pureV] at h
  | .ref _, _, _, h => by simp [pureV] at h
  | .scr _, _, _, h => by simp [pureV] at h
  | .lam _ _ _ _ _, _, _, h => by simp [pureV] at h
  | .exc _ _ _ _, _, _, h => by simp [pureV] at h
  | .ptu _, _, _, h => by simp [pureV] at h
theorem dVs_dp : ∀ (vs : List Val) (us : List V), VRs K H m us vs → pureVs vs = true → DpAll K H us (dVs vs)
  | [], _, r, _ => by cases r; rw [dVs]; exact .nil
  | v :: vs, _, r, h => by
    simp only [pureVs, Bool.and_eq_true] at h
    cases r with
    | cons a b => rw [dVs]; exact .cons (dV_dp v _ a h.1) (dVs_dp vs _ b h.2)
end
end
def insT (a : Val) : List Val → List Val
  | [] => [a]
  | b :: l => if ltV b a = true then b :: insT a l else a :: b :: l
def sortT : List Val → List Val
  | [] => []
  | a :: l => insT a (sortT l)
def Srt (l : List Val) : Prop := l.Pairwise fun x y => ltV y x = false
theorem insT_perm (a : Val) : ∀ l : List Val, (insT a l).Perm (a :: l)
  | [] => .refl _
  | b :: l => by
    unfold insT
    split
    · exact ((insT_perm a l).cons b).trans (.swap a b l)
    · exact .refl _
theorem sortT_perm : ∀ l : List Val, (sortT l).Perm l
  | [] => .refl _
  | a :: l => (insT_perm a _).trans ((sortT_perm l).cons a)
theorem insT_srt {a : Val} : ∀ {l : List Val}, Srt l → Srt (insT a l)
  | [], _ => List.pairwise_singleton _ _
  | b :: l, h => by
    obtain ⟨h1, h2⟩ := List.pairwise_cons.mp h
    unfold insT
    split
    · next hb =>
      refine List.pairwise_cons.mpr ⟨fun x hx => ?_, insT_srt h2⟩
      rcases List.mem_cons.mp ((insT_perm a l).mem_iff.mp hx) with rfl | hx
      · exact asy _ _ hb
      · exact h1 x hx
    · next hb =>
      refine List.pairwise_cons.mpr ⟨fun x hx => ?_, h⟩
      have hb : ltV b a = false := by simpa using hb
      rcases List.mem_cons.mp hx with rfl | hx
      · exact hb
      · exact ntr _ _ _ hb (h1 x hx)
theorem sortT_srt : ∀ l : List Val, Srt (sortT l)
  | [] => List.Pairwise.nil
  | a :: l => insT_srt (sortT_srt l)
theorem srt_uniq : ∀ {l m : List Val}, Srt l → Srt m → l.Perm m → (∀ v ∈ l, pureV v = true) → l = m
  | [], m, _, _, p, _ => (List.Perm.eq_nil p.symm).symm
  | x :: l, [], _, _, p, _ => absurd p.length_eq (by simp)
  | x :: l, y :: m, hl, hm, p, hp => by
    obtain ⟨l1, l2⟩ := List.pairwise_cons.mp hl
    obtain ⟨m1, m2⟩ := List.pairwise_cons.mp hm
    have e : x = y := by
      rcases List.mem_cons.mp (p.mem_iff.mp List.mem_cons_self) with e | hx
      · exact e
      · rcases List.mem_cons.mp (p.mem_iff.mpr List.mem_cons_self) with e | hy
        · exact e.symm
        · exact trV_inj x y (hp x List.mem_cons_self) (hp y (List.mem_cons_of_mem _ hy)) (tot _ _ (m1 x hx) (l1 y hy))
    subst e
    rw [srt_uniq l2 m2 p.cons_inv fun v hv => hp v (List.mem_cons_of_mem _ hv)]
theorem sortT_uniq {l m : List Val} (h : Srt l) (p : l.Perm m) (hp : ∀ v ∈ m, pureV v = true) : l = sortT m :=
  srt_uniq h (sortT_srt m) (p.trans (sortT_perm m).symm) fun v hv => hp v (p.mem_iff.mp hv)
theorem perm_up {α β : Type} {f : β → α} : ∀ {out ys : List α}, out.Perm ys → ∀ l : List β, ys = l.map f → ∃ l' : List β, l'.Perm l ∧ l'.map f = out := by
  intro out ys p
  induction p with
  | nil => exact fun l e => ⟨l, .refl _, e.symm⟩
  | cons x _ ih =>
    intro l e
    cases l with
    | nil => cases e
    | cons b l =>
      obtain ⟨e1, e2⟩ := List.cons.inj e
      obtain ⟨l', p', h'⟩ := ih l e2
      exact ⟨b :: l', p'.cons b, by rw [List.map_cons, h', e1]⟩
  | swap x y l0 =>
    intro l e
    match l, e with
    | b :: c :: l, e =>
      obtain ⟨e1, e2⟩ := List.cons.inj e
      obtain ⟨e2, e3⟩ := List.cons.inj e2
      exact ⟨c :: b :: l, .swap b c l, by rw [List.map_cons, List.map_cons, ← e1, ← e2, ← e3]⟩
  | trans _ _ i1 i2 =>
    intro l e
    obtain ⟨l1, p1, h1⟩ := i2 l e
    obtain ⟨l2, p2, h2⟩ := i1 l1 h1.symm
    exact ⟨l2, p2.trans p1, h2⟩
def okSort (vs : List Val) : Bool := vs.all okV && vs.all (fun v => hd1 (dV v)) && vs.all (fun a => vs.all fun b => smV a b) && decide (vs.length < 1000000)
def rSortT (K : PySem.W.Frag) : List V → Hp → VK → Prop := fun us H Q => ∃ (a : Addr) (xs : List V) (bs : List Val), us = [.ref a] ∧ SqL K H a xs ∧ xs.length = bs.length ∧ okSort bs = true ∧ (∀ (i : Nat) (u : V) (b : Val), xs[i]? = some u → bs[i]? = some b → Dp K H u (dV b)) ∧
  ∀ (zs : List (V × Val)) p, zs.Perm (xs.zip bs) → Srt (zs.map (·.2)) → H p = none → Q (.ref p) (upd H p (.lst (zs.map (·.1))))
theorem okSort_all {vs : List Val} (h : okSort vs = true) : (∀ v ∈ vs, pureV v = true ∧ (dV v).canLay0 = true ∧ (dV v).depth ≤ 50 ∧ hd1 (dV v) = true) ∧ (∀ a ∈ vs, ∀ b ∈ vs, sm (dV a) (dV b) = true) ∧ vs.length < 1000000 := by
  simp only [okSort, Bool.and_eq_true, List.all_eq_true, decide_eq_true_eq] at h
  obtain ⟨⟨⟨h1, h2⟩, h3⟩, h4⟩ := h
  refine ⟨fun v hv => ?_, h3, h4⟩
  have := h1 v hv
  simp only [okV, Bool.and_eq_true, decide_eq_true_eq] at this
  exact ⟨this.1.1, this.1.2, this.2, h2 v hv⟩
section
variable {X : Cx}
open Classical in
theorem cr_sortT (hu : X.A.units + 64 < cLine) : CallR X (.builtin "sorted") (rSortT X.K) := by
  intro pins s σ H vs us Q I r h
  obtain ⟨a, xs, bs, rfl, hs, hlen, hok, hd, q⟩ := h
  obtain ⟨ok1, ok2, ok3⟩ := okSort_all hok
  obtain ⟨its, rv, hl, hz⟩ := I.list hs
  obtain ⟨u, rfl, ru⟩ := vals1 r
  obtain rfl : u = Value.ref a := ru
  have li : its.length = bs.length := by rw [← rv.length, hlen]
  have rd : ∀ i (v : Value) b, its[i]? = some v → bs[i]? = some b → ∃ as, Reads s.heap v (dV b) as := fun i v b hv hb => by
    have l : i < xs.length := by rw [hlen]; exact (List.getElem?_eq_some_iff.mp hb).1
    obtain ⟨v', h1, h2⟩ := rv.get (List.getElem?_eq_getElem l)
    rw [hv] at h1
    cases h1
    exact Dp.reads I _ _ _ (hd i _ b (List.getElem?_eq_getElem l) hb) h2
  let f : Value → Tr := fun v => if g : ∃ d : PyData, d.canLay0 = true ∧ ∃ as, Reads s.heap v d as then toT g.choose else .i 0
  have fE : ∀ i (v : Value) b, its[i]? = some v → bs[i]? = some b → f v = trV b := fun i v b hv hb => by
    obtain ⟨as, hr⟩ := rd i v b hv hb
    have g : ∃ d : PyData, d.canLay0 = true ∧ ∃ as, Reads s.heap v d as := ⟨dV b, (ok1 b (List.mem_of_getElem? hb)).2.1, as, hr⟩
    show (if g : ∃ d : PyData, d.canLay0 = true ∧ ∃ as, Reads s.heap v d as then toT g.choose else .i 0) = _
    rw [dif_pos g]
    obtain ⟨c1, as2, c2⟩ := g.choose_spec
    rw [(Reads.unique c2 _ _ hr).1]
    rfl
  have fM : ∀ v ∈ its, ∃ i b, its[i]? = some v ∧ bs[i]? = some b ∧ b ∈ bs := fun v hv => by
    obtain ⟨i, hi⟩ := List.getElem?_of_mem hv
    have l : i < bs.length := by rw [← li]; exact (List.getElem?_eq_some_iff.mp hi).1
    exact ⟨i, bs[i], hi, List.getElem?_eq_getElem l, List.getElem_mem l⟩
  have O : SrtO.Swo (fun v w => lt (f v) (f w)) := ⟨fun x y h => asy _ _ h, fun x y z h1 h2 => ntr _ _ _ h1 h2⟩
  refine SrtO.sorted_ord O hl.isList (by rw [li]; exact Nat.le_of_lt (small ok3)) (fun h2 h₁ a' ha' kk => fun h' keep => ?_) fun out hs hb => ?_
  · have up : ∀ b o, s.heap.get? b = some o → h'.get? b = some o := fun b o e => keep b o (kk b o e).1 (kk b o e).2
    refine ⟨tuples' true, fun Q E hq => ?_, fun p q hp hq => ?_⟩
    · obtain ⟨i0, b0, _, _, hb0⟩ := fM its[0] (List.getElem_mem (by omega))
      refine kind_run (s := { s with heap := h' }) (by omega) (dV b0) (ok1 b0 hb0).2.2.2 (fun v hv => ?_) hq
      obtain ⟨i, b, e1, e2, mb⟩ := fM v hv
      obtain ⟨as, hr⟩ := rd i v b e1 e2
      exact ⟨dV b, as, Reads.keeps up hr, ok2 b0 hb0 b mb, (ok1 b mb).2.2.2⟩
    · obtain ⟨i, b, e1, e2, mb⟩ := fM p.1 hp
      obtain ⟨j, c, e3, e4, mc⟩ := fM q.1 hq
      obtain ⟨as, r1⟩ := rd i _ b e1 e2
      obtain ⟨as2, r2⟩ := rd j _ c e3 e4
      refine key_run (s := { s with heap := h' }) (A := X.A.in1.in1) (by show X.A.units + 1 + 1 + 60 < cLine; omega) (Reads.keeps up r1) (Reads.keeps up r2) (ok2 b mb c mc) (ok1 b mb).2.1 (ok1 c mc).2.1 (ok1 b mb).2.2.1 (ok1 b mb).2.2.2 ⟨rfl, ?_⟩
      show _ = lt (f p.1) (f q.1)
      rw [fE i _ b e1 e2, fE j _ c e3 e4]
      rfl
  · let L : List (Value × (V × Val)) := its.zip (xs.zip bs)
    have zl : (xs.zip bs).length = its.length := by rw [List.length_zip, hlen, li, Nat.min_self]
    have e1 : its = L.map (·.1) := (List.map_fst_zip (by omega)).symm
    have e2 : xs.zip bs = L.map (·.2) := (List.map_snd_zip (by omega)).symm
    obtain ⟨L', pL, eL⟩ := perm_up hb.perm L e1
    have inL : ∀ t ∈ L', ∃ i, its[i]? = some t.1 ∧ xs[i]? = some t.2.1 ∧ bs[i]? = some t.2.2 := fun t ht => by
      obtain ⟨i, hi⟩ := List.getElem?_of_mem (pL.mem_iff.mp ht)
      obtain ⟨g1, g2⟩ := List.getElem?_zip_eq_some.mp hi
      obtain ⟨g3, g4⟩ := List.getElem?_zip_eq_some.mp g2
      exact ⟨i, g1, g3, g4⟩
    have vals : ∀ l : List (Value × (V × Val)), (∀ t ∈ l, t ∈ L') → Vals ((l.map (·.2)).map (·.1)) (l.map (·.1)) := fun l => by
      induction l with
      | nil => exact fun _ => .nil
      | cons t l ih =>
        intro hl
        refine .cons ?_ (ih fun x hx => hl x (List.mem_cons_of_mem _ hx))
        obtain ⟨i, g1, g2, _⟩ := inL t (hl t List.mem_cons_self)
        obtain ⟨v, g3, g4⟩ := rv.get g2
        rw [g1] at g3
        cases g3
        exact g4
    have pz : (L'.map (·.2)).Perm (xs.zip bs) := by rw [e2]; exact pL.map _
    have sr : Srt ((L'.map (·.2)).map (·.2)) := by
      rw [List.map_map]
      refine List.pairwise_map.mpr ?_
      rw [← eL] at hs
      have hs2 := List.pairwise_map.mp hs
      refine hs2.imp_of_mem fun {t t'} ht ht' hh => ?_
      obtain ⟨i, g1, _, g3⟩ := inL t ht
      obtain ⟨j, k1, _, k3⟩ := inL t' ht'
      have this : lt (f t'.1) (f t.1) = false := hh
      rw [fE i _ _ g1 g3, fE j _ _ k1 k3] at this
      exact this
    refine ⟨.ref _, upd H _ (.lst ((L'.map (·.2)).map (·.1))), I.laid (t' := s.toks) (fun b o e => sortedAll_old e) (Nat.le_succ _) ?_, rfl, q _ _ pz sr (I.hok.fresh (Nat.le_succ _))⟩
    obtain ⟨n, hn⟩ := sortedAll_at s.heap its out.toArray
    refine ⟨?_, out, n, ?_, hn⟩
    · rw [List.length_map, pz.length_eq, zl, li]
      exact Nat.le_of_lt (small ok3)
    · have := vals L' fun _ h => h
      rw [eL] at this
      exact this
end
section
variable {K : PySem.W.Frag}
def gSortT : List Val → Sto → Option (Val × Sto) := fun xs S => match xs with
  | [.ref n] => match S[n]? with
    | some (.lst vs) => if okSort vs = true then some (.ref S.length, S ++ [.lst (sortT vs)]) else none
    | _ => none
  | _ => none
theorem vrs_of_zip {H : Hp} {m : List Addr} {xs : List V} {vs : List Val} (r : VRs K H m xs vs) {zs : List (V × Val)} (p : zs.Perm (xs.zip vs)) : VRs K H m (zs.map (·.1)) (zs.map (·.2)) := by
  have all : ∀ t ∈ xs.zip vs, VR K H m t.1 t.2 := fun t ht => by
    obtain ⟨i, hi⟩ := List.getElem?_of_mem ht
    obtain ⟨g1, g2⟩ := List.getElem?_zip_eq_some.mp hi
    obtain ⟨u, g3, g4⟩ := r.get g2
    rw [g1] at g3
    cases g3
    exact g4
  have go : ∀ l : List (V × Val), (∀ t ∈ l, t ∈ zs) → VRs K H m (l.map (·.1)) (l.map (·.2)) := fun l => by
    induction l with
    | nil => exact fun _ => .nil
    | cons t l ih => exact fun hl => .cons (all t (p.mem_iff.mp (hl t List.mem_cons_self))) (ih fun x hx => hl x (List.mem_cons_of_mem _ hx))
  exact go zs fun _ h => h
theorem cSortT : CaA K (rSortT K) gSortT := by
  intro m S H xs v S' us Q R ru e q
  unfold gSortT at e
  split at e
  · next n =>
    obtain ⟨u, rfl, r1⟩ := ru.one_of
    cases r1 with
    | ref hm =>
      split at e
      · next vs en =>
        split at e
        · next hok =>
          cases e
          obtain ⟨xs, hx, rx⟩ := R.ob _ _ _ en hm
          obtain ⟨ok1, _, _⟩ := okSort_all hok
          refine ⟨_, xs, vs, rfl, SqL.of hx, rx.len, hok, fun i u b h1 h2 => ?_, fun zs p pz sr hp => ?_⟩
          · obtain ⟨u', h3, h4⟩ := rx.get h2
            rw [h1] at h3
            cases h3
            exact dV_dp _ _ h4 (ok1 b (List.mem_of_getElem? h2)).1
          · have e2 : zs.map (·.2) = sortT vs := by
              refine sortT_uniq sr ?_ fun v hv => (ok1 v hv).1
              have := pz.map (·.2)
              rwa [List.map_snd_zip (by rw [rx.len]; exact Nat.le_refl _)] at this
            have rz := vrs_of_zip rx pz
            rw [e2] at rz
            exact newList R rz q p hp
        · cases e
      · cases e
  · cases e

def gSortedG : List Val → Sto → Option (Val × Sto) := fun xs S => (gSorted xs S).or (gSortT xs S)
def rSortedG (K : PySem.W.Frag) : List V → Hp → VK → Prop := fun x H Q => rSortedA K x H Q ∨ rSortT K x H Q
theorem call_sortedG {X : Cx} (hc : X.calm = true) (hu : X.A.units + 64 < cLine) : CallR X (.builtin "sorted") (rSortedG X.K) := CallR.or (call_sortedA hc) (cr_sortT hu)
theorem cSortedG : CaA K (rSortedG K) gSortedG := cSorted.or cSortT
end
section
variable {X : Cx} {K : PySem.W.Frag}
end
end AL
namespace AL
open PySem PySem.Spec PyProof.Rows L2 G Th
variable [TT]

structure FunW (K : PySem.W.Frag) (x qual : Str) (st : Stmt) (f : Addr) (fd : FuncData) : Prop where
  ex : ∃ (oc : Value) (od : Option Addr) (dV kV doc pm : Value) (an : Option Addr) (cdv ct : Value) (osl : Array (Option Value)),
    fd = PySem.W.fnOf x qual (defArgs st) (defBody st) (defScope st) dV kV doc pm an cdv ct ∧ K.lookup f = some ⟨oc, od, .func fd, osl⟩ ∧ PySem.W.codeIn K cdv qual = true
omit [TT] in
theorem FunW.of {K : PySem.W.Frag} {x qual : Str} {st : Stmt} {f : Addr} {fd : FuncData} {dvs : List V} {kws : List (Str × V)} (F : FunD K x qual (defArgs st) (defBody st) (defScope st) dvs kws f fd) : FunW K x qual st f fd := by
  obtain ⟨oc, od, dV, kV, doc, pm, an, cdv, ct, osl, e, lk, hcd, _, _⟩ := F.ex
  exact ⟨oc, od, dV, kV, doc, pm, an, cdv, ct, osl, e, lk, hcd⟩
end AL
namespace K57
open PySem PySem.Spec PyProof.Rows L2 G Th AL
noncomputable def own_best_B : SF := (sSeq (sAsg (.tp [(.nm 1), (.nm 2), (.nm 3)]) (eV 0))
    (sRet (eTup (aCons (eTup (aCons (eV 2) (aCons (eV 3) (aCons (eV 1) aNil)))) (aCons (eC (.int 0)) (aCons (eV 1) aNil))))))
noncomputable def own_best_ : FA := runF 4 own_best_B
end K57
namespace AL
open PySem PySem.Spec PyProof.Rows L2 G Th LamX
variable [TT]
end AL
namespace K56
open PySem PySem.Spec PyProof.Rows L2 G Th AL
open K57 (own_best_ own_best_B)
noncomputable def first_state_B : SF := (sRet (eCall gTuple (aCons (eLc (.nm 1) (iSeq (eB gIxA (eV 0) (eC (.int 0)))) bYes (eTup (aCons (eB gIxA (eV 1) (eC (.int 0))) (aCons (eDef own_best_ 1 (aCons (eV 1) aNil)) (aCons (eTup aNil) aNil)))) [1]) aNil)))
noncomputable def first_state_ : FA := runF 2 first_state_B
end K56
namespace OdMin
open PySem PySem.Spec PyProof.Rows L2 SeqAt
open Od (Old)
section
variable {pr : Program} {wd : World} {Ar : Around} {Rs : Result → Shared → Prop} {It ax : Addr} {its : Array Value} {g : Heap}
theorem Old.up {h1 h2 : Heap} {I S : Addr} (o : Old g h1) (gI : ∀ b x, g.get? b = some x → b ≠ I) (k : ∀ b x, b ∉ [I] → h1.get? b = some x → h2.get? b = some x) : Old g h2 := fun b x e => k b x (fun m => gI b x e (List.mem_singleton.mp m)) (o b x e)
end
end OdMin
namespace OdMax
open PySem PySem.Spec PyProof.Rows L2 SeqAt
open Od (Old)
section
variable {pr : Program} {wd : World} {Ar : Around} {Rs : Result → Shared → Prop} {It ax : Addr} {its : Array Value} {g : Heap}
theorem Old.up {h1 h2 : Heap} {I S : Addr} (o : Old g h1) (gI : ∀ b x, g.get? b = some x → b ≠ I) (k : ∀ b x, b ∉ [I] → h1.get? b = some x → h2.get? b = some x) : Old g h2 := fun b x e => k b x (fun m => gI b x e (List.mem_singleton.mp m)) (o b x e)
end
end OdMax
namespace AL
open PySem PySem.Spec PyProof.Rows L2 G Th
variable [TT]
section
variable {X : Cx}
variable {K : PySem.W.Frag}
end
end AL
namespace AL
open PySem PySem.Spec PyProof.Rows L2 G Th Od
variable [TT]
section
variable {X : Cx} {K : PySem.W.Frag}
end
end AL
namespace AL
open PySem PySem.Spec PyProof.Rows L2 G Th
variable [TT]

section
variable {X : Cx} {k n : Nat} {f CA : Addr} {fd : FuncData} {ps ks : List Str} {sp : Sp} {x C : Str} {p pos : Pos} {e : Expr} {es : List Expr} {kws : List Keyword} {t tk : TA} {ga gk : AF} {g : List Value → List Value → List Value} {gV : List V → List V → List V}
theorem run_makeKG {pins : List (Addr × Obj)} {σ : L2.St} {H : Hp} {s : Shared} {Q : VK} {us ws : List Value} {vs zs : List V} (M : Mk X.K CA f) (F : FnG X.prog X.w X.K X.mg X.base k f fd ps sp) (gd : X.A.guards = some []) (hr : Room (k + 1) X.A) (hb : KBn X.K fd ps (n + 1) ks g gV)
    (I : Inv X pins σ H s) (r : Vals vs us) (rz : Vals zs ws) (l1 : vs.length = n) (l2 : zs.length = ks.length)
    (h : ∀ x dx, H x = none → H dx = none → dx ≠ x → sp (gV (.ref x :: vs) zs) (upd (upd H dx (.own x)) x (.ins CA dx [])) (fun v H2 => v = .non ∧ Q (.ref x) H2) E0) :
    wpAny (model X.prog X.w) X.A (call (.ref CA) us (ks.zip ws)) (EP X pins σ Q) X.xe s := by
  have want := h (s.heap.objs.size + 1) s.heap.objs.size (I.hok.fresh (Nat.le_succ _)) (I.hok.fresh (Nat.le_refl _)) (Nat.ne_of_lt (Nat.lt_succ_self _))
  have I2 := Inv.made (C := CA) I
  have rr : Vals (V.ref (s.heap.objs.size + 1) :: vs) (Value.ref (s.heap.objs.size + 1) :: us) := .cons rfl r
  have b1 := hb.to _ (Value.ref (s.heap.objs.size + 1) :: us) ws I2.kIn (by rw [List.length_cons, ← r.length, l1]) (rz.length.symm.trans l2)
  have gu : (X.A.under (.builtin "type.__call__" ⟨.ref CA :: us, ks.zip ws⟩)).guards = some [] := gd
  refine wpAny_call (make_map (f := f) I.kIn M.makes M.init (beq_iff_eq.mp M.fn) (codeAny_mono (F.run _ X.stack _ _ ⟨Value.ref (s.heap.objs.size + 1) :: us, ks.zip ws⟩ _ _ _ E0 gu (hr.make CA us (ks.zip ws)) (I2.env0.make CA us (ks.zip ws)) b1 (hb.rel rr rz) want) ?_))
  intro res s' c
  match res, c with
  | .error _, c => exact False.elim c
  | .ok (.ret u), c =>
    obtain ⟨v, H', I3, rv, rfl, q3⟩ := I2.after c
    exact ⟨rv, ⟨V.ref (s.heap.objs.size + 1), H', I3, rfl, q3⟩⟩
  | .ok .next, c => exact False.elim c
  | .ok .brk, c => exact False.elim c
  | .ok .cont, c => exact False.elim c
theorem pe_makeKG (M : Mk X.K CA f) (F : FnG X.prog X.w X.K X.mg X.base k f fd ps sp) (gd : X.A.guards = some []) (hr : Room (k + 1) X.A) (hg : Gl X x) (hm : X.mg x = some (.ref CA)) (hb : KBn X.K fd ps (n + 1) ks g gV)
    (ha : PA X (e :: es) t) (hkw : PK X kws tk) (hall : (backToKw pos (keywordEach kws X.env)).all (·.1.isSome) = true) (hks : (backToKw pos (keywordEach kws X.env)).filterMap (·.1) = ks)
    (hdb : (x == ("__debug__" : Str)) = false) (he : starEach (e :: es) X.env = (false, eval e X.env) :: starEach es X.env)
    (hpl : ((backTo pos (starEach (e :: es) X.env)).any (·.1) || (backToKw pos (keywordEach kws X.env)).any (·.1.isNone)) = false) :
    PE X (.Call (.Name x p) (e :: es) kws pos) (fun σ H Q => t σ H fun vs H1 => tk σ H1 fun zs H2 => vs.length = n ∧ zs.length = ks.length ∧ ∀ y dx, H2 y = none → H2 dx = none → dx ≠ y → sp (gV (.ref y :: vs) zs) (upd (upd H2 dx (.own y)) y (.ins CA dx [])) (fun v H3 => v = .non ∧ Q (.ref y) H3) E0) := by
  refine ⟨fun pins s σ H Q I h => ?_⟩
  refine wpAny_Call_Name_kw (ld_glob I hg hm ?_ hdb)
  refine PySem.W.callWith_KW (h₀ := X.base) I.ok.mod.kin M.kp hall (thn (ha.run pos pins s σ H _ I h) fun us s1 ⟨vs, H1, I1, r, q⟩ => ?_) hpl he
  refine thn (hkw.run pos pins s1 σ H1 _ I1 q) fun ws s2 ⟨zs, H2, I2, rz, l1, l2, q2⟩ => ⟨I2.kIn, ?_⟩
  rw [hks]
  exact run_makeKG M F gd hr hb I2 r rz l1 l2 q2

structure MadeK (P : Program) (w : World) (K : PySem.W.Frag) (mg : Str → Option Value) (base : Heap) (k : Nat) (C : Str) (n : Nat) (ks : List Str) (gA : List Val → List Val → List Val) (F : FA) : Prop where
  ex : ∃ (f : Addr) (fd : FuncData) (ps : List Str) (g : List Value → List Value → List Value) (gV : List V → List V → List V), FnG P w K mg base k f fd ps (spA K ps.length F) ∧ KBn K fd ps (n + 1) ks g gV ∧ Mk K (TT.cls C) f ∧ mg C = some (.ref (TT.cls C)) ∧
    ∀ (H : Hp) (m : List Addr) (vs zs : List V) (as bs : List Val), VRs K H m vs as → VRs K H m zs bs → as.length = n + 1 → bs.length = ks.length → VRs K H m (gV vs zs) (gA as bs) ∧ (gA as bs).length = ps.length
def eMkK (C : Str) (F : FA) (n m : Nat) (gA : List Val → List Val → List Val) (ga gk : AF) : EF := fun ρ S => (ga ρ S).bind fun p => (gk ρ p.2).bind fun q => if p.1.length = n ∧ q.1.length = m then (F (gA (.ref q.2.length :: p.1) q.1) (q.2 ++ [.obj C []])).bind fun r => match r.1 with
  | .non => some (.ref q.2.length, r.2)
  | _ => none
  else none
theorem aMkK {F : FA} {gA : List Val → List Val → List Val} (D : MadeK X.prog X.w X.K X.mg X.base k C n ks gA F) (gd : X.A.guards = some []) (hr : Room (k + 1) X.A) (hgl : Gl X C) (ha : AA X (e :: es) ga) (hkw : PK X kws (tFa X.K gk))
    (hall : (backToKw pos (keywordEach kws X.env)).all (·.1.isSome) = true := by rfl) (hks : (backToKw pos (keywordEach kws X.env)).filterMap (·.1) = ks := by rfl)
    (hdb : (C == ("__debug__" : Str)) = false := by decide) (he : starEach (e :: es) X.env = (false, eval e X.env) :: starEach es X.env := by rfl)
    (hpl : ((backTo pos (starEach (e :: es) X.env)).any (·.1) || (backToKw pos (keywordEach kws X.env)).any (·.1.isNone)) = false := by rfl) {m : Nat} (hm : ks.length = m := by rfl) : AE X (.Call (.Name C p) (e :: es) kws pos) (eMkK C F n m gA ga gk) := by
  subst hm
  obtain ⟨f, fd, ps, g', gV, hF, hb, hM, hmC, rel⟩ := D.ex
  refine pe_w (pe_makeKG hM hF gd hr hgl hmC hb ha hkw hall hks hdb he hpl) fun σ H Q h => ?_
  obtain ⟨m, ρ, S, v, S', R, r, e, q⟩ := h
  obtain ⟨⟨x1, S1⟩, e1, e⟩ := Option.bind_eq_some_iff.mp e
  obtain ⟨⟨x2, S2⟩, e2, e⟩ := Option.bind_eq_some_iff.mp e
  dsimp only at e
  split at e
  · next hl =>
    obtain ⟨⟨w, S3⟩, e3, e⟩ := Option.bind_eq_some_iff.mp e
    dsimp only at e
    split at e
    · cases e
      refine ⟨m, ρ, S, x1, S1, R, r, e1, fun m1 us H1 E1 R1 r1 => ⟨m1, ρ, S1, x2, S2, R1, r.kp (E1.kp R), e2, fun m2 ws H2 E2 R2 r2 => ?_⟩⟩
      have r1' := r1.kp (E2.kp R1)
      refine ⟨by rw [r1'.len]; exact hl.1, by rw [r2.len]; exact hl.2, fun y dx hy hdx ne => ?_⟩
      obtain ⟨Ra, Ea⟩ := R2.tmp (o := .own y) hdx
      have hy' : upd H2 dx (.own y) y = none := by rw [upd_ne (Ne.symm ne)]; exact hy
      obtain ⟨Rb, Eb⟩ := Ra.alloc (o := .ins (TT.cls C) dx []) (b := .obj C []) hy' ⟨dx, [], upd_same, rfl, .nil⟩
      have r3 := (r1'.kp (Ea.kp R2)).kp (Eb.kp Ra)
      have r4 := (r2.kp (Ea.kp R2)).kp (Eb.kp Ra)
      have ry : VR X.K (upd (upd H2 dx (.own y)) y (.ins (TT.cls C) dx [])) (m2 ++ [y]) (.ref y) (.ref S2.length) := .ref (by rw [← R2.len, List.getElem?_concat_length])
      obtain ⟨rg, lg⟩ := rel _ _ (.ref y :: us) ws (.ref S2.length :: x1) x2 (.cons ry r3) r4 (by rw [List.length_cons, hl.1]) hl.2
      refine ⟨by rw [rg.len]; exact lg, m2 ++ [y], S2 ++ [.obj C []], _, .non, _, Rb, rg, e3, fun m' z H' E' R' rz => ?_⟩
      cases rz
      refine ⟨rfl, q m' (.ref y) H' (((E1.trans E2).trans (Ea.trans Eb)).trans E') R' (.ref ?_)⟩
      refine (E'.kp Rb).get ?_
      rw [← R2.len, List.getElem?_concat_length]
    · cases e
  · cases e
end
section
variable {P : Program} {w : World} {K : PySem.W.Frag} {mg : Str → Option Value} {base : Heap} {k n : Nat} {C qual : Str} {st : Stmt} {f : Addr} {fd : FuncData} {ps : List Str} {F : FA} {kws : List (Str × V)} {ks : List Str}
theorem madek_in (G : FnG P w K mg base k f fd ps (spA K ps.length F)) (M : Mk K (TT.cls C) f) (hm : mg C = some (.ref (TT.cls C))) (FD : FunD K "__init__" qual (defArgs st) (defBody st) (defScope st) [] kws f fd) (hk : kws ≠ []) (hl : n + 1 + ks.length = ps.length)
    (h : ∀ (D : Addr) (doc pm : Value) (an : Option Addr) (cdv ct : Value) (us mv ws : List Value), us.length = n + 1 → mv.length = ([] : List (Str × V)).length → ws.length = ks.length →
      KwChain D ((([] : List (Str × V)).map (·.1)).zip mv) (bindArgs (PySem.W.fnOf "__init__" qual (defArgs st) (defBody st) (defScope st) .none (.ref D) doc pm an cdv ct) ⟨us, ks.zip ws⟩) (ps.zip (us ++ ws))) :
    MadeK P w K mg base k C n ks (fun as bs => as ++ bs) F := by
  obtain ⟨mv, hb⟩ := FD.kbinds0 (ps := ps) (n + 1) ks [] (fun us _ ws => us ++ ws) hk (fun q hq => by cases hq) (fun r1 _ r3 => r1.append r3) h
  refine ⟨f, fd, ps, _, _, G, hb, M, hm, fun H m vs zs as bs r1 r2 l1 l2 => ⟨r1.app r2, ?_⟩⟩
  rw [List.length_append, l1, l2]
  exact hl
end
end AL
namespace K58
open PySem PySem.Spec PyProof.Rows L2 G Th AL
open K57 (own_best_ own_best_B)
open K56 (first_state_ first_state_B)
noncomputable def NetRun_init_B : SF := (sSeq (sFldS "NetRun" "net" (eV 0) (eV 1))
    (sSeq (sFldS "NetRun" "most" (eV 0) (eV 2))
    (sSeq (sFldS "NetRun" "age" (eV 0) (eV 3))
    (sSeq (sFldS "NetRun" "state" (eV 0) (eDef first_state_ 1 (aCons (eV 1) aNil)))
    (sSeq (sFldS "NetRun" "wires_up" (eV 0) (eB gIxA (eV 1) (eC (.int 1))))
    (sFldS "NetRun" "turns" (eV 0) (eLst aNil)))))))
noncomputable def NetRun_init_ : FA := runF 4 NetRun_init_B
end K58
namespace K76
open PySem PySem.Spec PyProof.Rows L2 G Th AL
open K37 (common_divisor_ common_divisor_B ratio_ ratio_B added_ added_B added_told_ added_told_B less_ less_B parted_ parted_B is_below_ is_below_B least_of_ least_of_B greatest_of_ greatest_of_B drift_of_ drift_of_B moves_into_ moves_into_B moved_end_ moved_end_B ends_told_ ends_told_B kept_pair_ kept_pair_B is_lessL_ is_lessL_B)
open K43 (Keeper_init_ Keeper_init_B Keeper_bar_place_ Keeper_bar_place_B Keeper_bar_send_ Keeper_bar_send_B Keeper_bar_number_ Keeper_bar_number_B Keeper_bar_hear_ Keeper_bar_hear_B Keeper_bar_deed_ Keeper_bar_deed_B Keeper_pair_next_ Keeper_pair_next_B Keeper_note_ Keeper_note_B Keeper_history_ Keeper_history_B Keeper_now_ Keeper_now_B Keeper_pair_ Keeper_pair_B)
open K57 (own_best_ own_best_B)
open K56 (first_state_ first_state_B)
open K58 (NetRun_init_ NetRun_init_B)
noncomputable def feedL_B : SF := (sRet (eLst (aCons (eSl gSl (eV 0) oN (oS (eC (.int 63)))) (aCons (eC (.int 0)) (aCons (eC (.int 0)) (aCons (eC (.int 0)) aNil))))))
noncomputable def feedL_ : FA := runF 1 feedL_B
noncomputable def drawL_B : SF := (sSeq (sIf (eT (eB gGt (eB gIxA (eV 0) (eC (.int 2))) (eC (.int 0)))) (sSeq (sAsg (.nm 5) (eB gMod (eB gIxA (eV 0) (eC (.int 2))) (eV 1)))
    (sSeq (sSub gSetA (eV 0) (eC (.int 2)) (eB gDiv (eB gIxA (eV 0) (eC (.int 2))) (eV 1)))
    (sRet (eV 5)))) sNil)
    (sSeq (sAsg (.nm 2) (eB gIxA (eV 0) (eC (.int 1))))
    (sSeq (sSub gSetA (eV 0) (eC (.int 1)) (eB gAdd (eV 2) (eC (.int 1))))
    (sSeq (sSub gSetA (eV 0) (eC (.int 3)) (eB gAdd (eB gIxA (eV 0) (eC (.int 3))) (eC (.int 1))))
    (sSeq (sAsg (.nm 3) (eIf (eT (eB gGt (eCall gLen (aCons (eB gIxA (eV 0) (eC (.int 0))) aNil)) (eC (.int 0)))) (eB gIxA (eB gIxA (eV 0) (eC (.int 0))) (eB gMod (eV 2) (eCall gLen (aCons (eB gIxA (eV 0) (eC (.int 0))) aNil)))) (eC (.int 0))))
    (sSeq (sIf (bAnd (eT (eB gGe (eV 3) (eB gPow (eC (.int 10)) (eC (.int 18))))) (eT (eB gLt (eV 2) (eCall gLen (aCons (eB gIxA (eV 0) (eC (.int 0))) aNil))))) (sSeq (sSub gSetA (eV 0) (eC (.int 2)) (eB gDiv (eV 3) (eV 1)))
    (sRet (eB gMod (eV 3) (eV 1)))) sNil)
    (sSeq (sAsg (.nm 4) (eB gMod (eB gPow (eB gAdd (eB gAdd (eB gMod (eV 3) (eC (.int 1000003))) (eB gMul (eC (.int 613)) (eB gIxA (eV 0) (eC (.int 3))))) (eC (.int 17))) (eC (.int 5))) (eC (.int 2147483647))))
    (sRet (eB gMod (eB gDiv (eB gMod (eB gPow (eB gAdd (eV 4) (eB gMul (eC (.int 4099)) (eB gIxA (eV 0) (eC (.int 3))))) (eC (.int 5))) (eC (.int 2147483587))) (eC (.int 7))) (eV 1))))))))))
noncomputable def drawL_ : FA := runF 6 drawL_B
noncomputable def fracL_B : SF := (sSeq (sPar [2, 3] (aCons (eCall gAbs (aCons (eV 0) aNil)) (aCons (eV 1) aNil)))
    (sSeq (sWhile (eT (eB gGt (eV 3) (eC (.int 0)))) (sPar [2, 3] (aCons (eV 3) (aCons (eB gMod (eV 2) (eV 3)) aNil))))
    (sRet (eTup (aCons (eB gDiv (eV 0) (eV 2)) (aCons (eB gDiv (eV 1) (eV 2)) aNil))))))
noncomputable def fracL_ : FA := runF 4 fracL_B
noncomputable def addL_B : SF := (sRet (eDef fracL_ 2 (aCons (eB gAdd (eB gMul (eB gIxA (eV 0) (eC (.int 0))) (eB gIxA (eV 1) (eC (.int 1)))) (eB gMul (eB gIxA (eV 1) (eC (.int 0))) (eB gIxA (eV 0) (eC (.int 1))))) (aCons (eB gMul (eB gIxA (eV 0) (eC (.int 1))) (eB gIxA (eV 1) (eC (.int 1)))) aNil))))
noncomputable def addL_ : FA := runF 2 addL_B
noncomputable def mulL_B : SF := (sRet (eDef fracL_ 2 (aCons (eB gMul (eB gIxA (eV 0) (eC (.int 0))) (eB gIxA (eV 1) (eC (.int 0)))) (aCons (eB gMul (eB gIxA (eV 0) (eC (.int 1))) (eB gIxA (eV 1) (eC (.int 1)))) aNil))))
noncomputable def mulL_ : FA := runF 2 mulL_B
noncomputable def minusL_B : SF := (sRet (eTup (aCons (eB gSub (eC (.int 0)) (eB gIxA (eV 0) (eC (.int 0)))) (aCons (eB gIxA (eV 0) (eC (.int 1))) aNil))))
noncomputable def minusL_ : FA := runF 1 minusL_B
noncomputable def fieldL_B : SF := (sSeq (sAsg (.nm 1) (eSl gSl (eLst (aCons (eC (.str "an")) (aCons (eC (.str "bo")) (aCons (eC (.str "zz")) aNil)))) oN (oS (eB gAdd (eC (.int 1)) (eDef drawL_ 2 (aCons (eV 0) (aCons (eC (.int 3)) aNil)))))))
    (sSeq (sAsg (.tp [(.nm 4), (.nm 5)]) (eTup (aCons (eLst (aCons (eTup (aCons (eC (.int 1)) (aCons (eC (.int 1)) aNil))) (aCons (eTup (aCons (eC (.int 9)) (aCons (eC (.int 10)) aNil))) (aCons (eTup (aCons (eC (.int 1)) (aCons (eC (.int 2)) aNil))) (aCons (eTup (aCons (eC (.int 3)) (aCons (eC (.int 4)) aNil))) aNil))))) (aCons (eLst (aCons (eTup (aCons (eC (.int 1)) (aCons (eC (.int 1)) aNil))) (aCons (eTup (aCons (eC (.int 11)) (aCons (eC (.int 10)) aNil))) (aCons (eTup (aCons (eC (.int 2)) (aCons (eC (.int 1)) aNil))) (aCons (eTup (aCons (eC (.int 5)) (aCons (eC (.int 4)) aNil))) aNil))))) aNil))))
    (sSeq (sAsg (.nm 2) (eB gAdd (eLc (.nm 12) (iSeq (eV 1)) bYes (eTup (aCons (eV 12) (aCons (eB gIxA (eV 4) (eDef drawL_ 2 (aCons (eV 0) (aCons (eC (.int 4)) aNil)))) (aCons (eB gIxA (eV 5) (eDef drawL_ 2 (aCons (eV 0) (aCons (eC (.int 4)) aNil)))) aNil)))) [12]) (eLst (aCons (eTup (aCons (eC (.str "s")) (aCons (eTup (aCons (eC (.int 1)) (aCons (eC (.int 1)) aNil))) (aCons (eTup (aCons (eC (.int 1)) (aCons (eC (.int 1)) aNil))) aNil)))) aNil))))
    (sSeq (sPar [6, 7] (aCons (eLst aNil) (aCons (eB gAdd (eV 1) (eLst (aCons (eC (.str "s")) aNil))) aNil)))
    (sSeq (sFor (.nm 3) (iRg1 (aCons (eB gAdd (eC (.int 2)) (eDef drawL_ 2 (aCons (eV 0) (aCons (eC (.int 5)) aNil)))) aNil)) (sSeq (sAsg (.nm 8) (eB gIxA (eV 7) (eDef drawL_ 2 (aCons (eV 0) (aCons (eCall gLen (aCons (eV 7) aNil)) aNil)))))
    (sSeq (sAsg (.nm 9) (eLc (.nm 12) (iSeq (eV 7)) (eT (eB gNe (eV 12) (eV 8))) (eV 12) [12]))
    (sSeq (sAsg (.nm 10) (eB gIxA (eLst (aCons (eTup (aCons (eC (.int 0)) (aCons (eC (.int 1)) aNil))) (aCons (eTup (aCons (eC (.int 1)) (aCons (eC (.int 1)) aNil))) (aCons (eTup (aCons (eC (.int 1)) (aCons (eC (.int 2)) aNil))) (aCons (eTup (aCons (eC (.int 3)) (aCons (eC (.int 1)) aNil))) aNil))))) (eDef drawL_ 2 (aCons (eV 0) (aCons (eC (.int 4)) aNil)))))
    (sSeq (sAsg (.nm 11) (eB gIxA (eLst (aCons (eC .non) (aCons (eV 10) (aCons (eDef addL_ 2 (aCons (eV 10) (aCons (eTup (aCons (eC (.int 1)) (aCons (eC (.int 2)) aNil))) aNil))) (aCons (eDef addL_ 2 (aCons (eV 10) (aCons (eTup (aCons (eC (.int 4)) (aCons (eC (.int 1)) aNil))) aNil))) aNil))))) (eDef drawL_ 2 (aCons (eV 0) (aCons (eC (.int 4)) aNil)))))
    (sExpr (eMt isL gApp (eV 6) (aCons (eTup (aCons (eV 8) (aCons (eB gIxA (eV 9) (eDef drawL_ 2 (aCons (eV 0) (aCons (eCall gLen (aCons (eV 9) aNil)) aNil)))) (aCons (eV 10) (aCons (eV 11) aNil))))) aNil))))))))
    (sRet (eTup (aCons (eCall gTuple (aCons (eCall gSortedG (aCons (eV 2) aNil)) aNil)) (aCons (eCall gTuple (aCons (eV 6) aNil)) (aCons (eC (.str "s")) aNil))))))))))
noncomputable def fieldL_ : FA := runF 13 fieldL_B
noncomputable def clocksL_B : SF := (sSeq (sAsg (.nm 2) eDic)
    (sSeq (sFor (.tp [(.nm 3), (.nm 4), (.nm 5)]) (iSeq (eB gIxA (eV 1) (eC (.int 0)))) (sSeq (sAsg (.nm 6) (eB gIxA (eLst (aCons (eV 4) (aCons (eV 5) (aCons (eTup (aCons (eC (.int 1)) (aCons (eC (.int 1)) aNil))) aNil)))) (eDef drawL_ 2 (aCons (eV 0) (aCons (eC (.int 3)) aNil)))))
    (sSub gSetA (eV 2) (eV 3) (eTup (aCons (eTup (aCons (eDef drawL_ 2 (aCons (eV 0) (aCons (eC (.int 9)) aNil))) (aCons (eC (.int 1)) aNil))) (aCons (eV 6) aNil))))))
    (sRet (eV 2))))
noncomputable def clocksL_ : FA := runF 7 clocksL_B
noncomputable def stampL_B : SF := (sSeq (sAsg (.tp [(.nm 3), (.nm 4)]) (eB gIxA (eV 0) (eV 1)))
    (sRet (eDef addL_ 2 (aCons (eV 3) (aCons (eDef mulL_ 2 (aCons (eV 4) (aCons (eV 2) aNil))) aNil)))))
noncomputable def stampL_ : FA := runF 5 stampL_B
noncomputable def can_hearL_B : SF := (sSeq (sAsg (.nm 5) (eLst aNil))
    (sSeq (sFor (.tp [(.nm 6), (.tp [(.nm 7), (.nm 8), (.nm 9)])]) (iEn (aCons (eV 1) aNil)) (sIf (bAnd (eT (eB gEq (eB gIxA (eV 9) (eC (.int 0))) (eC (.str "send")))) (eT (eB gEq (eB gIxA (eB gIxA (eB gIxA (eV 0) (eC (.int 1))) (eB gIxA (eV 9) (eC (.int 1)))) (eC (.int 1))) (eV 3)))) (sSeq (sAsg (.tp [(.nm 11), (.nm 12)]) (eSl gSlA (eB gIxA (eB gIxA (eV 0) (eC (.int 1))) (eB gIxA (eV 9) (eC (.int 1)))) (oS (eC (.int 2))) oN))
    (sSeq (sAsg (.nm 10) (eDef addL_ 2 (aCons (eV 4) (aCons (eDef minusL_ 1 (aCons (eB gIxA (eV 2) (eV 6)) aNil)) aNil))))
    (sIf (bAnd (bNot (eT (eDef is_lessL_ 2 (aCons (eV 10) (aCons (eV 11) aNil))))) (bOr (eT (eB gIs (eV 12) (eC .non))) (bNot (eT (eDef is_lessL_ 2 (aCons (eV 12) (aCons (eV 10) aNil))))))) (sExpr (eMt isL gApp (eV 5) (aCons (eV 6) aNil))) sNil))) sNil))
    (sRet (eV 5))))
noncomputable def can_hearL_ : FA := runF 13 can_hearL_B
noncomputable def storyL_B : SF := (sSeq (sAsg (.tp [(.nm 4), (.nm 5), (.nm 6), (.nm 7)]) (eTup (aCons (eDef clocksL_ 2 (aCons (eV 0) (aCons (eV 1) aNil))) (aCons (eLst aNil) (aCons (eLst aNil) (aCons (eTup (aCons (eC (.int 0)) (aCons (eC (.int 1)) aNil))) aNil))))))
    (sSeq (sFor (.nm 3) (iRg1 (aCons (eV 2) aNil)) (sSeq (sAsg (.nm 7) (eDef addL_ 2 (aCons (eV 7) (aCons (eB gIxA (eLst (aCons (eTup (aCons (eC (.int 0)) (aCons (eC (.int 1)) aNil))) (aCons (eTup (aCons (eC (.int 1)) (aCons (eC (.int 2)) aNil))) (aCons (eTup (aCons (eC (.int 1)) (aCons (eC (.int 1)) aNil))) (aCons (eTup (aCons (eC (.int 2)) (aCons (eC (.int 1)) aNil))) aNil))))) (eDef drawL_ 2 (aCons (eV 0) (aCons (eC (.int 4)) aNil)))) aNil))))
    (sSeq (sAsg (.tp [(.nm 11), (.nm 12)]) (eTup (aCons (eB gIxA (eB gIxA (eB gIxA (eV 1) (eC (.int 0))) (eDef drawL_ 2 (aCons (eV 0) (aCons (eCall gLen (aCons (eB gIxA (eV 1) (eC (.int 0))) aNil)) aNil)))) (eC (.int 0))) (aCons (eTup (aCons (eC (.str "mark")) aNil)) aNil))))
    (sSeq (sAsg (.nm 8) (eLc (.tp [(.nm 13), (.nm 10)]) (iEn (aCons (eB gIxA (eV 1) (eC (.int 1))) aNil)) (eT (eB gEq (eB gIxA (eV 10) (eC (.int 0))) (eV 11))) (eV 13) [13, 10]))
    (sSeq (sAsg (.nm 9) (eDef can_hearL_ 5 (aCons (eV 1) (aCons (eV 5) (aCons (eV 6) (aCons (eV 11) (aCons (eV 7) aNil)))))))
    (sSeq (sAsg (.nm 10) (eDef drawL_ 2 (aCons (eV 0) (aCons (eC (.int 4)) aNil))))
    (sSeq (sIf (bAnd (eT (eB gLt (eV 10) (eC (.int 2)))) (eT (eB gNe (eV 8) (eLst aNil)))) (sAsg (.nm 12) (eTup (aCons (eC (.str "send")) (aCons (eB gIxA (eV 8) (eDef drawL_ 2 (aCons (eV 0) (aCons (eCall gLen (aCons (eV 8) aNil)) aNil)))) aNil)))) sNil)
    (sSeq (sIf (bAnd (eT (eB gGt (eV 10) (eC (.int 0)))) (eT (eB gNe (eV 9) (eLst aNil)))) (sAsg (.nm 12) (eTup (aCons (eC (.str "hear")) (aCons (eB gIxA (eV 9) (eDef drawL_ 2 (aCons (eV 0) (aCons (eCall gLen (aCons (eV 9) aNil)) aNil)))) aNil)))) sNil)
    (sSeq (sExpr (eMt isL gApp (eV 5) (aCons (eTup (aCons (eV 11) (aCons (eDef stampL_ 3 (aCons (eV 4) (aCons (eV 11) (aCons (eV 7) aNil)))) (aCons (eV 12) aNil)))) aNil)))
    (sExpr (eMt isL gApp (eV 6) (aCons (eV 7) aNil))))))))))))
    (sRet (eTup (aCons (eV 5) (aCons (eV 6) (aCons (eV 4) aNil)))))))
noncomputable def storyL_ : FA := runF 14 storyL_B
noncomputable def netL_B : SF := (sSeq (sAsg (.nm 1) (eSl gSlA (eLst (aCons (eC (.str "a")) (aCons (eC (.str "b")) (aCons (eC (.str "c")) (aCons (eC (.str "d")) (aCons (eC (.str "e")) aNil)))))) oN (oS (eB gAdd (eC (.int 2)) (eDef drawL_ 2 (aCons (eV 0) (aCons (eC (.int 4)) aNil)))))))
    (sSeq (sAsg (.nm 2) (eCall gTuple (aCons (eLc (.nm 6) (iSeq (eV 1)) bYes (eTup (aCons (eV 6) (aCons (eDef drawL_ 2 (aCons (eV 0) (aCons (eC (.int 3)) aNil))) (aCons (eDef drawL_ 2 (aCons (eV 0) (aCons (eC (.int 3)) aNil))) aNil)))) [6]) aNil)))
    (sSeq (sAsg (.nm 3) (eLst aNil))
    (sSeq (sFor (.tp [(.nm 4), (.nm 5)]) (iEn (aCons (eV 1) aNil)) (sAsg (.nm 3) (eB gAdd (eV 3) (eLc (.nm 7) (iSeq (eSl gSlA (eV 1) (oS (eB gAdd (eV 4) (eC (.int 1)))) oN)) (eT (eB gEq (eDef drawL_ 2 (aCons (eV 0) (aCons (eC (.int 2)) aNil))) (eC (.int 0)))) (eTup (aCons (eV 5) (aCons (eV 7) aNil))) [7]))))
    (sRet (eTup (aCons (eV 2) (aCons (eCall gTuple (aCons (eV 3) aNil)) aNil))))))))
noncomputable def netL_ : FA := runF 8 netL_B
noncomputable def Court_init_B : SF := (sSeq (sFldS "Court" "head" (eV 0) (eTup (aCons (eC (.str "court")) (aCons (eV 1) (aCons (eV 2) (aCons (eV 3) (aCons (eV 4) (aCons (eV 5) aNil))))))))
    (sSeq (sFldS "Court" "rows" (eV 0) (eLst aNil))
    (sSeq (sFldS "Court" "keeper" (eV 0) (eMk "Keeper" Keeper_init_ 2 (aCons (eV 1) aNil)))
    (sSeq (sFldS "Court" "run" (eV 0) (eMkK "NetRun" NetRun_init_ 1 2 (fun as bs => as ++ bs) (aCons (eTup (aCons (eV 2) (aCons (eV 3) aNil))) aNil) (aCons (eV 4) (aCons (eV 5) aNil))))
    (sFldS "Court" "walking" (eV 0) (eC (.int 0)))))))
noncomputable def Court_init_ : FA := runF 6 Court_init_B
noncomputable def openedL_B : SF := (sSeq (sAsg (.nm 3) (eTup (aCons (eC (.str "court")) (aCons (eV 1) (aCons (eB gIxA (eV 2) (eC (.int 0))) (aCons (eB gIxA (eV 2) (eC (.int 1))) (aCons (eB gAdd (eC (.int 1)) (eDef drawL_ 2 (aCons (eV 0) (aCons (eC (.int 5)) aNil)))) (aCons (eDef drawL_ 2 (aCons (eV 0) (aCons (eC (.int 3)) aNil))) aNil))))))))
    (sRet (eTup (aCons (eMkK "Court" Court_init_ 3 2 (fun as bs => as ++ bs) (aCons (eV 1) (aCons (eB gIxA (eV 2) (eC (.int 0))) (aCons (eB gIxA (eV 2) (eC (.int 1))) aNil))) (aCons (eB gIxA (eV 3) (eC (.int 4))) (aCons (eB gIxA (eV 3) (eC (.int 5))) aNil))) (aCons (eV 3) aNil)))))
noncomputable def openedL_ : FA := runF 4 openedL_B
noncomputable def partL_B : SF := (sRet (eDef fracL_ 2 (aCons (eB gMul (eB gIxA (eV 0) (eC (.int 0))) (eB gIxA (eV 1) (eC (.int 1)))) (aCons (eB gMul (eB gIxA (eV 0) (eC (.int 1))) (eB gIxA (eV 1) (eC (.int 0)))) aNil))))
noncomputable def partL_ : FA := runF 2 partL_B
noncomputable def grownL_B : SF := (sSeq (sAsg (.nm 4) (eDef addL_ 2 (aCons (eV 1) (aCons (eDef minusL_ 1 (aCons (eV 2) aNil)) aNil))))
    (sSeq (sAsg (.nm 5) (eIf (eT (eB gIs (eB gIxA (eV 0) (eC (.int 0))) (eC .non))) (eC .non) (eDef addL_ 2 (aCons (eB gIxA (eV 0) (eC (.int 0))) (aCons (eDef partL_ 2 (aCons (eV 4) (aCons (eB gIxA (eV 3) (eC (.int 2))) aNil))) aNil)))))
    (sRet (eTup (aCons (eV 5) (aCons (eIf (eT (eB gIs (eB gIxA (eV 0) (eC (.int 1))) (eC .non))) (eC .non) (eDef addL_ 2 (aCons (eB gIxA (eV 0) (eC (.int 1))) (aCons (eDef partL_ 2 (aCons (eV 4) (aCons (eB gIxA (eV 3) (eC (.int 1))) aNil))) aNil)))) aNil))))))
noncomputable def grownL_ : FA := runF 6 grownL_B
noncomputable def narrowedL_B : SF := (sSeq (sAsg (.tp [(.nm 3), (.nm 4)]) (eV 0))
    (sSeq (sIf (eT (eB gIsN (eB gIxA (eV 1) (eC (.int 0))) (eC .non))) (sSeq (sAsg (.nm 5) (eDef addL_ 2 (aCons (eB gIxA (eV 1) (eC (.int 0))) (aCons (eB gIxA (eV 2) (eC (.int 2))) aNil))))
    (sAsg (.nm 3) (eIf (bOr (eT (eB gIs (eV 3) (eC .non))) (eT (eDef is_lessL_ 2 (aCons (eV 3) (aCons (eV 5) aNil))))) (eV 5) (eV 3)))) sNil)
    (sSeq (sIf (bAnd (eT (eB gIsN (eB gIxA (eV 1) (eC (.int 1))) (eC .non))) (eT (eB gIsN (eB gIxA (eV 2) (eC (.int 3))) (eC .non)))) (sSeq (sAsg (.nm 5) (eDef addL_ 2 (aCons (eB gIxA (eV 1) (eC (.int 1))) (aCons (eB gIxA (eV 2) (eC (.int 3))) aNil))))
    (sAsg (.nm 4) (eIf (bOr (eT (eB gIs (eV 4) (eC .non))) (eT (eDef is_lessL_ 2 (aCons (eV 5) (aCons (eV 4) aNil))))) (eV 5) (eV 4)))) sNil)
    (sRet (eTup (aCons (eV 3) (aCons (eV 4) aNil)))))))
noncomputable def narrowedL_ : FA := runF 6 narrowedL_B
noncomputable def keptL_B : SF := (sSeq (sAsg (.nm 2) (eCall gDict (aCons (eLc (.nm 10) (iSeq (eB gIxA (eV 0) (eC (.int 0)))) bYes (eTup (aCons (eB gIxA (eV 10) (eC (.int 0))) (aCons (eV 10) aNil))) [10]) aNil)))
    (sSeq (sPar [3, 4] (aCons (eLst aNil) (aCons eDic aNil)))
    (sSeq (sFor (.tp [(.nm 5), (.tp [(.nm 7), (.nm 8), (.nm 9)])]) (iEn (aCons (eV 1) aNil)) (sSeq (sAsg (.nm 6) (eTup (aCons (eC .non) (aCons (eC .non) aNil))))
    (sSeq (sIf (eT (eB (gIn false) (eV 7) (eV 4))) (sAsg (.nm 6) (eDef grownL_ 4 (aCons (eB gIxA (eV 3) (eB gIxA (eV 4) (eV 7))) (aCons (eV 8) (aCons (eB gIxA (eB gIxA (eV 1) (eB gIxA (eV 4) (eV 7))) (eC (.int 1))) (aCons (eB gIxA (eV 2) (eV 7)) aNil)))))) sNil)
    (sSeq (sIf (eT (eB gEq (eB gIxA (eV 9) (eC (.int 0))) (eC (.str "hear")))) (sAsg (.nm 6) (eDef narrowedL_ 3 (aCons (eV 6) (aCons (eB gIxA (eV 3) (eB gIxA (eV 9) (eC (.int 1)))) (aCons (eB gIxA (eB gIxA (eV 0) (eC (.int 1))) (eB gIxA (eB gIxA (eB gIxA (eV 1) (eB gIxA (eV 9) (eC (.int 1)))) (eC (.int 2))) (eC (.int 1)))) aNil))))) sNil)
    (sSeq (sIf (eT (eB gEq (eV 7) (eB gIxA (eV 0) (eC (.int 2))))) (sAsg (.nm 6) (eTup (aCons (eV 8) (aCons (eV 8) aNil)))) sNil)
    (sSeq (sExpr (eMt isL gApp (eV 3) (aCons (eV 6) aNil)))
    (sSub gSetA (eV 4) (eV 7) (eV 5))))))))
    (sRet (eV 3)))))
noncomputable def keptL_ : FA := runF 11 keptL_B
noncomputable def Court_note_B : SF := (sSeq (sAsgX (.nm 4) (eMe "Keeper" "note" Keeper_note_ 4 (eFld "Court" "keeper" (eV 0)) (aCons (eV 1) (aCons (eV 2) (aCons (eV 3) aNil)))))
    (sSeq (sExpr (eMt isL gApp (eFld "Court" "rows" (eV 0)) (aCons (eTup (aCons (eC (.str "note")) (aCons (eV 1) (aCons (eV 2) (aCons (eV 3) aNil))))) aNil)))
    (sRetN (eV 4))))
noncomputable def Court_note_ : FA := runF 5 Court_note_B
noncomputable def Court_history_B : SF := (sRet (eMe "Keeper" "history" Keeper_history_ 1 (eFld "Court" "keeper" (eV 0)) aNil))
noncomputable def Court_history_ : FA := runF 1 Court_history_B
noncomputable def Court_now_B : SF := (sRet (eMe "Keeper" "now" Keeper_now_ 3 (eFld "Court" "keeper" (eV 0)) (aCons (eV 1) (aCons (eV 2) aNil))))
noncomputable def Court_now_ : FA := runF 3 Court_now_B
noncomputable def Court_kept_B : SF := (sRet (eMe "Keeper" "pair" Keeper_pair_ 2 (eFld "Court" "keeper" (eV 0)) (aCons (eV 1) aNil)))
noncomputable def Court_kept_ : FA := runF 2 Court_kept_B
noncomputable def law_B : SF := (sSeq (sAsg (.nm 1) (eDef feedL_ 1 (aCons (eV 0) aNil)))
    (sSeq (sPar [3, 4] (aCons (eDef fieldL_ 1 (aCons (eV 1) aNil)) (aCons (eDef netL_ 1 (aCons (eV 1) aNil)) aNil)))
    (sSeq (sAsg (.tp [(.nm 5), (.nm 6), (.nm 7)]) (eDef storyL_ 3 (aCons (eV 1) (aCons (eV 3) (aCons (eC (.int 14)) aNil)))))
    (sSeq (sAsg (.tp [(.nm 8), (.nm 9)]) (eDef openedL_ 3 (aCons (eV 1) (aCons (eV 3) (aCons (eV 4) aNil)))))
    (sSeq (sAsg (.nm 2) (eDef keptL_ 2 (aCons (eV 3) (aCons (eV 5) aNil))))
    (sSeq (sFor (.tp [(.nm 10), (.tp [(.nm 14), (.nm 15), (.nm 16)])]) (iEn (aCons (eV 5) aNil)) (sSeq (sIf (eT (eB gNe (eMe "Court" "note" (noX Court_note_) 4 (eV 8) (aCons (eV 14) (aCons (eV 15) (aCons (eV 16) aNil)))) (eV 10))) (sRet (eC (.bl false))) sNil)
    (sSeq (sIf (eT (eB gNe (eCall gRepr (aCons (eLc (.nm 18) (iRg1 (aCons (eB gAdd (eV 10) (eC (.int 1))) aNil)) bYes (eMe "Court" "kept" (noX Court_kept_) 2 (eV 8) (aCons (eV 18) aNil)) [18]) aNil)) (eCall gRepr (aCons (eSl gSlA (eV 2) oN (oS (eB gAdd (eV 10) (eC (.int 1))))) aNil)))) (sRet (eC (.bl false))) sNil)
    (sSeq (sAsg (.nm 11) (eB gIxA (eB gIxA (eB gIxA (eV 3) (eC (.int 0))) (eDef drawL_ 2 (aCons (eV 1) (aCons (eCall gLen (aCons (eB gIxA (eV 3) (eC (.int 0))) aNil)) aNil)))) (eC (.int 0))))
    (sSeq (sAsg (.nm 12) (eLc (.nm 17) (iSeq (eSl gSlA (eV 5) oN (oS (eB gAdd (eV 10) (eC (.int 1)))))) (eT (eB gEq (eB gIxA (eV 17) (eC (.int 0))) (eV 11))) (eB gIxA (eV 17) (eC (.int 1))) [17]))
    (sSeq (sAsg (.nm 13) (eDef addL_ 2 (aCons (eIf (eT (eB gNe (eV 12) (eLst aNil))) (eB gIxA (eV 12) (eU gNeg (eC (.int 1)))) (eTup (aCons (eC (.int 0)) (aCons (eC (.int 1)) aNil)))) (aCons (eTup (aCons (eDef drawL_ 2 (aCons (eV 1) (aCons (eC (.int 9)) aNil))) (aCons (eC (.int 2)) aNil))) aNil))))
    (sSeq (sAsg (.nm 13) (eDef fracL_ 2 (aCons (eB gIxA (eV 13) (eC (.int 0))) (aCons (eB gIxA (eV 13) (eC (.int 1))) aNil))))
    (sIf (eT (eB gNe (eCall gRepr (aCons (eMe "Court" "now" (noX Court_now_) 3 (eV 8) (aCons (eV 11) (aCons (eV 13) aNil))) aNil)) (eCall gRepr (aCons (eB gIxA (eDef keptL_ 2 (aCons (eV 3) (aCons (eB gAdd (eSl gSlA (eV 5) oN (oS (eB gAdd (eV 10) (eC (.int 1))))) (eLst (aCons (eTup (aCons (eV 11) (aCons (eV 13) (aCons (eTup (aCons (eC (.str "mark")) aNil)) aNil)))) aNil))) aNil))) (eU gNeg (eC (.int 1)))) aNil)))) (sRet (eC (.bl false))) sNil))))))))
    (sRet (eB gEq (eCall gRepr (aCons (eMe "Court" "history" Court_history_ 1 (eV 8) aNil) aNil)) (eCall gRepr (aCons (eTup (aCons (eV 3) (aCons (eCall gTuple (aCons (eV 5) aNil)) aNil))) aNil))))))))))
noncomputable def law_ : FA := runF 19 law_B
end K76
namespace K76
open PySem PySem.Spec PyProof.Rows L2 G Th AL
open K37 (common_divisor_ common_divisor_B ratio_ ratio_B added_ added_B added_told_ added_told_B less_ less_B parted_ parted_B is_below_ is_below_B least_of_ least_of_B greatest_of_ greatest_of_B drift_of_ drift_of_B moves_into_ moves_into_B moved_end_ moved_end_B ends_told_ ends_told_B kept_pair_ kept_pair_B is_lessL_ is_lessL_B)
open K43 (Keeper_init_ Keeper_init_B Keeper_bar_place_ Keeper_bar_place_B Keeper_bar_send_ Keeper_bar_send_B Keeper_bar_number_ Keeper_bar_number_B Keeper_bar_hear_ Keeper_bar_hear_B Keeper_bar_deed_ Keeper_bar_deed_B Keeper_pair_next_ Keeper_pair_next_B Keeper_note_ Keeper_note_B Keeper_history_ Keeper_history_B Keeper_now_ Keeper_now_B Keeper_pair_ Keeper_pair_B)
open K57 (own_best_ own_best_B)
open K56 (first_state_ first_state_B)
open K58 (NetRun_init_ NetRun_init_B)
def topS (i : Nat) : Stmt := PySem.Challenge.pw_ledclocks_k76_kept_by_own_going.main.body.getD i (.Pass ⟨0, 0, 0, 0⟩)
section
variable {P : Program} {w : World} {K : PySem.W.Frag} {mg : Str → Option Value} {base : Heap}
variable [AL.TT]
def ss_i_NoEvent : {s : Stmt // (clsB (topS 5)).getD 0 (.Pass ⟨0, 0, 0, 0⟩) = s} := by
  refine ⟨?l, ?h⟩
  case h =>
    conv => lhs; whnf
abbrev st_i_NoEvent : Stmt := ss_i_NoEvent.1
theorem sc_i_NoEvent : FnScope ["self", "word", "at"] ["self", "word", "at"] (defScope st_i_NoEvent) := ⟨rfl, rfl, rfl, by decide +kernel, rfl, by decide +kernel, by decide +kernel⟩
theorem kn_NoEvent {C fI : Addr} {fd : FuncData} (T : OexC K C) (iC : PySem.W.findIn K (.ref C) "__init__" = some (some (.ref fI))) (tI : PySem.W.typeIn K (.ref fI) = some (.type "function")) (hm : mg "NoEvent" = some (.ref C)) (F : Fun K "__init__" "NoEvent.__init__" st_i_NoEvent fI fd) (hb : Binds K fd ["self", "word", "at"] []) (n0 : PySem.W.findIn K (.ref C) "word" = some none) (n1 : PySem.W.findIn K (.ref C) "at" = some none) : KnX P w K mg base "NoEvent" :=
  ⟨C, fI, fd, T, iC, tI, hm, .inr ⟨"word", "at", rfl, by decide, init2 F sc_i_NoEvent T n0 n1 rfl (by first | exact Or.inl rfl | exact Or.inr (Or.inl rfl) | exact Or.inr (Or.inr rfl)) (by first | exact Or.inl rfl | exact Or.inr (Or.inl rfl) | exact Or.inr (Or.inr rfl)) (by first | exact Or.inl rfl | exact Or.inr (Or.inl rfl) | exact Or.inr (Or.inr rfl)) (by decide) (by decide) (by decide) (by decide), hb⟩⟩
def ss_i_NoHouse : {s : Stmt // (clsB (topS 6)).getD 0 (.Pass ⟨0, 0, 0, 0⟩) = s} := by
  refine ⟨?l, ?h⟩
  case h =>
    conv => lhs; whnf
abbrev st_i_NoHouse : Stmt := ss_i_NoHouse.1
theorem sc_i_NoHouse : FnScope ["self", "name"] ["self", "name"] (defScope st_i_NoHouse) := ⟨rfl, rfl, rfl, by decide +kernel, rfl, by decide +kernel, by decide +kernel⟩
theorem kn_NoHouse {C fI : Addr} {fd : FuncData} (T : OexL K C) (iC : PySem.W.findIn K (.ref C) "__init__" = some (some (.ref fI))) (tI : PySem.W.typeIn K (.ref fI) = some (.type "function")) (hm : mg "NoHouse" = some (.ref C)) (F : Fun K "__init__" "NoHouse.__init__" st_i_NoHouse fI fd) (hb : Binds K fd ["self", "name"] []) (n0 : PySem.W.findIn K (.ref C) "name" = some none) : KnX P w K mg base "NoHouse" :=
  ⟨C, fI, fd, T, iC, tI, hm, .inl ⟨"name", rfl, init1 F sc_i_NoHouse T n0 rfl (by first | exact Or.inl rfl | exact Or.inr (Or.inl rfl) | exact Or.inr (Or.inr rfl)) (by first | exact Or.inl rfl | exact Or.inr (Or.inl rfl) | exact Or.inr (Or.inr rfl)) (by decide) (by decide), hb⟩⟩
def ss_i_NoLink : {s : Stmt // (clsB (topS 7)).getD 0 (.Pass ⟨0, 0, 0, 0⟩) = s} := by
  refine ⟨?l, ?h⟩
  case h =>
    conv => lhs; whnf
abbrev st_i_NoLink : Stmt := ss_i_NoLink.1
theorem sc_i_NoLink : FnScope ["self", "number"] ["self", "number"] (defScope st_i_NoLink) := ⟨rfl, rfl, rfl, by decide +kernel, rfl, by decide +kernel, by decide +kernel⟩
theorem kn_NoLink {C fI : Addr} {fd : FuncData} (T : OexL K C) (iC : PySem.W.findIn K (.ref C) "__init__" = some (some (.ref fI))) (tI : PySem.W.typeIn K (.ref fI) = some (.type "function")) (hm : mg "NoLink" = some (.ref C)) (F : Fun K "__init__" "NoLink.__init__" st_i_NoLink fI fd) (hb : Binds K fd ["self", "number"] []) (n0 : PySem.W.findIn K (.ref C) "number" = some none) : KnX P w K mg base "NoLink" :=
  ⟨C, fI, fd, T, iC, tI, hm, .inl ⟨"number", rfl, init1 F sc_i_NoLink T n0 rfl (by first | exact Or.inl rfl | exact Or.inr (Or.inl rfl) | exact Or.inr (Or.inr rfl)) (by first | exact Or.inl rfl | exact Or.inr (Or.inl rfl) | exact Or.inr (Or.inr rfl)) (by decide) (by decide), hb⟩⟩
def ss_i_NoNumber : {s : Stmt // (clsB (topS 8)).getD 0 (.Pass ⟨0, 0, 0, 0⟩) = s} := by
  refine ⟨?l, ?h⟩
  case h =>
    conv => lhs; whnf
abbrev st_i_NoNumber : Stmt := ss_i_NoNumber.1
theorem sc_i_NoNumber : FnScope ["self", "number"] ["self", "number"] (defScope st_i_NoNumber) := ⟨rfl, rfl, rfl, by decide +kernel, rfl, by decide +kernel, by decide +kernel⟩
theorem kn_NoNumber {C fI : Addr} {fd : FuncData} (T : OexL K C) (iC : PySem.W.findIn K (.ref C) "__init__" = some (some (.ref fI))) (tI : PySem.W.typeIn K (.ref fI) = some (.type "function")) (hm : mg "NoNumber" = some (.ref C)) (F : Fun K "__init__" "NoNumber.__init__" st_i_NoNumber fI fd) (hb : Binds K fd ["self", "number"] []) (n0 : PySem.W.findIn K (.ref C) "number" = some none) : KnX P w K mg base "NoNumber" :=
  ⟨C, fI, fd, T, iC, tI, hm, .inl ⟨"number", rfl, init1 F sc_i_NoNumber T n0 rfl (by first | exact Or.inl rfl | exact Or.inr (Or.inl rfl) | exact Or.inr (Or.inr rfl)) (by first | exact Or.inl rfl | exact Or.inr (Or.inl rfl) | exact Or.inr (Or.inr rfl)) (by decide) (by decide), hb⟩⟩
def ss_common_divisor_ : {s : Stmt // topS 11 = s} := by
  refine ⟨?l, ?h⟩
  case h =>
    conv => lhs; whnf
abbrev st_common_divisor_ : Stmt := ss_common_divisor_.1
theorem sc_common_divisor_ : FnScope ["a", "b"] ["a", "b"] (defScope st_common_divisor_) := ⟨rfl, rfl, rfl, by decide +kernel, rfl, by decide +kernel, by decide +kernel⟩
theorem ok_common_divisor_ {f : Addr} {fd : FuncData} (F : Fun K "common_divisor" "common_divisor" st_common_divisor_ f fd) (hb : Binds K fd ["a", "b"] []) (hm : mg "common_divisor" = some (.ref f)) (m_abs : mg "abs" = none) : Def P w K mg base 1 "common_divisor" ["a", "b"] common_divisor_ :=
  fn_a F sc_common_divisor_ hb hm (g := common_divisor_B) fun cdv A outer s H E hg hr => (asq (asw PassesOwn.never (atc (op_neA hr.units) oNe (av 1) ai (nomark _)) (as1 (asp2' (ps_par (i := 0) (j := 1) (by rfl) sc_common_divisor_.nd rfl rfl (by decide) rfl rfl (aac (av 1) (aac (aop op_modN oMod (av 0) (av 1)) aan)) (by rfl)))))
    (as1 (asr (acb call_abs cAbs (by rfl) m_abs boot_abs (aac (av 0) aan)))))
def ss_ratio_ : {s : Stmt // topS 12 = s} := by
  refine ⟨?l, ?h⟩
  case h =>
    conv => lhs; whnf
abbrev st_ratio_ : Stmt := ss_ratio_.1
theorem sc_ratio_ : FnScope ["a", "b", "divisor"] ["a", "b"] (defScope st_ratio_) := ⟨rfl, rfl, rfl, by decide +kernel, rfl, by decide +kernel, by decide +kernel⟩
theorem ok_ratio_ {f : Addr} {fd : FuncData} (F : Fun K "ratio" "ratio" st_ratio_ f fd) (hb : Binds K fd ["a", "b"] []) (hm : mg "ratio" = some (.ref f)) (d_common_divisor_ : Def P w K mg base 1 "common_divisor" ["a", "b"] common_divisor_) : Def P w K mg base 2 "ratio" ["a", "b"] ratio_ :=
  fn_a F sc_ratio_ hb hm (g := ratio_B) fun cdv A outer s H E hg hr => (asq (asi (atc op_lt oLt (av 1) ai (nomark _)) (as1 (asp2' (ps_par (i := 0) (j := 1) (by rfl) sc_ratio_.nd rfl rfl (by decide) rfl rfl (aac (aun un_neg oNeg (av 0)) (aac (aun un_neg oNeg (av 1)) aan)) (by rfl)))) asn)
    (asq (ass (i := 2) sc_ratio_.nd rfl (.inl rfl) (acd d_common_divisor_ hg (hr.mono (by decide)) (by rfl) (aac (av 0) (aac (av 1) aan))))
    (as1 (asr (atup (aac (aop op_fdivW oDiv (av 0) (av 2)) (aac (aop op_fdivW oDiv (av 1) (av 2)) aan)))))))
def ss_added_ : {s : Stmt // topS 13 = s} := by
  refine ⟨?l, ?h⟩
  case h =>
    conv => lhs; whnf
abbrev st_added_ : Stmt := ss_added_.1
theorem sc_added_ : FnScope ["one", "other"] ["one", "other"] (defScope st_added_) := ⟨rfl, rfl, rfl, by decide +kernel, rfl, by decide +kernel, by decide +kernel⟩
theorem ok_added_ {f : Addr} {fd : FuncData} (F : Fun K "added" "added" st_added_ f fd) (hb : Binds K fd ["one", "other"] []) (hm : mg "added" = some (.ref f)) (d_ratio_ : Def P w K mg base 2 "ratio" ["a", "b"] ratio_) : Def P w K mg base 3 "added" ["one", "other"] added_ :=
  fn_a F sc_added_ hb hm (g := added_B) fun cdv A outer s H E hg hr => (as1 (asr (acd d_ratio_ hg (hr.mono (by decide)) (by rfl) (aac (aop op_addA oAdd (aop op_mulW oMul (aixA (hu_of hr) (av 0) ai (fun _ _ => rfl) (fun _ _ => rfl)) (aixA (hu_of hr) (av 1) ai (fun _ _ => rfl) (fun _ _ => rfl))) (aop op_mulW oMul (aixA (hu_of hr) (av 1) ai (fun _ _ => rfl) (fun _ _ => rfl)) (aixA (hu_of hr) (av 0) ai (fun _ _ => rfl) (fun _ _ => rfl)))) (aac (aop op_mulW oMul (aixA (hu_of hr) (av 0) ai (fun _ _ => rfl) (fun _ _ => rfl)) (aixA (hu_of hr) (av 1) ai (fun _ _ => rfl) (fun _ _ => rfl))) aan)))))
def ss_added_told_ : {s : Stmt // topS 14 = s} := by
  refine ⟨?l, ?h⟩
  case h =>
    conv => lhs; whnf
abbrev st_added_told_ : Stmt := ss_added_told_.1
theorem sc_added_told_ : FnScope ["one", "other"] ["one", "other"] (defScope st_added_told_) := ⟨rfl, rfl, rfl, by decide +kernel, rfl, by decide +kernel, by decide +kernel⟩
theorem ok_added_told_ {f : Addr} {fd : FuncData} (F : Fun K "added_told" "added_told" st_added_told_ f fd) (hb : Binds K fd ["one", "other"] []) (hm : mg "added_told" = some (.ref f)) (d_added_ : Def P w K mg base 3 "added" ["one", "other"] added_) : Def P w K mg base 4 "added_told" ["one", "other"] added_told_ :=
  fn_a F sc_added_told_ hb hm (g := added_told_B) fun cdv A outer s H E hg hr => (as1 (asr (aif (atw (awo (atc op_isN oIs (av 0) an (nomark _)) (awo1 (atc op_isN oIs (av 1) an (nomark _))))) an (acd d_added_ hg (hr.mono (by decide)) (by rfl) (aac (av 0) (aac (av 1) aan))))))
def ss_less_ : {s : Stmt // topS 15 = s} := by
  refine ⟨?l, ?h⟩
  case h =>
    conv => lhs; whnf
abbrev st_less_ : Stmt := ss_less_.1
theorem sc_less_ : FnScope ["one", "other"] ["one", "other"] (defScope st_less_) := ⟨rfl, rfl, rfl, by decide +kernel, rfl, by decide +kernel, by decide +kernel⟩
theorem ok_less_ {f : Addr} {fd : FuncData} (F : Fun K "less" "less" st_less_ f fd) (hb : Binds K fd ["one", "other"] []) (hm : mg "less" = some (.ref f)) (d_ratio_ : Def P w K mg base 2 "ratio" ["a", "b"] ratio_) : Def P w K mg base 3 "less" ["one", "other"] less_ :=
  fn_a F sc_less_ hb hm (g := less_B) fun cdv A outer s H E hg hr => (as1 (asr (acd d_ratio_ hg (hr.mono (by decide)) (by rfl) (aac (aop op_sub oSub (aop op_mulW oMul (aixA (hu_of hr) (av 0) ai (fun _ _ => rfl) (fun _ _ => rfl)) (aixA (hu_of hr) (av 1) ai (fun _ _ => rfl) (fun _ _ => rfl))) (aop op_mulW oMul (aixA (hu_of hr) (av 1) ai (fun _ _ => rfl) (fun _ _ => rfl)) (aixA (hu_of hr) (av 0) ai (fun _ _ => rfl) (fun _ _ => rfl)))) (aac (aop op_mulW oMul (aixA (hu_of hr) (av 0) ai (fun _ _ => rfl) (fun _ _ => rfl)) (aixA (hu_of hr) (av 1) ai (fun _ _ => rfl) (fun _ _ => rfl))) aan)))))
def ss_parted_ : {s : Stmt // topS 16 = s} := by
  refine ⟨?l, ?h⟩
  case h =>
    conv => lhs; whnf
abbrev st_parted_ : Stmt := ss_parted_.1
theorem sc_parted_ : FnScope ["one", "other"] ["one", "other"] (defScope st_parted_) := ⟨rfl, rfl, rfl, by decide +kernel, rfl, by decide +kernel, by decide +kernel⟩
theorem ok_parted_ {f : Addr} {fd : FuncData} (F : Fun K "parted" "parted" st_parted_ f fd) (hb : Binds K fd ["one", "other"] []) (hm : mg "parted" = some (.ref f)) (d_ratio_ : Def P w K mg base 2 "ratio" ["a", "b"] ratio_) : Def P w K mg base 3 "parted" ["one", "other"] parted_ :=
  fn_a F sc_parted_ hb hm (g := parted_B) fun cdv A outer s H E hg hr => (as1 (asr (acd d_ratio_ hg (hr.mono (by decide)) (by rfl) (aac (aop op_mulW oMul (aixA (hu_of hr) (av 0) ai (fun _ _ => rfl) (fun _ _ => rfl)) (aixA (hu_of hr) (av 1) ai (fun _ _ => rfl) (fun _ _ => rfl))) (aac (aop op_mulW oMul (aixA (hu_of hr) (av 0) ai (fun _ _ => rfl) (fun _ _ => rfl)) (aixA (hu_of hr) (av 1) ai (fun _ _ => rfl) (fun _ _ => rfl))) aan)))))
def ss_is_below_ : {s : Stmt // topS 17 = s} := by
  refine ⟨?l, ?h⟩
  case h =>
    conv => lhs; whnf
abbrev st_is_below_ : Stmt := ss_is_below_.1
theorem sc_is_below_ : FnScope ["one", "other"] ["one", "other"] (defScope st_is_below_) := ⟨rfl, rfl, rfl, by decide +kernel, rfl, by decide +kernel, by decide +kernel⟩
theorem ok_is_below_ {f : Addr} {fd : FuncData} (F : Fun K "is_below" "is_below" st_is_below_ f fd) (hb : Binds K fd ["one", "other"] []) (hm : mg "is_below" = some (.ref f)) : Def P w K mg base 1 "is_below" ["one", "other"] is_below_ :=
  fn_a F sc_is_below_ hb hm (g := is_below_B) fun cdv A outer s H E hg hr => (as1 (asr (acm op_lt oLt (aop op_mulW oMul (aixA (hu_of hr) (av 0) ai (fun _ _ => rfl) (fun _ _ => rfl)) (aixA (hu_of hr) (av 1) ai (fun _ _ => rfl) (fun _ _ => rfl))) (aop op_mulW oMul (aixA (hu_of hr) (av 1) ai (fun _ _ => rfl) (fun _ _ => rfl)) (aixA (hu_of hr) (av 0) ai (fun _ _ => rfl) (fun _ _ => rfl))) (nomark _))))
def ss_least_of_ : {s : Stmt // topS 18 = s} := by
  refine ⟨?l, ?h⟩
  case h =>
    conv => lhs; whnf
abbrev st_least_of_ : Stmt := ss_least_of_.1
theorem sc_least_of_ : FnScope ["fractions", "least", "fraction"] ["fractions"] (defScope st_least_of_) := ⟨rfl, rfl, rfl, by decide +kernel, rfl, by decide +kernel, by decide +kernel⟩
theorem ok_least_of_ {f : Addr} {fd : FuncData} (F : Fun K "least_of" "least_of" st_least_of_ f fd) (hb : Binds K fd ["fractions"] []) (hm : mg "least_of" = some (.ref f)) (d_is_below_ : Def P w K mg base 1 "is_below" ["one", "other"] is_below_) : Def P w K mg base 2 "least_of" ["fractions"] least_of_ :=
  fn_a F sc_least_of_ hb hm (g := least_of_B) fun cdv A outer s H E hg hr => (asq (ass (i := 1) sc_least_of_.nd rfl (.inl rfl) an)
    (asq (asf PassesOwn.never rfl (ais (av 0)) (agn (i := 2) sc_least_of_.nd rfl (.inl rfl)) (as1 (asi (atw (awo (atc op_isN oIs (av 1) an (nomark _)) (awo1 (atv (acd d_is_below_ hg (hr.mono (by decide)) (by rfl) (aac (av 2) (aac (av 1) aan))))))) (as1 (ass (i := 1) sc_least_of_.nd rfl (.inl rfl) (av 2))) asn)))
    (as1 (asr (av 1)))))
def ss_greatest_of_ : {s : Stmt // topS 19 = s} := by
  refine ⟨?l, ?h⟩
  case h =>
    conv => lhs; whnf
abbrev st_greatest_of_ : Stmt := ss_greatest_of_.1
theorem sc_greatest_of_ : FnScope ["fractions", "greatest", "fraction"] ["fractions"] (defScope st_greatest_of_) := ⟨rfl, rfl, rfl, by decide +kernel, rfl, by decide +kernel, by decide +kernel⟩
theorem ok_greatest_of_ {f : Addr} {fd : FuncData} (F : Fun K "greatest_of" "greatest_of" st_greatest_of_ f fd) (hb : Binds K fd ["fractions"] []) (hm : mg "greatest_of" = some (.ref f)) (d_is_below_ : Def P w K mg base 1 "is_below" ["one", "other"] is_below_) : Def P w K mg base 2 "greatest_of" ["fractions"] greatest_of_ :=
  fn_a F sc_greatest_of_ hb hm (g := greatest_of_B) fun cdv A outer s H E hg hr => (asq (ass (i := 1) sc_greatest_of_.nd rfl (.inl rfl) an)
    (asq (asf PassesOwn.never rfl (ais (av 0)) (agn (i := 2) sc_greatest_of_.nd rfl (.inl rfl)) (as1 (asi (atw (awo (atc op_isN oIs (av 1) an (nomark _)) (awo1 (atv (acd d_is_below_ hg (hr.mono (by decide)) (by rfl) (aac (av 1) (aac (av 2) aan))))))) (as1 (ass (i := 1) sc_greatest_of_.nd rfl (.inl rfl) (av 2))) asn)))
    (as1 (asr (av 1)))))
def ss_drift_of_ : {s : Stmt // topS 22 = s} := by
  refine ⟨?l, ?h⟩
  case h =>
    conv => lhs; whnf
abbrev st_drift_of_ : Stmt := ss_drift_of_.1
theorem sc_drift_of_ : FnScope ["field", "name", "house", "slow", "fast"] ["field", "name"] (defScope st_drift_of_) := ⟨rfl, rfl, rfl, by decide +kernel, rfl, by decide +kernel, by decide +kernel⟩
theorem ok_drift_of_ {f : Addr} {fd : FuncData} (F : Fun K "drift_of" "drift_of" st_drift_of_ f fd) (hb : Binds K fd ["field", "name"] []) (hm : mg "drift_of" = some (.ref f)) : Def P w K mg base 1 "drift_of" ["field", "name"] drift_of_ :=
  fn_a F sc_drift_of_ hb hm (g := drift_of_B) fun cdv A outer s H E hg hr => (asq (asf PassesOwn.never rfl (ais (aixA (hu_of hr) (av 0) ai (fun _ _ => rfl) (fun _ _ => rfl))) (agt rfl (agl (agn (i := 2) sc_drift_of_.nd rfl (.inl rfl)) (agl (agn (i := 3) sc_drift_of_.nd rfl (.inl rfl)) (agl (agn (i := 4) sc_drift_of_.nd rfl (.inl rfl)) agl0)))) (as1 (asi (atc (op_eqA hr.units) oEq (av 2) (av 1) (nomark _)) (as1 (asr (atup (aac (av 3) (aac (av 4) aan))))) asn)))
    (as1 (asr an)))
def ss_moves_into_ : {s : Stmt // topS 23 = s} := by
  refine ⟨?l, ?h⟩
  case h =>
    conv => lhs; whnf
abbrev st_moves_into_ : Stmt := ss_moves_into_.1
theorem sc_moves_into_ : FnScope ["field", "events", "last", "event", "moves", "name", "stamp", "deed", "gone", "sent", "slow", "fast"] ["field", "events", "last", "event"] (defScope st_moves_into_) := ⟨rfl, rfl, rfl, by decide +kernel, rfl, by decide +kernel, by decide +kernel⟩
theorem ok_moves_into_ {f : Addr} {fd : FuncData} (F : Fun K "moves_into" "moves_into" st_moves_into_ f fd) (hb : Binds K fd ["field", "events", "last", "event"] []) (hm : mg "moves_into" = some (.ref f)) (d_drift_of_ : Def P w K mg base 1 "drift_of" ["field", "name"] drift_of_) (d_less_ : Def P w K mg base 3 "less" ["one", "other"] less_) (d_parted_ : Def P w K mg base 3 "parted" ["one", "other"] parted_) : Def P w K mg base 4 "moves_into" ["field", "events", "last", "event"] moves_into_ :=
  fn_a F sc_moves_into_ hb hm (g := moves_into_B) fun cdv A outer s H E hg hr => (asq (asa (av 3) (agt rfl (agl (agn (i := 5) sc_moves_into_.nd rfl (.inl rfl)) (agl (agn (i := 6) sc_moves_into_.nd rfl (.inl rfl)) (agl (agn (i := 7) sc_moves_into_.nd rfl (.inl rfl)) agl0)))))
    (asq (ass (i := 4) sc_moves_into_.nd rfl (.inl rfl) (alst aan))
    (asq (asi (atc op_notN oIsN (av 2) an (nomark _)) (asq (asa (acd d_drift_of_ hg (hr.mono (by decide)) (by rfl) (aac (av 0) (aac (av 5) aan))) (agt rfl (agl (agn (i := 10) sc_moves_into_.nd rfl (.inl rfl)) (agl (agn (i := 11) sc_moves_into_.nd rfl (.inl rfl)) agl0))))
    (asq (ass (i := 8) sc_moves_into_.nd rfl (.inl rfl) (acd d_less_ hg (hr.mono (by decide)) (by rfl) (aac (av 6) (aac (aixA (hu_of hr) (aixA (hu_of hr) (av 1) (av 2) (fun _ _ => rfl) (fun _ _ => rfl)) ai (fun _ _ => rfl) (fun _ _ => rfl)) aan))))
    (as1 (asx (am PySem.F.plainAttrs_list PySem.F.slot_list_append PySem.F.type_list_append mt_append mApp tyL (av 4) (aac (atup (aac (av 2) (aac (atup (aac (acd d_parted_ hg (hr.mono (by decide)) (by rfl) (aac (av 8) (aac (av 11) aan))) (aac (acd d_parted_ hg (hr.mono (by decide)) (by rfl) (aac (av 8) (aac (av 10) aan))) aan))) aan))) aan)))))) asn)
    (asq (asi (atc (op_eqA hr.units) oEq (aixA (hu_of hr) (av 7) ai (fun _ _ => rfl) (fun _ _ => rfl)) astr (nomark _)) (asq (ass (i := 9) sc_moves_into_.nd rfl (.inl rfl) (aixA (hu_of hr) (aixA (hu_of hr) (av 1) (aixA (hu_of hr) (av 7) ai (fun _ _ => rfl) (fun _ _ => rfl)) (fun _ _ => rfl) (fun _ _ => rfl)) ai (fun _ _ => rfl) (fun _ _ => rfl)))
    (as1 (asx (am PySem.F.plainAttrs_list PySem.F.slot_list_append PySem.F.type_list_append mt_append mApp tyL (av 4) (aac (atup (aac (aixA (hu_of hr) (av 7) ai (fun _ _ => rfl) (fun _ _ => rfl)) (aac (asl sl_A oSl (aixA (hu_of hr) (aixA (hu_of hr) (av 0) ai (fun _ _ => rfl) (fun _ _ => rfl)) (aixA (hu_of hr) (av 9) ai (fun _ _ => rfl) (fun _ _ => rfl)) (fun _ _ => rfl) (fun _ _ => rfl)) (aos ai) aon) aan))) aan))))) asn)
    (as1 (asr (av 4)))))))
def ss_moved_end_ : {s : Stmt // topS 33 = s} := by
  refine ⟨?l, ?h⟩
  case h =>
    conv => lhs; whnf
abbrev st_moved_end_ : Stmt := ss_moved_end_.1
theorem sc_moved_end_ : FnScope ["move", "pairs", "side", "x", "bounds"] ["move", "pairs", "side"] (defScope st_moved_end_) := ⟨rfl, rfl, rfl, by decide +kernel, rfl, by decide +kernel, by decide +kernel⟩
theorem ok_moved_end_ {f : Addr} {fd : FuncData} (F : Fun K "moved_end" "moved_end" st_moved_end_ f fd) (hb : Binds K fd ["move", "pairs", "side"] []) (hm : mg "moved_end" = some (.ref f)) (d_added_told_ : Def P w K mg base 4 "added_told" ["one", "other"] added_told_) : Def P w K mg base 5 "moved_end" ["move", "pairs", "side"] moved_end_ :=
  fn_a F sc_moved_end_ hb hm (g := moved_end_B) fun cdv A outer s H E hg hr => (asq (asa (av 0) (agt rfl (agl (agn (i := 3) sc_moved_end_.nd rfl (.inl rfl)) (agl (agn (i := 4) sc_moved_end_.nd rfl (.inl rfl)) agl0))))
    (as1 (asr (acd d_added_told_ hg (hr.mono (by decide)) (by rfl) (aac (aixA (hu_of hr) (aixA (hu_of hr) (av 1) (av 3) (fun _ _ => rfl) (fun _ _ => rfl)) (av 2) (fun _ _ => rfl) (fun _ _ => rfl)) (aac (aixA (hu_of hr) (av 4) (av 2) (fun _ _ => rfl) (fun _ _ => rfl)) aan))))))
def ss_ends_told_ : {s : Stmt // topS 32 = s} := by
  refine ⟨?l, ?h⟩
  case h =>
    conv => lhs; whnf
abbrev st_ends_told_ : Stmt := ss_ends_told_.1
abbrev sc_ends_told_N : List Str := ["moves", "pairs", "side", "ends", "move", "end"]
abbrev sc_ends_told_S : Scope := defScope st_ends_told_
theorem sc_ends_told_ : FnScope ["moves", "pairs", "side", "ends", "move", "end"] ["moves", "pairs", "side"] (defScope st_ends_told_) := ⟨rfl, rfl, rfl, by decide +kernel, rfl, by decide +kernel, by decide +kernel⟩
theorem ok_ends_told_ {f : Addr} {fd : FuncData} (F : Fun K "ends_told" "ends_told" st_ends_told_ f fd) (hb : Binds K fd ["moves", "pairs", "side"] []) (hm : mg "ends_told" = some (.ref f)) (d_moved_end_ : Def P w K mg base 5 "moved_end" ["move", "pairs", "side"] moved_end_) : Def P w K mg base 6 "ends_told" ["moves", "pairs", "side"] ends_told_ :=
  fn_a F sc_ends_told_ hb hm (g := ends_told_B) fun cdv A outer s H E hg hr => (asq (aslc (own := [("move", 4)]) (i := 3) rfl sc_ends_told_.nd rfl rfl (sw_true rfl rfl rfl (by decide +kernel)) (ais (av 0)) (blkOk_by (own := [("move", 4)]) (N := sc_ends_told_N) (sc := sc_ends_told_S) (by decide +kernel)) (by simp [Pat.slots, Pat.slotss]) (fun _ _ _ _ _ => (agn (i := 4) sc_ends_told_.nd rfl (.inl rfl))) (fun _ _ _ _ _ => ats0) (fun _ _ _ _ _ => (acd d_moved_end_ hg (hr.mono (by decide)) (by rfl) (aac (av 4) (aac (av 1) (aac (av 2) aan))))))
    (as1 (asr (alc (own := [("end", 5)]) rfl sc_ends_told_.nd (ais (av 3)) (blkOk_by (own := [("end", 5)]) (N := sc_ends_told_N) (sc := sc_ends_told_S) (by decide +kernel)) (by simp [Pat.slots, Pat.slotss]) (fun _ _ _ _ _ => (agn (i := 5) sc_ends_told_.nd rfl (.inl rfl))) (fun _ _ _ _ _ => (pts_one (atc op_notN oIsN (av 5) an (nomark _)))) (fun _ _ _ _ _ => (av 5))))))
def ss_kept_pair_ : {s : Stmt // topS 31 = s} := by
  refine ⟨?l, ?h⟩
  case h =>
    conv => lhs; whnf
abbrev st_kept_pair_ : Stmt := ss_kept_pair_.1
theorem sc_kept_pair_ : FnScope ["field", "event", "moves", "pairs", "name", "stamp", "deed"] ["field", "event", "moves", "pairs"] (defScope st_kept_pair_) := ⟨rfl, rfl, rfl, by decide +kernel, rfl, by decide +kernel, by decide +kernel⟩
theorem ok_kept_pair_ {f : Addr} {fd : FuncData} (F : Fun K "kept_pair" "kept_pair" st_kept_pair_ f fd) (hb : Binds K fd ["field", "event", "moves", "pairs"] []) (hm : mg "kept_pair" = some (.ref f)) (d_greatest_of_ : Def P w K mg base 2 "greatest_of" ["fractions"] greatest_of_) (d_least_of_ : Def P w K mg base 2 "least_of" ["fractions"] least_of_) (d_ends_told_ : Def P w K mg base 6 "ends_told" ["moves", "pairs", "side"] ends_told_) : Def P w K mg base 7 "kept_pair" ["field", "event", "moves", "pairs"] kept_pair_ :=
  fn_a F sc_kept_pair_ hb hm (g := kept_pair_B) fun cdv A outer s H E hg hr => (asq (asa (av 1) (agt rfl (agl (agn (i := 4) sc_kept_pair_.nd rfl (.inl rfl)) (agl (agn (i := 5) sc_kept_pair_.nd rfl (.inl rfl)) (agl (agn (i := 6) sc_kept_pair_.nd rfl (.inl rfl)) agl0)))))
    (asq (asi (atc (op_eqA hr.units) oEq (av 4) (aixA (hu_of hr) (av 0) ai (fun _ _ => rfl) (fun _ _ => rfl)) (nomark _)) (as1 (asr (atup (aac (av 5) (aac (av 5) aan))))) asn)
    (as1 (asr (atup (aac (acd d_greatest_of_ hg (hr.mono (by decide)) (by rfl) (aac (acd d_ends_told_ hg (hr.mono (by decide)) (by rfl) (aac (av 2) (aac (av 3) (aac ai aan)))) aan)) (aac (acd d_least_of_ hg (hr.mono (by decide)) (by rfl) (aac (acd d_ends_told_ hg (hr.mono (by decide)) (by rfl) (aac (av 2) (aac (av 3) (aac ai aan)))) aan)) aan)))))))
def ss_own_best_ : {s : Stmt // topS 37 = s} := by
  refine ⟨?l, ?h⟩
  case h =>
    conv => lhs; whnf
abbrev st_own_best_ : Stmt := ss_own_best_.1
theorem sc_own_best_ : FnScope ["member", "name", "priority", "rank"] ["member"] (defScope st_own_best_) := ⟨rfl, rfl, rfl, by decide +kernel, rfl, by decide +kernel, by decide +kernel⟩
theorem ok_own_best_ {f : Addr} {fd : FuncData} (F : Fun K "own_best" "own_best" st_own_best_ f fd) (hb : Binds K fd ["member"] []) (hm : mg "own_best" = some (.ref f)) : Def P w K mg base 1 "own_best" ["member"] own_best_ :=
  fn_a F sc_own_best_ hb hm (g := own_best_B) fun cdv A outer s H E hg hr => (asq (asa (av 0) (agt rfl (agl (agn (i := 1) sc_own_best_.nd rfl (.inl rfl)) (agl (agn (i := 2) sc_own_best_.nd rfl (.inl rfl)) (agl (agn (i := 3) sc_own_best_.nd rfl (.inl rfl)) agl0)))))
    (as1 (asr (atup (aac (atup (aac (av 2) (aac (av 3) (aac (av 1) aan)))) (aac ai (aac (av 1) aan)))))))
def ss_first_state_ : {s : Stmt // topS 38 = s} := by
  refine ⟨?l, ?h⟩
  case h =>
    conv => lhs; whnf
abbrev st_first_state_ : Stmt := ss_first_state_.1
abbrev sc_first_state_N : List Str := ["net", "member"]
abbrev sc_first_state_S : Scope := defScope st_first_state_
theorem sc_first_state_ : FnScope ["net", "member"] ["net"] (defScope st_first_state_) := ⟨rfl, rfl, rfl, by decide +kernel, rfl, by decide +kernel, by decide +kernel⟩
theorem ok_first_state_ {f : Addr} {fd : FuncData} (F : Fun K "first_state" "first_state" st_first_state_ f fd) (hb : Binds K fd ["net"] []) (hm : mg "first_state" = some (.ref f)) (d_own_best_ : Def P w K mg base 1 "own_best" ["member"] own_best_) (m_tuple : mg "tuple" = none) : Def P w K mg base 2 "first_state" ["net"] first_state_ :=
  fn_a F sc_first_state_ hb hm (g := first_state_B) fun cdv A outer s H E hg hr => (as1 (asr (act call_tuple_of cTuple (by rfl) m_tuple (by decide +kernel) (aac (alc (own := [("member", 1)]) rfl sc_first_state_.nd (ais (aixA (hu_of hr) (av 0) ai (fun _ _ => rfl) (fun _ _ => rfl))) (blkOk_by (own := [("member", 1)]) (N := sc_first_state_N) (sc := sc_first_state_S) (by decide +kernel)) (by simp [Pat.slots, Pat.slotss]) (fun _ _ _ _ _ => (agn (i := 1) sc_first_state_.nd rfl (.inl rfl))) (fun _ _ _ _ _ => ats0) (fun _ _ _ _ _ => (atup (aac (aixA (hu_of hr) (av 1) ai (fun _ _ => rfl) (fun _ _ => rfl)) (aac (acd d_own_best_ hg (hr.mono (by decide)) (by rfl) (aac (av 1) aan)) (aac (atup aan) aan)))))) aan))))
def ss_feedL_ : {s : Stmt // topS 76 = s} := by
  refine ⟨?l, ?h⟩
  case h =>
    conv => lhs; whnf
abbrev st_feedL_ : Stmt := ss_feedL_.1
theorem sc_feedL_ : FnScope ["_law_script"] ["_law_script"] (defScope st_feedL_) := ⟨rfl, rfl, rfl, by decide +kernel, rfl, by decide +kernel, by decide +kernel⟩
theorem ok_feedL_ {f : Addr} {fd : FuncData} (F : Fun K "_law_feed" "_law_feed" st_feedL_ f fd) (hb : Binds K fd ["_law_script"] []) (hm : mg "_law_feed" = some (.ref f)) : Def P w K mg base 1 "_law_feed" ["_law_script"] feedL_ :=
  fn_a F sc_feedL_ hb hm (g := feedL_B) fun cdv A outer s H E hg hr => (as1 (asr (alst (aac (asl sl_A oSl (av 0) aon (aos ai)) (aac ai (aac ai (aac ai aan)))))))
def ss_drawL_ : {s : Stmt // topS 77 = s} := by
  refine ⟨?l, ?h⟩
  case h =>
    conv => lhs; whnf
abbrev st_drawL_ : Stmt := ss_drawL_.1
theorem sc_drawL_ : FnScope ["_law_feed_here", "_law_bound", "_law_at", "_law_cell", "_law_first", "_law_found"] ["_law_feed_here", "_law_bound"] (defScope st_drawL_) := ⟨rfl, rfl, rfl, by decide +kernel, rfl, by decide +kernel, by decide +kernel⟩
theorem ok_drawL_ {f : Addr} {fd : FuncData} (F : Fun K "_law_draw" "_law_draw" st_drawL_ f fd) (hb : Binds K fd ["_law_feed_here", "_law_bound"] []) (hm : mg "_law_draw" = some (.ref f)) (m_len : mg "len" = none) : Def P w K mg base 1 "_law_draw" ["_law_feed_here", "_law_bound"] drawL_ :=
  fn_a F sc_drawL_ hb hm (g := drawL_B) fun cdv A outer s H E hg hr => (asq (asi (atc op_gt oGt (aixA (hu_of hr) (av 0) ai (fun _ _ => rfl) (fun _ _ => rfl)) ai (nomark _)) (asq (ass (i := 5) sc_drawL_.nd rfl (.inl rfl) (aop op_modN oMod (aixA (hu_of hr) (av 0) ai (fun _ _ => rfl) (fun _ _ => rfl)) (av 1)))
    (asq (asuA (hu_of hr) (aop op_fdivW oDiv (aixA (hu_of hr) (av 0) ai (fun _ _ => rfl) (fun _ _ => rfl)) (av 1)) (av 0) ai)
    (as1 (asr (av 5))))) asn)
    (asq (ass (i := 2) sc_drawL_.nd rfl (.inl rfl) (aixA (hu_of hr) (av 0) ai (fun _ _ => rfl) (fun _ _ => rfl)))
    (asq (asuA (hu_of hr) (aop op_addA oAdd (av 2) ai) (av 0) ai)
    (asq (asuA (hu_of hr) (aop op_addA oAdd (aixA (hu_of hr) (av 0) ai (fun _ _ => rfl) (fun _ _ => rfl)) ai) (av 0) ai)
    (asq (ass (i := 3) sc_drawL_.nd rfl (.inl rfl) (aif (atc op_gt oGt (acb call_lenA cLen (by rfl) m_len PySem.boot_len (aac (aixA (hu_of hr) (av 0) ai (fun _ _ => rfl) (fun _ _ => rfl)) aan)) ai (nomark _)) (aixA (hu_of hr) (aixA (hu_of hr) (av 0) ai (fun _ _ => rfl) (fun _ _ => rfl)) (aop op_modN oMod (av 2) (acb call_lenA cLen (by rfl) m_len PySem.boot_len (aac (aixA (hu_of hr) (av 0) ai (fun _ _ => rfl) (fun _ _ => rfl)) aan))) (fun _ _ => rfl) (fun _ _ => rfl)) ai))
    (asq (asi (atw (aw (atc op_ge oGe (av 3) (aop op_pow oPow ai ai) (nomark _)) (aw1 (atc op_lt oLt (av 2) (acb call_lenA cLen (by rfl) m_len PySem.boot_len (aac (aixA (hu_of hr) (av 0) ai (fun _ _ => rfl) (fun _ _ => rfl)) aan)) (nomark _))))) (asq (asuA (hu_of hr) (aop op_fdivW oDiv (av 3) (av 1)) (av 0) ai)
    (as1 (asr (aop op_modN oMod (av 3) (av 1))))) asn)
    (asq (ass (i := 4) sc_drawL_.nd rfl (.inl rfl) (aop op_modN oMod (aop op_pow oPow (aop op_addA oAdd (aop op_addA oAdd (aop op_modN oMod (av 3) ai) (aop op_mulW oMul ai (aixA (hu_of hr) (av 0) ai (fun _ _ => rfl) (fun _ _ => rfl)))) ai) ai) ai))
    (as1 (asr (aop op_modN oMod (aop op_fdivW oDiv (aop op_modN oMod (aop op_pow oPow (aop op_addA oAdd (av 4) (aop op_mulW oMul ai (aixA (hu_of hr) (av 0) ai (fun _ _ => rfl) (fun _ _ => rfl)))) ai) ai) ai) (av 1)))))))))))
def ss_fracL_ : {s : Stmt // topS 78 = s} := by
  refine ⟨?l, ?h⟩
  case h =>
    conv => lhs; whnf
abbrev st_fracL_ : Stmt := ss_fracL_.1
theorem sc_fracL_ : FnScope ["_law_a", "_law_b", "_law_one", "_law_other"] ["_law_a", "_law_b"] (defScope st_fracL_) := ⟨rfl, rfl, rfl, by decide +kernel, rfl, by decide +kernel, by decide +kernel⟩
theorem ok_fracL_ {f : Addr} {fd : FuncData} (F : Fun K "_law_frac" "_law_frac" st_fracL_ f fd) (hb : Binds K fd ["_law_a", "_law_b"] []) (hm : mg "_law_frac" = some (.ref f)) (m_abs : mg "abs" = none) : Def P w K mg base 1 "_law_frac" ["_law_a", "_law_b"] fracL_ :=
  fn_a F sc_fracL_ hb hm (g := fracL_B) fun cdv A outer s H E hg hr => (asq (asp2' (ps_par (i := 2) (j := 3) (by rfl) sc_fracL_.nd rfl rfl (by decide) rfl rfl (aac (acb call_abs cAbs (by rfl) m_abs boot_abs (aac (av 0) aan)) (aac (av 1) aan)) (by rfl)))
    (asq (asw PassesOwn.never (atc op_gt oGt (av 3) ai (nomark _)) (as1 (asp2' (ps_par (i := 2) (j := 3) (by rfl) sc_fracL_.nd rfl rfl (by decide) rfl rfl (aac (av 3) (aac (aop op_modN oMod (av 2) (av 3)) aan)) (by rfl)))))
    (as1 (asr (atup (aac (aop op_fdivW oDiv (av 0) (av 2)) (aac (aop op_fdivW oDiv (av 1) (av 2)) aan)))))))
def ss_addL_ : {s : Stmt // topS 79 = s} := by
  refine ⟨?l, ?h⟩
  case h =>
    conv => lhs; whnf
abbrev st_addL_ : Stmt := ss_addL_.1
theorem sc_addL_ : FnScope ["_law_one", "_law_other"] ["_law_one", "_law_other"] (defScope st_addL_) := ⟨rfl, rfl, rfl, by decide +kernel, rfl, by decide +kernel, by decide +kernel⟩
theorem ok_addL_ {f : Addr} {fd : FuncData} (F : Fun K "_law_add" "_law_add" st_addL_ f fd) (hb : Binds K fd ["_law_one", "_law_other"] []) (hm : mg "_law_add" = some (.ref f)) (d_fracL_ : Def P w K mg base 1 "_law_frac" ["_law_a", "_law_b"] fracL_) : Def P w K mg base 2 "_law_add" ["_law_one", "_law_other"] addL_ :=
  fn_a F sc_addL_ hb hm (g := addL_B) fun cdv A outer s H E hg hr => (as1 (asr (acd d_fracL_ hg (hr.mono (by decide)) (by rfl) (aac (aop op_addA oAdd (aop op_mulW oMul (aixA (hu_of hr) (av 0) ai (fun _ _ => rfl) (fun _ _ => rfl)) (aixA (hu_of hr) (av 1) ai (fun _ _ => rfl) (fun _ _ => rfl))) (aop op_mulW oMul (aixA (hu_of hr) (av 1) ai (fun _ _ => rfl) (fun _ _ => rfl)) (aixA (hu_of hr) (av 0) ai (fun _ _ => rfl) (fun _ _ => rfl)))) (aac (aop op_mulW oMul (aixA (hu_of hr) (av 0) ai (fun _ _ => rfl) (fun _ _ => rfl)) (aixA (hu_of hr) (av 1) ai (fun _ _ => rfl) (fun _ _ => rfl))) aan)))))
def ss_mulL_ : {s : Stmt // topS 80 = s} := by
  refine ⟨?l, ?h⟩
  case h =>
    conv => lhs; whnf
abbrev st_mulL_ : Stmt := ss_mulL_.1
theorem sc_mulL_ : FnScope ["_law_one", "_law_other"] ["_law_one", "_law_other"] (defScope st_mulL_) := ⟨rfl, rfl, rfl, by decide +kernel, rfl, by decide +kernel, by decide +kernel⟩
theorem ok_mulL_ {f : Addr} {fd : FuncData} (F : Fun K "_law_mul" "_law_mul" st_mulL_ f fd) (hb : Binds K fd ["_law_one", "_law_other"] []) (hm : mg "_law_mul" = some (.ref f)) (d_fracL_ : Def P w K mg base 1 "_law_frac" ["_law_a", "_law_b"] fracL_) : Def P w K mg base 2 "_law_mul" ["_law_one", "_law_other"] mulL_ :=
  fn_a F sc_mulL_ hb hm (g := mulL_B) fun cdv A outer s H E hg hr => (as1 (asr (acd d_fracL_ hg (hr.mono (by decide)) (by rfl) (aac (aop op_mulW oMul (aixA (hu_of hr) (av 0) ai (fun _ _ => rfl) (fun _ _ => rfl)) (aixA (hu_of hr) (av 1) ai (fun _ _ => rfl) (fun _ _ => rfl))) (aac (aop op_mulW oMul (aixA (hu_of hr) (av 0) ai (fun _ _ => rfl) (fun _ _ => rfl)) (aixA (hu_of hr) (av 1) ai (fun _ _ => rfl) (fun _ _ => rfl))) aan)))))
def ss_minusL_ : {s : Stmt // topS 81 = s} := by
  refine ⟨?l, ?h⟩
  case h =>
    conv => lhs; whnf
abbrev st_minusL_ : Stmt := ss_minusL_.1
theorem sc_minusL_ : FnScope ["_law_one"] ["_law_one"] (defScope st_minusL_) := ⟨rfl, rfl, rfl, by decide +kernel, rfl, by decide +kernel, by decide +kernel⟩
theorem ok_minusL_ {f : Addr} {fd : FuncData} (F : Fun K "_law_minus" "_law_minus" st_minusL_ f fd) (hb : Binds K fd ["_law_one"] []) (hm : mg "_law_minus" = some (.ref f)) : Def P w K mg base 1 "_law_minus" ["_law_one"] minusL_ :=
  fn_a F sc_minusL_ hb hm (g := minusL_B) fun cdv A outer s H E hg hr => (as1 (asr (atup (aac (aop op_sub oSub ai (aixA (hu_of hr) (av 0) ai (fun _ _ => rfl) (fun _ _ => rfl))) (aac (aixA (hu_of hr) (av 0) ai (fun _ _ => rfl) (fun _ _ => rfl)) aan)))))
def ss_is_lessL_ : {s : Stmt // topS 82 = s} := by
  refine ⟨?l, ?h⟩
  case h =>
    conv => lhs; whnf
abbrev st_is_lessL_ : Stmt := ss_is_lessL_.1
theorem sc_is_lessL_ : FnScope ["_law_one", "_law_other"] ["_law_one", "_law_other"] (defScope st_is_lessL_) := ⟨rfl, rfl, rfl, by decide +kernel, rfl, by decide +kernel, by decide +kernel⟩
theorem ok_is_lessL_ {f : Addr} {fd : FuncData} (F : Fun K "_law_is_less" "_law_is_less" st_is_lessL_ f fd) (hb : Binds K fd ["_law_one", "_law_other"] []) (hm : mg "_law_is_less" = some (.ref f)) : Def P w K mg base 1 "_law_is_less" ["_law_one", "_law_other"] is_lessL_ :=
  fn_a F sc_is_lessL_ hb hm (g := is_lessL_B) fun cdv A outer s H E hg hr => (as1 (asr (acm op_lt oLt (aop op_mulW oMul (aixA (hu_of hr) (av 0) ai (fun _ _ => rfl) (fun _ _ => rfl)) (aixA (hu_of hr) (av 1) ai (fun _ _ => rfl) (fun _ _ => rfl))) (aop op_mulW oMul (aixA (hu_of hr) (av 1) ai (fun _ _ => rfl) (fun _ _ => rfl)) (aixA (hu_of hr) (av 0) ai (fun _ _ => rfl) (fun _ _ => rfl))) (nomark _))))
def ss_fieldL_ : {s : Stmt // topS 83 = s} := by
  refine ⟨?l, ?h⟩
  case h =>
    conv => lhs; whnf
abbrev st_fieldL_ : Stmt := ss_fieldL_.1
abbrev sc_fieldL_N : List Str := ["_law_feed_here", "_law_names", "_law_homes", "_law_k", "_law_slows", "_law_fasts", "_law_ways", "_law_folk", "_law_one", "_law_rest", "_law_least", "_law_far", "_law_name"]
abbrev sc_fieldL_S : Scope := defScope st_fieldL_
theorem sc_fieldL_ : FnScope ["_law_feed_here", "_law_names", "_law_homes", "_law_k", "_law_slows", "_law_fasts", "_law_ways", "_law_folk", "_law_one", "_law_rest", "_law_least", "_law_far", "_law_name"] ["_law_feed_here"] (defScope st_fieldL_) := ⟨rfl, rfl, rfl, by decide +kernel, rfl, by decide +kernel, by decide +kernel⟩
theorem ok_fieldL_ {f : Addr} {fd : FuncData} (F : Fun K "_law_field" "_law_field" st_fieldL_ f fd) (hb : Binds K fd ["_law_feed_here"] []) (hm : mg "_law_field" = some (.ref f)) (d_drawL_ : Def P w K mg base 1 "_law_draw" ["_law_feed_here", "_law_bound"] drawL_) (d_addL_ : Def P w K mg base 2 "_law_add" ["_law_one", "_law_other"] addL_) (m_range : mg "range" = none) (m_tuple : mg "tuple" = none) (m_sorted : mg "sorted" = none) (m_len : mg "len" = none) : Def P w K mg base 3 "_law_field" ["_law_feed_here"] fieldL_ :=
  fn_a F sc_fieldL_ hb hm (g := fieldL_B) fun cdv A outer s H E hg hr => (asq (ass (i := 1) sc_fieldL_.nd rfl (.inl rfl) (asl sl_A oSl (alst (aac astr (aac astr (aac astr aan)))) aon (aos (aop op_addA oAdd ai (acd d_drawL_ hg (hr.mono (by decide)) (by rfl) (aac (av 0) (aac ai aan)))))))
    (asq (asa (atup (aac (alst (aac (atup (aac ai (aac ai aan))) (aac (atup (aac ai (aac ai aan))) (aac (atup (aac ai (aac ai aan))) (aac (atup (aac ai (aac ai aan))) aan))))) (aac (alst (aac (atup (aac ai (aac ai aan))) (aac (atup (aac ai (aac ai aan))) (aac (atup (aac ai (aac ai aan))) (aac (atup (aac ai (aac ai aan))) aan))))) aan))) (agt rfl (agl (agn (i := 4) sc_fieldL_.nd rfl (.inr rfl)) (agl (agn (i := 5) sc_fieldL_.nd rfl (.inr rfl)) agl0))))
    (asq (ass (i := 2) sc_fieldL_.nd rfl (.inl rfl) (aop op_addA oAdd (alc (own := [("_law_name", 12)]) rfl sc_fieldL_.nd (ais (av 1)) (blkOk_by (own := [("_law_name", 12)]) (N := sc_fieldL_N) (sc := sc_fieldL_S) (by decide +kernel)) (by simp [Pat.slots, Pat.slotss]) (fun _ _ _ _ _ => (agn (i := 12) sc_fieldL_.nd rfl (.inl rfl))) (fun _ _ _ _ _ => ats0) (fun _ _ _ _ _ => (atup (aac (av 12) (aac (aixA (hu_of hr) (av 4) (acd d_drawL_ hg (hr.mono (by decide)) (by rfl) (aac (av 0) (aac ai aan))) (fun _ _ => rfl) (fun _ _ => rfl)) (aac (aixA (hu_of hr) (av 5) (acd d_drawL_ hg (hr.mono (by decide)) (by rfl) (aac (av 0) (aac ai aan))) (fun _ _ => rfl) (fun _ _ => rfl)) aan)))))) (alst (aac (atup (aac astr (aac (atup (aac ai (aac ai aan))) (aac (atup (aac ai (aac ai aan))) aan)))) aan))))
    (asq (asp2' (ps_par (i := 6) (j := 7) (by rfl) sc_fieldL_.nd rfl rfl (by decide) rfl rfl (aac (alst aan) (aac (aop op_addA oAdd (av 1) (alst (aac astr aan))) aan)) (by rfl)))
    (asq (asf PassesOwn.never rfl (air1 (by rfl) m_range (aac (aop op_addA oAdd ai (acd d_drawL_ hg (hr.mono (by decide)) (by rfl) (aac (av 0) (aac ai aan)))) aan)) (agn (i := 3) sc_fieldL_.nd rfl (.inl rfl)) (asq (ass (i := 8) sc_fieldL_.nd rfl (.inr rfl) (aixA (hu_of hr) (av 7) (acd d_drawL_ hg (hr.mono (by decide)) (by rfl) (aac (av 0) (aac (acb call_lenA cLen (by rfl) m_len PySem.boot_len (aac (av 7) aan)) aan))) (fun _ _ => rfl) (fun _ _ => rfl)))
    (asq (aslc (own := [("_law_name", 12)]) (i := 9) rfl sc_fieldL_.nd rfl rfl (sw_true rfl rfl rfl (by decide +kernel)) (ais (av 7)) (blkOk_by (own := [("_law_name", 12)]) (N := sc_fieldL_N) (sc := sc_fieldL_S) (by decide +kernel)) (by simp [Pat.slots, Pat.slotss]) (fun _ _ _ _ _ => (agn (i := 12) sc_fieldL_.nd rfl (.inl rfl))) (fun _ _ _ _ _ => (pts_one (atc (op_neA hr.units) oNe (av 12) (av 8) (nomark _)))) (fun _ _ _ _ _ => (av 12)))
    (asq (ass (i := 10) sc_fieldL_.nd rfl (.inl rfl) (aixA (hu_of hr) (alst (aac (atup (aac ai (aac ai aan))) (aac (atup (aac ai (aac ai aan))) (aac (atup (aac ai (aac ai aan))) (aac (atup (aac ai (aac ai aan))) aan))))) (acd d_drawL_ hg (hr.mono (by decide)) (by rfl) (aac (av 0) (aac ai aan))) (fun _ _ => rfl) (fun _ _ => rfl)))
    (asq (ass (i := 11) sc_fieldL_.nd rfl (.inl rfl) (aixA (hu_of hr) (alst (aac an (aac (av 10) (aac (acd d_addL_ hg (hr.mono (by decide)) (by rfl) (aac (av 10) (aac (atup (aac ai (aac ai aan))) aan))) (aac (acd d_addL_ hg (hr.mono (by decide)) (by rfl) (aac (av 10) (aac (atup (aac ai (aac ai aan))) aan))) aan))))) (acd d_drawL_ hg (hr.mono (by decide)) (by rfl) (aac (av 0) (aac ai aan))) (fun _ _ => rfl) (fun _ _ => rfl)))
    (as1 (asx (am PySem.F.plainAttrs_list PySem.F.slot_list_append PySem.F.type_list_append mt_append mApp tyL (av 6) (aac (atup (aac (av 8) (aac (aixA (hu_of hr) (av 9) (acd d_drawL_ hg (hr.mono (by decide)) (by rfl) (aac (av 0) (aac (acb call_lenA cLen (by rfl) m_len PySem.boot_len (aac (av 9) aan)) aan))) (fun _ _ => rfl) (fun _ _ => rfl)) (aac (av 10) (aac (av 11) aan))))) aan)))))))))
    (as1 (asr (atup (aac (act call_tuple_of cTuple (by rfl) m_tuple (by decide +kernel) (aac (acb (call_sortedG rfl hr.units) cSortedG (by rfl) m_sorted (by decide +kernel) (aac (av 2) aan)) aan)) (aac (act call_tuple_of cTuple (by rfl) m_tuple (by decide +kernel) (aac (av 6) aan)) (aac astr aan)))))))))))
def ss_clocksL_ : {s : Stmt // topS 84 = s} := by
  refine ⟨?l, ?h⟩
  case h =>
    conv => lhs; whnf
abbrev st_clocksL_ : Stmt := ss_clocksL_.1
theorem sc_clocksL_ : FnScope ["_law_feed_here", "_law_field_here", "_law_found", "_law_name", "_law_slow", "_law_fast", "_law_rate"] ["_law_feed_here", "_law_field_here"] (defScope st_clocksL_) := ⟨rfl, rfl, rfl, by decide +kernel, rfl, by decide +kernel, by decide +kernel⟩
theorem ok_clocksL_ {f : Addr} {fd : FuncData} (F : Fun K "_law_clocks" "_law_clocks" st_clocksL_ f fd) (hb : Binds K fd ["_law_feed_here", "_law_field_here"] []) (hm : mg "_law_clocks" = some (.ref f)) (d_drawL_ : Def P w K mg base 1 "_law_draw" ["_law_feed_here", "_law_bound"] drawL_) : Def P w K mg base 2 "_law_clocks" ["_law_feed_here", "_law_field_here"] clocksL_ :=
  fn_a F sc_clocksL_ hb hm (g := clocksL_B) fun cdv A outer s H E hg hr => (asq (ass (i := 2) sc_clocksL_.nd rfl (.inl rfl) adic)
    (asq (asf PassesOwn.never rfl (ais (aixA (hu_of hr) (av 1) ai (fun _ _ => rfl) (fun _ _ => rfl))) (agt rfl (agl (agn (i := 3) sc_clocksL_.nd rfl (.inl rfl)) (agl (agn (i := 4) sc_clocksL_.nd rfl (.inl rfl)) (agl (agn (i := 5) sc_clocksL_.nd rfl (.inl rfl)) agl0)))) (asq (ass (i := 6) sc_clocksL_.nd rfl (.inl rfl) (aixA (hu_of hr) (alst (aac (av 4) (aac (av 5) (aac (atup (aac ai (aac ai aan))) aan)))) (acd d_drawL_ hg (hr.mono (by decide)) (by rfl) (aac (av 0) (aac ai aan))) (fun _ _ => rfl) (fun _ _ => rfl)))
    (as1 (asuA (hu_of hr) (atup (aac (atup (aac (acd d_drawL_ hg (hr.mono (by decide)) (by rfl) (aac (av 0) (aac ai aan))) (aac ai aan))) (aac (av 6) aan))) (av 2) (av 3)))))
    (as1 (asr (av 2)))))
def ss_stampL_ : {s : Stmt // topS 85 = s} := by
  refine ⟨?l, ?h⟩
  case h =>
    conv => lhs; whnf
abbrev st_stampL_ : Stmt := ss_stampL_.1
theorem sc_stampL_ : FnScope ["_law_clocks_here", "_law_name", "_law_time", "_law_begun", "_law_rate"] ["_law_clocks_here", "_law_name", "_law_time"] (defScope st_stampL_) := ⟨rfl, rfl, rfl, by decide +kernel, rfl, by decide +kernel, by decide +kernel⟩
theorem ok_stampL_ {f : Addr} {fd : FuncData} (F : Fun K "_law_stamp" "_law_stamp" st_stampL_ f fd) (hb : Binds K fd ["_law_clocks_here", "_law_name", "_law_time"] []) (hm : mg "_law_stamp" = some (.ref f)) (d_addL_ : Def P w K mg base 2 "_law_add" ["_law_one", "_law_other"] addL_) (d_mulL_ : Def P w K mg base 2 "_law_mul" ["_law_one", "_law_other"] mulL_) : Def P w K mg base 3 "_law_stamp" ["_law_clocks_here", "_law_name", "_law_time"] stampL_ :=
  fn_a F sc_stampL_ hb hm (g := stampL_B) fun cdv A outer s H E hg hr => (asq (asa (aixA (hu_of hr) (av 0) (av 1) (fun _ _ => rfl) (fun _ _ => rfl)) (agt rfl (agl (agn (i := 3) sc_stampL_.nd rfl (.inl rfl)) (agl (agn (i := 4) sc_stampL_.nd rfl (.inl rfl)) agl0))))
    (as1 (asr (acd d_addL_ hg (hr.mono (by decide)) (by rfl) (aac (av 3) (aac (acd d_mulL_ hg (hr.mono (by decide)) (by rfl) (aac (av 4) (aac (av 2) aan))) aan))))))
def ss_can_hearL_ : {s : Stmt // topS 86 = s} := by
  refine ⟨?l, ?h⟩
  case h =>
    conv => lhs; whnf
abbrev st_can_hearL_ : Stmt := ss_can_hearL_.1
theorem sc_can_hearL_ : FnScope ["_law_field_here", "_law_notes", "_law_moments", "_law_name", "_law_time", "_law_found", "_law_k", "_law_house", "_law_stamp_here", "_law_deed", "_law_gone", "_law_least", "_law_far"] ["_law_field_here", "_law_notes", "_law_moments", "_law_name", "_law_time"] (defScope st_can_hearL_) := ⟨rfl, rfl, rfl, by decide +kernel, rfl, by decide +kernel, by decide +kernel⟩
theorem ok_can_hearL_ {f : Addr} {fd : FuncData} (F : Fun K "_law_can_hear" "_law_can_hear" st_can_hearL_ f fd) (hb : Binds K fd ["_law_field_here", "_law_notes", "_law_moments", "_law_name", "_law_time"] []) (hm : mg "_law_can_hear" = some (.ref f)) (d_addL_ : Def P w K mg base 2 "_law_add" ["_law_one", "_law_other"] addL_) (d_minusL_ : Def P w K mg base 1 "_law_minus" ["_law_one"] minusL_) (d_is_lessL_ : Def P w K mg base 1 "_law_is_less" ["_law_one", "_law_other"] is_lessL_) (m_enumerate : mg "enumerate" = none) : Def P w K mg base 3 "_law_can_hear" ["_law_field_here", "_law_notes", "_law_moments", "_law_name", "_law_time"] can_hearL_ :=
  fn_a F sc_can_hearL_ hb hm (g := can_hearL_B) fun cdv A outer s H E hg hr => (asq (ass (i := 5) sc_can_hearL_.nd rfl (.inl rfl) (alst aan))
    (asq (asf PassesOwn.never rfl (aie (by rfl) m_enumerate (aac (av 1) aan)) (agt rfl (agl (agn (i := 6) sc_can_hearL_.nd rfl (.inl rfl)) (agl (agt rfl (agl (agn (i := 7) sc_can_hearL_.nd rfl (.inl rfl)) (agl (agn (i := 8) sc_can_hearL_.nd rfl (.inl rfl)) (agl (agn (i := 9) sc_can_hearL_.nd rfl (.inl rfl)) agl0)))) agl0))) (as1 (asi (atw (aw (atc (op_eqA hr.units) oEq (aixA (hu_of hr) (av 9) ai (fun _ _ => rfl) (fun _ _ => rfl)) astr (nomark _)) (aw1 (atc (op_eqA hr.units) oEq (aixA (hu_of hr) (aixA (hu_of hr) (aixA (hu_of hr) (av 0) ai (fun _ _ => rfl) (fun _ _ => rfl)) (aixA (hu_of hr) (av 9) ai (fun _ _ => rfl) (fun _ _ => rfl)) (fun _ _ => rfl) (fun _ _ => rfl)) ai (fun _ _ => rfl) (fun _ _ => rfl)) (av 3) (nomark _))))) (asq (asa (asl sl_B oSlA (aixA (hu_of hr) (aixA (hu_of hr) (av 0) ai (fun _ _ => rfl) (fun _ _ => rfl)) (aixA (hu_of hr) (av 9) ai (fun _ _ => rfl) (fun _ _ => rfl)) (fun _ _ => rfl) (fun _ _ => rfl)) (aos ai) aon) (agt rfl (agl (agn (i := 11) sc_can_hearL_.nd rfl (.inl rfl)) (agl (agn (i := 12) sc_can_hearL_.nd rfl (.inl rfl)) agl0))))
    (asq (ass (i := 10) sc_can_hearL_.nd rfl (.inl rfl) (acd d_addL_ hg (hr.mono (by decide)) (by rfl) (aac (av 4) (aac (acd d_minusL_ hg (hr.mono (by decide)) (by rfl) (aac (aixA (hu_of hr) (av 2) (av 6) (fun _ _ => rfl) (fun _ _ => rfl)) aan)) aan))))
    (as1 (asi (atw (aw (atn (atv (acd d_is_lessL_ hg (hr.mono (by decide)) (by rfl) (aac (av 10) (aac (av 11) aan))))) (aw1 (atw (awo (atc op_isN oIs (av 12) an (nomark _)) (awo1 (atn (atv (acd d_is_lessL_ hg (hr.mono (by decide)) (by rfl) (aac (av 12) (aac (av 10) aan))))))))))) (as1 (asx (am PySem.F.plainAttrs_list PySem.F.slot_list_append PySem.F.type_list_append mt_append mApp tyL (av 5) (aac (av 6) aan)))) asn)))) asn)))
    (as1 (asr (av 5)))))
def ss_storyL_ : {s : Stmt // topS 87 = s} := by
  refine ⟨?l, ?h⟩
  case h =>
    conv => lhs; whnf
abbrev st_storyL_ : Stmt := ss_storyL_.1
abbrev sc_storyL_N : List Str := ["_law_feed_here", "_law_field_here", "_law_bound", "_law_k", "_law_clocks_here", "_law_notes", "_law_moments", "_law_time", "_law_ways", "_law_heard", "_law_way", "_law_name", "_law_deed", "_law_j"]
abbrev sc_storyL_S : Scope := defScope st_storyL_
theorem sc_storyL_ : FnScope ["_law_feed_here", "_law_field_here", "_law_bound", "_law_k", "_law_clocks_here", "_law_notes", "_law_moments", "_law_time", "_law_ways", "_law_heard", "_law_way", "_law_name", "_law_deed", "_law_j"] ["_law_feed_here", "_law_field_here", "_law_bound"] (defScope st_storyL_) := ⟨rfl, rfl, rfl, by decide +kernel, rfl, by decide +kernel, by decide +kernel⟩
theorem ok_storyL_ {f : Addr} {fd : FuncData} (F : Fun K "_law_story" "_law_story" st_storyL_ f fd) (hb : Binds K fd ["_law_feed_here", "_law_field_here", "_law_bound"] []) (hm : mg "_law_story" = some (.ref f)) (d_clocksL_ : Def P w K mg base 2 "_law_clocks" ["_law_feed_here", "_law_field_here"] clocksL_) (d_addL_ : Def P w K mg base 2 "_law_add" ["_law_one", "_law_other"] addL_) (d_can_hearL_ : Def P w K mg base 3 "_law_can_hear" ["_law_field_here", "_law_notes", "_law_moments", "_law_name", "_law_time"] can_hearL_) (d_drawL_ : Def P w K mg base 1 "_law_draw" ["_law_feed_here", "_law_bound"] drawL_) (d_stampL_ : Def P w K mg base 3 "_law_stamp" ["_law_clocks_here", "_law_name", "_law_time"] stampL_) (m_range : mg "range" = none) (m_enumerate : mg "enumerate" = none) (m_len : mg "len" = none) : Def P w K mg base 4 "_law_story" ["_law_feed_here", "_law_field_here", "_law_bound"] storyL_ :=
  fn_a F sc_storyL_ hb hm (g := storyL_B) fun cdv A outer s H E hg hr => (asq (asa (atup (aac (acd d_clocksL_ hg (hr.mono (by decide)) (by rfl) (aac (av 0) (aac (av 1) aan))) (aac (alst aan) (aac (alst aan) (aac (atup (aac ai (aac ai aan))) aan))))) (agt rfl (agl (agn (i := 4) sc_storyL_.nd rfl (.inl rfl)) (agl (agn (i := 5) sc_storyL_.nd rfl (.inl rfl)) (agl (agn (i := 6) sc_storyL_.nd rfl (.inl rfl)) (agl (agn (i := 7) sc_storyL_.nd rfl (.inl rfl)) agl0))))))
    (asq (asf PassesOwn.never rfl (air1 (by rfl) m_range (aac (av 2) aan)) (agn (i := 3) sc_storyL_.nd rfl (.inl rfl)) (asq (ass (i := 7) sc_storyL_.nd rfl (.inl rfl) (acd d_addL_ hg (hr.mono (by decide)) (by rfl) (aac (av 7) (aac (aixA (hu_of hr) (alst (aac (atup (aac ai (aac ai aan))) (aac (atup (aac ai (aac ai aan))) (aac (atup (aac ai (aac ai aan))) (aac (atup (aac ai (aac ai aan))) aan))))) (acd d_drawL_ hg (hr.mono (by decide)) (by rfl) (aac (av 0) (aac ai aan))) (fun _ _ => rfl) (fun _ _ => rfl)) aan))))
    (asq (asa (atup (aac (aixA (hu_of hr) (aixA (hu_of hr) (aixA (hu_of hr) (av 1) ai (fun _ _ => rfl) (fun _ _ => rfl)) (acd d_drawL_ hg (hr.mono (by decide)) (by rfl) (aac (av 0) (aac (acb call_lenA cLen (by rfl) m_len PySem.boot_len (aac (aixA (hu_of hr) (av 1) ai (fun _ _ => rfl) (fun _ _ => rfl)) aan)) aan))) (fun _ _ => rfl) (fun _ _ => rfl)) ai (fun _ _ => rfl) (fun _ _ => rfl)) (aac (atup (aac astr aan)) aan))) (agt rfl (agl (agn (i := 11) sc_storyL_.nd rfl (.inr rfl)) (agl (agn (i := 12) sc_storyL_.nd rfl (.inl rfl)) agl0))))
    (asq (aslc (own := [("_law_j", 13), ("_law_way", 10)]) (i := 8) rfl sc_storyL_.nd rfl rfl (sw_true rfl rfl rfl (by decide +kernel)) (aie (by rfl) m_enumerate (aac (aixA (hu_of hr) (av 1) ai (fun _ _ => rfl) (fun _ _ => rfl)) aan)) (blkOk_by (own := [("_law_j", 13), ("_law_way", 10)]) (N := sc_storyL_N) (sc := sc_storyL_S) (by decide +kernel)) (by simp [Pat.slots, Pat.slotss]) (fun _ _ _ _ _ => (agt rfl (agl (agn (i := 13) sc_storyL_.nd rfl (.inl rfl)) (agl (agn (i := 10) sc_storyL_.nd rfl (.inl rfl)) agl0)))) (fun _ _ _ _ _ => (pts_one (atc (op_eqA hr.units) oEq (aixA (hu_of hr) (av 10) ai (fun _ _ => rfl) (fun _ _ => rfl)) (av 11) (nomark _)))) (fun _ _ _ _ _ => (av 13)))
    (asq (ass (i := 9) sc_storyL_.nd rfl (.inl rfl) (acd d_can_hearL_ hg (hr.mono (by decide)) (by rfl) (aac (av 1) (aac (av 5) (aac (av 6) (aac (av 11) (aac (av 7) aan)))))))
    (asq (ass (i := 10) sc_storyL_.nd rfl (.inl rfl) (acd d_drawL_ hg (hr.mono (by decide)) (by rfl) (aac (av 0) (aac ai aan))))
    (asq (asi (atw (aw (atc op_lt oLt (av 10) ai (nomark _)) (aw1 (atc (op_neA hr.units) oNe (av 8) (alst aan) (nomark _))))) (as1 (ass (i := 12) sc_storyL_.nd rfl (.inl rfl) (atup (aac astr (aac (aixA (hu_of hr) (av 8) (acd d_drawL_ hg (hr.mono (by decide)) (by rfl) (aac (av 0) (aac (acb call_lenA cLen (by rfl) m_len PySem.boot_len (aac (av 8) aan)) aan))) (fun _ _ => rfl) (fun _ _ => rfl)) aan))))) asn)
    (asq (asi (atw (aw (atc op_gt oGt (av 10) ai (nomark _)) (aw1 (atc (op_neA hr.units) oNe (av 9) (alst aan) (nomark _))))) (as1 (ass (i := 12) sc_storyL_.nd rfl (.inl rfl) (atup (aac astr (aac (aixA (hu_of hr) (av 9) (acd d_drawL_ hg (hr.mono (by decide)) (by rfl) (aac (av 0) (aac (acb call_lenA cLen (by rfl) m_len PySem.boot_len (aac (av 9) aan)) aan))) (fun _ _ => rfl) (fun _ _ => rfl)) aan))))) asn)
    (asq (asx (am PySem.F.plainAttrs_list PySem.F.slot_list_append PySem.F.type_list_append mt_append mApp tyL (av 5) (aac (atup (aac (av 11) (aac (acd d_stampL_ hg (hr.mono (by decide)) (by rfl) (aac (av 4) (aac (av 11) (aac (av 7) aan)))) (aac (av 12) aan)))) aan)))
    (as1 (asx (am PySem.F.plainAttrs_list PySem.F.slot_list_append PySem.F.type_list_append mt_append mApp tyL (av 6) (aac (av 7) aan)))))))))))))
    (as1 (asr (atup (aac (av 5) (aac (av 6) (aac (av 4) aan))))))))
def ss_netL_ : {s : Stmt // topS 88 = s} := by
  refine ⟨?l, ?h⟩
  case h =>
    conv => lhs; whnf
abbrev st_netL_ : Stmt := ss_netL_.1
abbrev sc_netL_N : List Str := ["_law_feed_here", "_law_names", "_law_members", "_law_wires", "_law_j", "_law_one", "_law_name", "_law_other"]
abbrev sc_netL_S : Scope := defScope st_netL_
theorem sc_netL_ : FnScope ["_law_feed_here", "_law_names", "_law_members", "_law_wires", "_law_j", "_law_one", "_law_name", "_law_other"] ["_law_feed_here"] (defScope st_netL_) := ⟨rfl, rfl, rfl, by decide +kernel, rfl, by decide +kernel, by decide +kernel⟩
theorem ok_netL_ {f : Addr} {fd : FuncData} (F : Fun K "_law_net" "_law_net" st_netL_ f fd) (hb : Binds K fd ["_law_feed_here"] []) (hm : mg "_law_net" = some (.ref f)) (d_drawL_ : Def P w K mg base 1 "_law_draw" ["_law_feed_here", "_law_bound"] drawL_) (m_tuple : mg "tuple" = none) (m_enumerate : mg "enumerate" = none) : Def P w K mg base 2 "_law_net" ["_law_feed_here"] netL_ :=
  fn_a F sc_netL_ hb hm (g := netL_B) fun cdv A outer s H E hg hr => (asq (ass (i := 1) sc_netL_.nd rfl (.inl rfl) (asl sl_B oSlA (alst (aac astr (aac astr (aac astr (aac astr (aac astr aan)))))) aon (aos (aop op_addA oAdd ai (acd d_drawL_ hg (hr.mono (by decide)) (by rfl) (aac (av 0) (aac ai aan)))))))
    (asq (ass (i := 2) sc_netL_.nd rfl (.inl rfl) (act call_tuple_of cTuple (by rfl) m_tuple (by decide +kernel) (aac (alc (own := [("_law_name", 6)]) rfl sc_netL_.nd (ais (av 1)) (blkOk_by (own := [("_law_name", 6)]) (N := sc_netL_N) (sc := sc_netL_S) (by decide +kernel)) (by simp [Pat.slots, Pat.slotss]) (fun _ _ _ _ _ => (agn (i := 6) sc_netL_.nd rfl (.inl rfl))) (fun _ _ _ _ _ => ats0) (fun _ _ _ _ _ => (atup (aac (av 6) (aac (acd d_drawL_ hg (hr.mono (by decide)) (by rfl) (aac (av 0) (aac ai aan))) (aac (acd d_drawL_ hg (hr.mono (by decide)) (by rfl) (aac (av 0) (aac ai aan))) aan)))))) aan)))
    (asq (ass (i := 3) sc_netL_.nd rfl (.inl rfl) (alst aan))
    (asq (asf PassesOwn.never rfl (aie (by rfl) m_enumerate (aac (av 1) aan)) (agt rfl (agl (agn (i := 4) sc_netL_.nd rfl (.inl rfl)) (agl (agn (i := 5) sc_netL_.nd rfl (.inr rfl)) agl0))) (as1 (ass (i := 3) sc_netL_.nd rfl (.inl rfl) (aop op_addA oAdd (av 3) (alc (own := [("_law_other", 7)]) rfl sc_netL_.nd (ais (asl sl_B oSlA (av 1) (aos (aop op_addA oAdd (av 4) ai)) aon)) (blkOk_by (own := [("_law_other", 7)]) (N := sc_netL_N) (sc := sc_netL_S) (by decide +kernel)) (by simp [Pat.slots, Pat.slotss]) (fun _ _ _ _ _ => (agn (i := 7) sc_netL_.nd rfl (.inl rfl))) (fun _ _ _ _ _ => (pts_one (atc (op_eqA hr.units) oEq (acd d_drawL_ hg (hr.mono (by decide)) (by rfl) (aac (av 0) (aac ai aan))) ai (nomark _)))) (fun _ _ _ _ _ => (atup (aac (av 5) (aac (av 7) aan)))))))))
    (as1 (asr (atup (aac (av 2) (aac (act call_tuple_of cTuple (by rfl) m_tuple (by decide +kernel) (aac (av 3) aan)) aan)))))))))
def ss_Keeper_init_ : {s : Stmt // (clsB (topS 35)).getD 0 (.Pass ⟨0, 0, 0, 0⟩) = s} := by
  refine ⟨?l, ?h⟩
  case h =>
    conv => lhs; whnf
abbrev st_Keeper_init_ : Stmt := ss_Keeper_init_.1
theorem sc_Keeper_init_ : FnScope ["self", "field"] ["self", "field"] (defScope st_Keeper_init_) := ⟨rfl, rfl, rfl, by decide +kernel, rfl, by decide +kernel, by decide +kernel⟩
theorem ok_Keeper_init_ {f : Addr} {fd : FuncData} (F : Fun K "__init__" "Keeper.__init__" st_Keeper_init_ f fd) (hb : Binds K fd ["self", "field"] []) (mk : Mk K (AL.TT.cls "Keeper") f) (hm : mg "Keeper" = some (.ref (AL.TT.cls "Keeper"))) (oc_Keeper : Cls K (AL.TT.cls "Keeper")) (na_Keeper_last_at : NoAttr K (AL.TT.cls "Keeper") "last_at") (na_Keeper_pairs : NoAttr K (AL.TT.cls "Keeper") "pairs") (na_Keeper_events : NoAttr K (AL.TT.cls "Keeper") "events") (na_Keeper_at_field : NoAttr K (AL.TT.cls "Keeper") "at_field") : Made P w K mg base 1 "Keeper" ["self", "field"] Keeper_init_ :=
  ⟨f, fd, fn_aG F sc_Keeper_init_ (g := Keeper_init_B) fun cdv A outer s H E hg hr => (asq (asFld oc_Keeper na_Keeper_at_field (av 0) (av 1))
    (asq (asFld oc_Keeper na_Keeper_events (av 0) (alst aan))
    (asq (asFld oc_Keeper na_Keeper_pairs (av 0) (alst aan))
    (as1 (asFld oc_Keeper na_Keeper_last_at (av 0) adic))))), hb, mk, hm⟩
def ss_NetRun_init_ : {s : Stmt // (clsB (topS 42)).getD 0 (.Pass ⟨0, 0, 0, 0⟩) = s} := by
  refine ⟨?l, ?h⟩
  case h =>
    conv => lhs; whnf
abbrev st_NetRun_init_ : Stmt := ss_NetRun_init_.1
theorem sc_NetRun_init_ : FnScope ["self", "net", "most", "age"] ["self", "net", "most", "age"] (defScope st_NetRun_init_) := ⟨rfl, rfl, rfl, by decide +kernel, rfl, by decide +kernel, by decide +kernel⟩
theorem ok_NetRun_init_ {f : Addr} {fd : FuncData} (F : Fun K "__init__" "NetRun.__init__" st_NetRun_init_ f fd) (d_first_state_ : Def P w K mg base 2 "first_state" ["net"] first_state_) (oc_NetRun : Cls K (AL.TT.cls "NetRun")) (na_NetRun_turns : NoAttr K (AL.TT.cls "NetRun") "turns") (na_NetRun_wires_up : NoAttr K (AL.TT.cls "NetRun") "wires_up") (na_NetRun_state : NoAttr K (AL.TT.cls "NetRun") "state") (na_NetRun_age : NoAttr K (AL.TT.cls "NetRun") "age") (na_NetRun_most : NoAttr K (AL.TT.cls "NetRun") "most") (na_NetRun_net : NoAttr K (AL.TT.cls "NetRun") "net") : FnG P w K mg base 3 f fd ["self", "net", "most", "age"] (spA K 4 NetRun_init_) :=
  fn_aG F sc_NetRun_init_ (g := NetRun_init_B) fun cdv A outer s H E hg hr => (asq (asFld oc_NetRun na_NetRun_net (av 0) (av 1))
    (asq (asFld oc_NetRun na_NetRun_most (av 0) (av 2))
    (asq (asFld oc_NetRun na_NetRun_age (av 0) (av 3))
    (asq (asFld oc_NetRun na_NetRun_state (av 0) (acd d_first_state_ hg (hr.mono (by decide)) (by rfl) (aac (av 1) aan)))
    (asq (asFld oc_NetRun na_NetRun_wires_up (av 0) (aixA (hu_of hr) (av 1) ai (fun _ _ => rfl) (fun _ _ => rfl)))
    (as1 (asFld oc_NetRun na_NetRun_turns (av 0) (alst aan))))))))
def ss_Court_init_ : {s : Stmt // (clsB (topS 74)).getD 0 (.Pass ⟨0, 0, 0, 0⟩) = s} := by
  refine ⟨?l, ?h⟩
  case h =>
    conv => lhs; whnf
abbrev st_Court_init_ : Stmt := ss_Court_init_.1
theorem sc_Court_init_ : FnScope ["self", "field", "members", "wires", "most", "age"] ["self", "field", "members", "wires", "most", "age"] (defScope st_Court_init_) := ⟨rfl, rfl, rfl, by decide +kernel, rfl, by decide +kernel, by decide +kernel⟩
theorem ok_Court_init_ {f : Addr} {fd : FuncData} (F : Fun K "__init__" "Court.__init__" st_Court_init_ f fd) (k_Keeper : Made P w K mg base 1 "Keeper" ["self", "field"] Keeper_init_) (kk_NetRun1_most_age : MadeK P w K mg base 3 "NetRun" 1 ["most", "age"] (fun as bs => as ++ bs) NetRun_init_) (oc_Court : Cls K (AL.TT.cls "Court")) (na_Court_walking : NoAttr K (AL.TT.cls "Court") "walking") (na_Court_run : NoAttr K (AL.TT.cls "Court") "run") (na_Court_keeper : NoAttr K (AL.TT.cls "Court") "keeper") (na_Court_rows : NoAttr K (AL.TT.cls "Court") "rows") (na_Court_head : NoAttr K (AL.TT.cls "Court") "head") : FnG P w K mg base 5 f fd ["self", "field", "members", "wires", "most", "age"] (spA K 6 Court_init_) :=
  fn_aG F sc_Court_init_ (g := Court_init_B) fun cdv A outer s H E hg hr => (asq (asFld oc_Court na_Court_head (av 0) (atup (aac astr (aac (av 1) (aac (av 2) (aac (av 3) (aac (av 4) (aac (av 5) aan))))))))
    (asq (asFld oc_Court na_Court_rows (av 0) (alst aan))
    (asq (asFld oc_Court na_Court_keeper (av 0) (aMk k_Keeper hg (hr.mono (by decide)) (by rfl) (aac (av 1) aan)))
    (asq (asFld oc_Court na_Court_run (av 0) (aMkK kk_NetRun1_most_age hg (hr.mono (by decide)) (by rfl) (aac (atup (aac (av 2) (aac (av 3) aan))) aan) (akc (av 4) (akc (av 5) akn))))
    (as1 (asFld oc_Court na_Court_walking (av 0) ai))))))
def ss_openedL_ : {s : Stmt // topS 89 = s} := by
  refine ⟨?l, ?h⟩
  case h =>
    conv => lhs; whnf
abbrev st_openedL_ : Stmt := ss_openedL_.1
theorem sc_openedL_ : FnScope ["_law_feed_here", "_law_field_here", "_law_net_here", "_law_first"] ["_law_feed_here", "_law_field_here", "_law_net_here"] (defScope st_openedL_) := ⟨rfl, rfl, rfl, by decide +kernel, rfl, by decide +kernel, by decide +kernel⟩
theorem ok_openedL_ {f : Addr} {fd : FuncData} (F : Fun K "_law_opened" "_law_opened" st_openedL_ f fd) (hb : Binds K fd ["_law_feed_here", "_law_field_here", "_law_net_here"] []) (hm : mg "_law_opened" = some (.ref f)) (d_drawL_ : Def P w K mg base 1 "_law_draw" ["_law_feed_here", "_law_bound"] drawL_) (kk_Court3_most_age : MadeK P w K mg base 5 "Court" 3 ["most", "age"] (fun as bs => as ++ bs) Court_init_) : Def P w K mg base 7 "_law_opened" ["_law_feed_here", "_law_field_here", "_law_net_here"] openedL_ :=
  fn_a F sc_openedL_ hb hm (g := openedL_B) fun cdv A outer s H E hg hr => (asq (ass (i := 3) sc_openedL_.nd rfl (.inl rfl) (atup (aac astr (aac (av 1) (aac (aixA (hu_of hr) (av 2) ai (fun _ _ => rfl) (fun _ _ => rfl)) (aac (aixA (hu_of hr) (av 2) ai (fun _ _ => rfl) (fun _ _ => rfl)) (aac (aop op_addA oAdd ai (acd d_drawL_ hg (hr.mono (by decide)) (by rfl) (aac (av 0) (aac ai aan)))) (aac (acd d_drawL_ hg (hr.mono (by decide)) (by rfl) (aac (av 0) (aac ai aan))) aan))))))))
    (as1 (asr (atup (aac (aMkK kk_Court3_most_age hg (hr.mono (by decide)) (by rfl) (aac (av 1) (aac (aixA (hu_of hr) (av 2) ai (fun _ _ => rfl) (fun _ _ => rfl)) (aac (aixA (hu_of hr) (av 2) ai (fun _ _ => rfl) (fun _ _ => rfl)) aan))) (akc (aixA (hu_of hr) (av 3) ai (fun _ _ => rfl) (fun _ _ => rfl)) (akc (aixA (hu_of hr) (av 3) ai (fun _ _ => rfl) (fun _ _ => rfl)) akn))) (aac (av 3) aan))))))
def ss_partL_ : {s : Stmt // topS 90 = s} := by
  refine ⟨?l, ?h⟩
  case h =>
    conv => lhs; whnf
abbrev st_partL_ : Stmt := ss_partL_.1
theorem sc_partL_ : FnScope ["_law_one", "_law_other"] ["_law_one", "_law_other"] (defScope st_partL_) := ⟨rfl, rfl, rfl, by decide +kernel, rfl, by decide +kernel, by decide +kernel⟩
theorem ok_partL_ {f : Addr} {fd : FuncData} (F : Fun K "_law_part" "_law_part" st_partL_ f fd) (hb : Binds K fd ["_law_one", "_law_other"] []) (hm : mg "_law_part" = some (.ref f)) (d_fracL_ : Def P w K mg base 1 "_law_frac" ["_law_a", "_law_b"] fracL_) : Def P w K mg base 2 "_law_part" ["_law_one", "_law_other"] partL_ :=
  fn_a F sc_partL_ hb hm (g := partL_B) fun cdv A outer s H E hg hr => (as1 (asr (acd d_fracL_ hg (hr.mono (by decide)) (by rfl) (aac (aop op_mulW oMul (aixA (hu_of hr) (av 0) ai (fun _ _ => rfl) (fun _ _ => rfl)) (aixA (hu_of hr) (av 1) ai (fun _ _ => rfl) (fun _ _ => rfl))) (aac (aop op_mulW oMul (aixA (hu_of hr) (av 0) ai (fun _ _ => rfl) (fun _ _ => rfl)) (aixA (hu_of hr) (av 1) ai (fun _ _ => rfl) (fun _ _ => rfl))) aan)))))
def ss_grownL_ : {s : Stmt // topS 91 = s} := by
  refine ⟨?l, ?h⟩
  case h =>
    conv => lhs; whnf
abbrev st_grownL_ : Stmt := ss_grownL_.1
theorem sc_grownL_ : FnScope ["_law_pair", "_law_stamp_here", "_law_elder", "_law_home", "_law_gone", "_law_low"] ["_law_pair", "_law_stamp_here", "_law_elder", "_law_home"] (defScope st_grownL_) := ⟨rfl, rfl, rfl, by decide +kernel, rfl, by decide +kernel, by decide +kernel⟩
theorem ok_grownL_ {f : Addr} {fd : FuncData} (F : Fun K "_law_grown" "_law_grown" st_grownL_ f fd) (hb : Binds K fd ["_law_pair", "_law_stamp_here", "_law_elder", "_law_home"] []) (hm : mg "_law_grown" = some (.ref f)) (d_addL_ : Def P w K mg base 2 "_law_add" ["_law_one", "_law_other"] addL_) (d_minusL_ : Def P w K mg base 1 "_law_minus" ["_law_one"] minusL_) (d_partL_ : Def P w K mg base 2 "_law_part" ["_law_one", "_law_other"] partL_) : Def P w K mg base 3 "_law_grown" ["_law_pair", "_law_stamp_here", "_law_elder", "_law_home"] grownL_ :=
  fn_a F sc_grownL_ hb hm (g := grownL_B) fun cdv A outer s H E hg hr => (asq (ass (i := 4) sc_grownL_.nd rfl (.inl rfl) (acd d_addL_ hg (hr.mono (by decide)) (by rfl) (aac (av 1) (aac (acd d_minusL_ hg (hr.mono (by decide)) (by rfl) (aac (av 2) aan)) aan))))
    (asq (ass (i := 5) sc_grownL_.nd rfl (.inl rfl) (aif (atc op_isN oIs (aixA (hu_of hr) (av 0) ai (fun _ _ => rfl) (fun _ _ => rfl)) an (nomark _)) an (acd d_addL_ hg (hr.mono (by decide)) (by rfl) (aac (aixA (hu_of hr) (av 0) ai (fun _ _ => rfl) (fun _ _ => rfl)) (aac (acd d_partL_ hg (hr.mono (by decide)) (by rfl) (aac (av 4) (aac (aixA (hu_of hr) (av 3) ai (fun _ _ => rfl) (fun _ _ => rfl)) aan))) aan)))))
    (as1 (asr (atup (aac (av 5) (aac (aif (atc op_isN oIs (aixA (hu_of hr) (av 0) ai (fun _ _ => rfl) (fun _ _ => rfl)) an (nomark _)) an (acd d_addL_ hg (hr.mono (by decide)) (by rfl) (aac (aixA (hu_of hr) (av 0) ai (fun _ _ => rfl) (fun _ _ => rfl)) (aac (acd d_partL_ hg (hr.mono (by decide)) (by rfl) (aac (av 4) (aac (aixA (hu_of hr) (av 3) ai (fun _ _ => rfl) (fun _ _ => rfl)) aan))) aan)))) aan)))))))
def ss_narrowedL_ : {s : Stmt // topS 92 = s} := by
  refine ⟨?l, ?h⟩
  case h =>
    conv => lhs; whnf
abbrev st_narrowedL_ : Stmt := ss_narrowedL_.1
theorem sc_narrowedL_ : FnScope ["_law_pair", "_law_other", "_law_way", "_law_low", "_law_high", "_law_more"] ["_law_pair", "_law_other", "_law_way"] (defScope st_narrowedL_) := ⟨rfl, rfl, rfl, by decide +kernel, rfl, by decide +kernel, by decide +kernel⟩
theorem ok_narrowedL_ {f : Addr} {fd : FuncData} (F : Fun K "_law_narrowed" "_law_narrowed" st_narrowedL_ f fd) (hb : Binds K fd ["_law_pair", "_law_other", "_law_way"] []) (hm : mg "_law_narrowed" = some (.ref f)) (d_addL_ : Def P w K mg base 2 "_law_add" ["_law_one", "_law_other"] addL_) (d_is_lessL_ : Def P w K mg base 1 "_law_is_less" ["_law_one", "_law_other"] is_lessL_) : Def P w K mg base 3 "_law_narrowed" ["_law_pair", "_law_other", "_law_way"] narrowedL_ :=
  fn_a F sc_narrowedL_ hb hm (g := narrowedL_B) fun cdv A outer s H E hg hr => (asq (asa (av 0) (agt rfl (agl (agn (i := 3) sc_narrowedL_.nd rfl (.inl rfl)) (agl (agn (i := 4) sc_narrowedL_.nd rfl (.inl rfl)) agl0))))
    (asq (asi (atc op_notN oIsN (aixA (hu_of hr) (av 1) ai (fun _ _ => rfl) (fun _ _ => rfl)) an (nomark _)) (asq (ass (i := 5) sc_narrowedL_.nd rfl (.inl rfl) (acd d_addL_ hg (hr.mono (by decide)) (by rfl) (aac (aixA (hu_of hr) (av 1) ai (fun _ _ => rfl) (fun _ _ => rfl)) (aac (aixA (hu_of hr) (av 2) ai (fun _ _ => rfl) (fun _ _ => rfl)) aan))))
    (as1 (ass (i := 3) sc_narrowedL_.nd rfl (.inl rfl) (aif (atw (awo (atc op_isN oIs (av 3) an (nomark _)) (awo1 (atv (acd d_is_lessL_ hg (hr.mono (by decide)) (by rfl) (aac (av 3) (aac (av 5) aan))))))) (av 5) (av 3))))) asn)
    (asq (asi (atw (aw (atc op_notN oIsN (aixA (hu_of hr) (av 1) ai (fun _ _ => rfl) (fun _ _ => rfl)) an (nomark _)) (aw1 (atc op_notN oIsN (aixA (hu_of hr) (av 2) ai (fun _ _ => rfl) (fun _ _ => rfl)) an (nomark _))))) (asq (ass (i := 5) sc_narrowedL_.nd rfl (.inl rfl) (acd d_addL_ hg (hr.mono (by decide)) (by rfl) (aac (aixA (hu_of hr) (av 1) ai (fun _ _ => rfl) (fun _ _ => rfl)) (aac (aixA (hu_of hr) (av 2) ai (fun _ _ => rfl) (fun _ _ => rfl)) aan))))
    (as1 (ass (i := 4) sc_narrowedL_.nd rfl (.inl rfl) (aif (atw (awo (atc op_isN oIs (av 4) an (nomark _)) (awo1 (atv (acd d_is_lessL_ hg (hr.mono (by decide)) (by rfl) (aac (av 5) (aac (av 4) aan))))))) (av 5) (av 4))))) asn)
    (as1 (asr (atup (aac (av 3) (aac (av 4) aan))))))))
def ss_keptL_ : {s : Stmt // topS 93 = s} := by
  refine ⟨?l, ?h⟩
  case h =>
    conv => lhs; whnf
abbrev st_keptL_ : Stmt := ss_keptL_.1
abbrev sc_keptL_N : List Str := ["_law_field_here", "_law_notes", "_law_homes", "_law_found", "_law_last", "_law_k", "_law_pair", "_law_name", "_law_stamp_here", "_law_deed", "_law_home"]
abbrev sc_keptL_S : Scope := defScope st_keptL_
theorem sc_keptL_ : FnScope ["_law_field_here", "_law_notes", "_law_homes", "_law_found", "_law_last", "_law_k", "_law_pair", "_law_name", "_law_stamp_here", "_law_deed", "_law_home"] ["_law_field_here", "_law_notes"] (defScope st_keptL_) := ⟨rfl, rfl, rfl, by decide +kernel, rfl, by decide +kernel, by decide +kernel⟩
theorem ok_keptL_ {f : Addr} {fd : FuncData} (F : Fun K "_law_kept" "_law_kept" st_keptL_ f fd) (hb : Binds K fd ["_law_field_here", "_law_notes"] []) (hm : mg "_law_kept" = some (.ref f)) (d_grownL_ : Def P w K mg base 3 "_law_grown" ["_law_pair", "_law_stamp_here", "_law_elder", "_law_home"] grownL_) (d_narrowedL_ : Def P w K mg base 3 "_law_narrowed" ["_law_pair", "_law_other", "_law_way"] narrowedL_) (m_dict : mg "dict" = none) (m_enumerate : mg "enumerate" = none) : Def P w K mg base 4 "_law_kept" ["_law_field_here", "_law_notes"] keptL_ :=
  fn_a F sc_keptL_ hb hm (g := keptL_B) fun cdv A outer s H E hg hr => (asq (ass (i := 2) sc_keptL_.nd rfl (.inl rfl) (act (call_dictP rfl) cDict (by rfl) m_dict (by decide +kernel) (aac (alc (own := [("_law_home", 10)]) rfl sc_keptL_.nd (ais (aixA (hu_of hr) (av 0) ai (fun _ _ => rfl) (fun _ _ => rfl))) (blkOk_by (own := [("_law_home", 10)]) (N := sc_keptL_N) (sc := sc_keptL_S) (by decide +kernel)) (by simp [Pat.slots, Pat.slotss]) (fun _ _ _ _ _ => (agn (i := 10) sc_keptL_.nd rfl (.inl rfl))) (fun _ _ _ _ _ => ats0) (fun _ _ _ _ _ => (atup (aac (aixA (hu_of hr) (av 10) ai (fun _ _ => rfl) (fun _ _ => rfl)) (aac (av 10) aan))))) aan)))
    (asq (asp2' (ps_par (i := 3) (j := 4) (by rfl) sc_keptL_.nd rfl rfl (by decide) rfl rfl (aac (alst aan) (aac adic aan)) (by rfl)))
    (asq (asf PassesOwn.never rfl (aie (by rfl) m_enumerate (aac (av 1) aan)) (agt rfl (agl (agn (i := 5) sc_keptL_.nd rfl (.inl rfl)) (agl (agt rfl (agl (agn (i := 7) sc_keptL_.nd rfl (.inl rfl)) (agl (agn (i := 8) sc_keptL_.nd rfl (.inl rfl)) (agl (agn (i := 9) sc_keptL_.nd rfl (.inl rfl)) agl0)))) agl0))) (asq (ass (i := 6) sc_keptL_.nd rfl (.inl rfl) (atup (aac an (aac an aan))))
    (asq (asi (atin (hu_of hr) (av 7) (av 4)) (as1 (ass (i := 6) sc_keptL_.nd rfl (.inl rfl) (acd d_grownL_ hg (hr.mono (by decide)) (by rfl) (aac (aixA (hu_of hr) (av 3) (aixA (hu_of hr) (av 4) (av 7) (fun _ _ => rfl) (fun _ _ => rfl)) (fun _ _ => rfl) (fun _ _ => rfl)) (aac (av 8) (aac (aixA (hu_of hr) (aixA (hu_of hr) (av 1) (aixA (hu_of hr) (av 4) (av 7) (fun _ _ => rfl) (fun _ _ => rfl)) (fun _ _ => rfl) (fun _ _ => rfl)) ai (fun _ _ => rfl) (fun _ _ => rfl)) (aac (aixA (hu_of hr) (av 2) (av 7) (fun _ _ => rfl) (fun _ _ => rfl)) aan))))))) asn)
    (asq (asi (atc (op_eqA hr.units) oEq (aixA (hu_of hr) (av 9) ai (fun _ _ => rfl) (fun _ _ => rfl)) astr (nomark _)) (as1 (ass (i := 6) sc_keptL_.nd rfl (.inl rfl) (acd d_narrowedL_ hg (hr.mono (by decide)) (by rfl) (aac (av 6) (aac (aixA (hu_of hr) (av 3) (aixA (hu_of hr) (av 9) ai (fun _ _ => rfl) (fun _ _ => rfl)) (fun _ _ => rfl) (fun _ _ => rfl)) (aac (aixA (hu_of hr) (aixA (hu_of hr) (av 0) ai (fun _ _ => rfl) (fun _ _ => rfl)) (aixA (hu_of hr) (aixA (hu_of hr) (aixA (hu_of hr) (av 1) (aixA (hu_of hr) (av 9) ai (fun _ _ => rfl) (fun _ _ => rfl)) (fun _ _ => rfl) (fun _ _ => rfl)) ai (fun _ _ => rfl) (fun _ _ => rfl)) ai (fun _ _ => rfl) (fun _ _ => rfl)) (fun _ _ => rfl) (fun _ _ => rfl)) aan)))))) asn)
    (asq (asi (atc (op_eqA hr.units) oEq (av 7) (aixA (hu_of hr) (av 0) ai (fun _ _ => rfl) (fun _ _ => rfl)) (nomark _)) (as1 (ass (i := 6) sc_keptL_.nd rfl (.inl rfl) (atup (aac (av 8) (aac (av 8) aan))))) asn)
    (asq (asx (am PySem.F.plainAttrs_list PySem.F.slot_list_append PySem.F.type_list_append mt_append mApp tyL (av 3) (aac (av 6) aan)))
    (as1 (asuA (hu_of hr) (av 5) (av 4) (av 7)))))))))
    (as1 (asr (av 3))))))
def ss_Keeper_bar_place_ : {s : Stmt // (clsB (topS 35)).getD 6 (.Pass ⟨0, 0, 0, 0⟩) = s} := by
  refine ⟨?l, ?h⟩
  case h =>
    conv => lhs; whnf
abbrev st_Keeper_bar_place_ : Stmt := ss_Keeper_bar_place_.1
theorem sc_Keeper_bar_place_ : FnScope ["self", "house", "stamp", "last"] ["self", "house", "stamp"] (defScope st_Keeper_bar_place_) := ⟨rfl, rfl, rfl, by decide +kernel, rfl, by decide +kernel, by decide +kernel⟩
theorem ok_Keeper_bar_place_ {f : Addr} {fd : FuncData} (F : Fun K "bar_place" "Keeper.bar_place" st_Keeper_bar_place_ f fd) (hb : Binds K fd ["self", "house", "stamp"] []) (me : Meth K (AL.TT.cls "Keeper") "bar_place" f) (oc : Cls K (AL.TT.cls "Keeper")) (d_drift_of_ : Def P w K mg base 1 "drift_of" ["field", "name"] drift_of_) (d_is_below_ : Def P w K mg base 1 "is_below" ["one", "other"] is_below_) (x_NoHouse : KnX P w K mg base "NoHouse") (x_NoEvent : KnX P w K mg base "NoEvent") (oc_Keeper : Cls K (AL.TT.cls "Keeper")) (na_Keeper_events : NoAttr K (AL.TT.cls "Keeper") "events") (na_Keeper_last_at : NoAttr K (AL.TT.cls "Keeper") "last_at") (na_Keeper_at_field : NoAttr K (AL.TT.cls "Keeper") "at_field") : MetX P w K mg base 3 "Keeper" "bar_place" ["self", "house", "stamp"] Keeper_bar_place_ :=
  ⟨f, fd, fn_aX F sc_Keeper_bar_place_ (g := Keeper_bar_place_B) fun cdv A outer s H Ek hg hr tk pw => (xsq (xsi (atc op_isN oIs (acd d_drift_of_ hg (hr.mono (by decide)) (by rfl) (aac (aFld oc_Keeper na_Keeper_at_field (av 0)) (aac (av 1) aan))) an (nomark _)) (xs1 (asraise tk x_NoHouse (hr.mono (by decide)) rfl (by rfl) (aac (av 1) aan))) xsn)
    (xsq (xl (ass (i := 3) sc_Keeper_bar_place_.nd rfl (.inl rfl) (aget1 (hu_of hr) (aFld oc_Keeper na_Keeper_last_at (av 0)) (av 1) ⟨rfl, rfl, rfl, rfl⟩)) nr_asg)
    (xs1 (xsi (atw (aw (atc op_notN oIsN (av 3) an (nomark _)) (aw1 (atv (acd d_is_below_ hg (hr.mono (by decide)) (by rfl) (aac (av 2) (aac (aixA (hu_of hr) (aixA (hu_of hr) (aFld oc_Keeper na_Keeper_events (av 0)) (av 3) (fun _ _ => rfl) (fun _ _ => rfl)) ai (fun _ _ => rfl) (fun _ _ => rfl)) aan))))))) (xs1 (asraise tk x_NoEvent (hr.mono (by decide)) rfl (by rfl) (aac astr (aac (av 3) aan)))) xsn)))), hb, me, oc⟩
def ss_Keeper_bar_send_ : {s : Stmt // (clsB (topS 35)).getD 8 (.Pass ⟨0, 0, 0, 0⟩) = s} := by
  refine ⟨?l, ?h⟩
  case h =>
    conv => lhs; whnf
abbrev st_Keeper_bar_send_ : Stmt := ss_Keeper_bar_send_.1
theorem sc_Keeper_bar_send_ : FnScope ["self", "house", "link", "links"] ["self", "house", "link"] (defScope st_Keeper_bar_send_) := ⟨rfl, rfl, rfl, by decide +kernel, rfl, by decide +kernel, by decide +kernel⟩
theorem ok_Keeper_bar_send_ {f : Addr} {fd : FuncData} (F : Fun K "bar_send" "Keeper.bar_send" st_Keeper_bar_send_ f fd) (hb : Binds K fd ["self", "house", "link"] []) (me : Meth K (AL.TT.cls "Keeper") "bar_send" f) (oc : Cls K (AL.TT.cls "Keeper")) (x_NoLink : KnX P w K mg base "NoLink") (x_NoEvent : KnX P w K mg base "NoEvent") (oc_Keeper : Cls K (AL.TT.cls "Keeper")) (na_Keeper_at_field : NoAttr K (AL.TT.cls "Keeper") "at_field") (m_len : mg "len" = none) : MetX P w K mg base 3 "Keeper" "bar_send" ["self", "house", "link"] Keeper_bar_send_ :=
  ⟨f, fd, fn_aX F sc_Keeper_bar_send_ (g := Keeper_bar_send_B) fun cdv A outer s H Ek hg hr tk pw => (xsq (xl (ass (i := 3) sc_Keeper_bar_send_.nd rfl (.inl rfl) (aixA (hu_of hr) (aFld oc_Keeper na_Keeper_at_field (av 0)) ai (fun _ _ => rfl) (fun _ _ => rfl))) nr_asg)
    (xsq (xsi (atn (atch op_le oLe op_lt oLt ai (av 2) (acb call_lenA cLen (by rfl) m_len PySem.boot_len (aac (av 3) aan)))) (xs1 (asraise tk x_NoLink (hr.mono (by decide)) rfl (by rfl) (aac (av 2) aan))) xsn)
    (xs1 (xsi (atc (op_neA hr.units) oNe (aixA (hu_of hr) (aixA (hu_of hr) (av 3) (av 2) (fun _ _ => rfl) (fun _ _ => rfl)) ai (fun _ _ => rfl) (fun _ _ => rfl)) (av 1) (nomark _)) (xs1 (asraise tk x_NoEvent (hr.mono (by decide)) rfl (by rfl) (aac astr (aac (av 2) aan)))) xsn)))), hb, me, oc⟩
def ss_Keeper_bar_number_ : {s : Stmt // (clsB (topS 35)).getD 10 (.Pass ⟨0, 0, 0, 0⟩) = s} := by
  refine ⟨?l, ?h⟩
  case h =>
    conv => lhs; whnf
abbrev st_Keeper_bar_number_ : Stmt := ss_Keeper_bar_number_.1
theorem sc_Keeper_bar_number_ : FnScope ["self", "number"] ["self", "number"] (defScope st_Keeper_bar_number_) := ⟨rfl, rfl, rfl, by decide +kernel, rfl, by decide +kernel, by decide +kernel⟩
theorem ok_Keeper_bar_number_ {f : Addr} {fd : FuncData} (F : Fun K "bar_number" "Keeper.bar_number" st_Keeper_bar_number_ f fd) (hb : Binds K fd ["self", "number"] []) (me : Meth K (AL.TT.cls "Keeper") "bar_number" f) (oc : Cls K (AL.TT.cls "Keeper")) (x_NoNumber : KnX P w K mg base "NoNumber") (oc_Keeper : Cls K (AL.TT.cls "Keeper")) (na_Keeper_events : NoAttr K (AL.TT.cls "Keeper") "events") (m_len : mg "len" = none) : MetX P w K mg base 3 "Keeper" "bar_number" ["self", "number"] Keeper_bar_number_ :=
  ⟨f, fd, fn_aX F sc_Keeper_bar_number_ (g := Keeper_bar_number_B) fun cdv A outer s H Ek hg hr tk pw => (xs1 (xsi (atn (atch op_le oLe op_lt oLt ai (av 1) (acb call_lenA cLen (by rfl) m_len PySem.boot_len (aac (aFld oc_Keeper na_Keeper_events (av 0)) aan)))) (xs1 (asraise tk x_NoNumber (hr.mono (by decide)) rfl (by rfl) (aac (av 1) aan))) xsn)), hb, me, oc⟩
def ss_Keeper_bar_hear_ : {s : Stmt // (clsB (topS 35)).getD 9 (.Pass ⟨0, 0, 0, 0⟩) = s} := by
  refine ⟨?l, ?h⟩
  case h =>
    conv => lhs; whnf
abbrev st_Keeper_bar_hear_ : Stmt := ss_Keeper_bar_hear_.1
theorem sc_Keeper_bar_hear_ : FnScope ["self", "house", "number", "sent"] ["self", "house", "number"] (defScope st_Keeper_bar_hear_) := ⟨rfl, rfl, rfl, by decide +kernel, rfl, by decide +kernel, by decide +kernel⟩
theorem ok_Keeper_bar_hear_ {f : Addr} {fd : FuncData} (F : Fun K "bar_hear" "Keeper.bar_hear" st_Keeper_bar_hear_ f fd) (hb : Binds K fd ["self", "house", "number"] []) (me : Meth K (AL.TT.cls "Keeper") "bar_hear" f) (oc : Cls K (AL.TT.cls "Keeper")) (d_Keeper_bar_number_ : MetX P w K mg base 3 "Keeper" "bar_number" ["self", "number"] Keeper_bar_number_) (x_NoEvent : KnX P w K mg base "NoEvent") (oc_Keeper : Cls K (AL.TT.cls "Keeper")) (na_Keeper_at_field : NoAttr K (AL.TT.cls "Keeper") "at_field") (na_Keeper_events : NoAttr K (AL.TT.cls "Keeper") "events") : MetX P w K mg base 4 "Keeper" "bar_hear" ["self", "house", "number"] Keeper_bar_hear_ :=
  ⟨f, fd, fn_aX F sc_Keeper_bar_hear_ (g := Keeper_bar_hear_B) fun cdv A outer s H Ek hg hr tk pw => (xsq (xw (xsx (aMeX d_Keeper_bar_number_ hg (hr.mono (by decide)) tk (av 0) (aac (av 2) aan))))
    (xsq (xl (ass (i := 3) sc_Keeper_bar_hear_.nd rfl (.inl rfl) (aixA (hu_of hr) (aixA (hu_of hr) (aFld oc_Keeper na_Keeper_events (av 0)) (av 2) (fun _ _ => rfl) (fun _ _ => rfl)) ai (fun _ _ => rfl) (fun _ _ => rfl))) nr_asg)
    (xsq (xsi (atc (op_neA hr.units) oNe (aixA (hu_of hr) (av 3) ai (fun _ _ => rfl) (fun _ _ => rfl)) astr (nomark _)) (xs1 (asraise tk x_NoEvent (hr.mono (by decide)) rfl (by rfl) (aac astr (aac (av 2) aan)))) xsn)
    (xs1 (xsi (atc (op_neA hr.units) oNe (aixA (hu_of hr) (aixA (hu_of hr) (aixA (hu_of hr) (aFld oc_Keeper na_Keeper_at_field (av 0)) ai (fun _ _ => rfl) (fun _ _ => rfl)) (aixA (hu_of hr) (av 3) ai (fun _ _ => rfl) (fun _ _ => rfl)) (fun _ _ => rfl) (fun _ _ => rfl)) ai (fun _ _ => rfl) (fun _ _ => rfl)) (av 1) (nomark _)) (xs1 (asraise tk x_NoEvent (hr.mono (by decide)) rfl (by rfl) (aac astr (aac (av 2) aan)))) xsn))))), hb, me, oc⟩
def ss_Keeper_bar_deed_ : {s : Stmt // (clsB (topS 35)).getD 7 (.Pass ⟨0, 0, 0, 0⟩) = s} := by
  refine ⟨?l, ?h⟩
  case h =>
    conv => lhs; whnf
abbrev st_Keeper_bar_deed_ : Stmt := ss_Keeper_bar_deed_.1
theorem sc_Keeper_bar_deed_ : FnScope ["self", "house", "deed"] ["self", "house", "deed"] (defScope st_Keeper_bar_deed_) := ⟨rfl, rfl, rfl, by decide +kernel, rfl, by decide +kernel, by decide +kernel⟩
theorem ok_Keeper_bar_deed_ {f : Addr} {fd : FuncData} (F : Fun K "bar_deed" "Keeper.bar_deed" st_Keeper_bar_deed_ f fd) (hb : Binds K fd ["self", "house", "deed"] []) (me : Meth K (AL.TT.cls "Keeper") "bar_deed" f) (oc : Cls K (AL.TT.cls "Keeper")) (d_Keeper_bar_hear_ : MetX P w K mg base 4 "Keeper" "bar_hear" ["self", "house", "number"] Keeper_bar_hear_) (d_Keeper_bar_send_ : MetX P w K mg base 3 "Keeper" "bar_send" ["self", "house", "link"] Keeper_bar_send_) : MetX P w K mg base 5 "Keeper" "bar_deed" ["self", "house", "deed"] Keeper_bar_deed_ :=
  ⟨f, fd, fn_aX F sc_Keeper_bar_deed_ (g := Keeper_bar_deed_B) fun cdv A outer s H Ek hg hr tk pw => (xsq (xsi (atc (op_eqA hr.units) oEq (aixA (hu_of hr) (av 2) ai (fun _ _ => rfl) (fun _ _ => rfl)) astr (nomark _)) (xs1 (xw (xsx (aMeX d_Keeper_bar_send_ hg (hr.mono (by decide)) tk (av 0) (aac (av 1) (aac (aixA (hu_of hr) (av 2) ai (fun _ _ => rfl) (fun _ _ => rfl)) aan)))))) xsn)
    (xs1 (xsi (atc (op_eqA hr.units) oEq (aixA (hu_of hr) (av 2) ai (fun _ _ => rfl) (fun _ _ => rfl)) astr (nomark _)) (xs1 (xw (xsx (aMeX d_Keeper_bar_hear_ hg (hr.mono (by decide)) tk (av 0) (aac (av 1) (aac (aixA (hu_of hr) (av 2) ai (fun _ _ => rfl) (fun _ _ => rfl)) aan)))))) xsn))), hb, me, oc⟩
def ss_Keeper_pair_next_ : {s : Stmt // (clsB (topS 35)).getD 5 (.Pass ⟨0, 0, 0, 0⟩) = s} := by
  refine ⟨?l, ?h⟩
  case h =>
    conv => lhs; whnf
abbrev st_Keeper_pair_next_ : Stmt := ss_Keeper_pair_next_.1
theorem sc_Keeper_pair_next_ : FnScope ["self", "event", "moves"] ["self", "event"] (defScope st_Keeper_pair_next_) := ⟨rfl, rfl, rfl, by decide +kernel, rfl, by decide +kernel, by decide +kernel⟩
theorem ok_Keeper_pair_next_ {f : Addr} {fd : FuncData} (F : Fun K "pair_next" "Keeper.pair_next" st_Keeper_pair_next_ f fd) (hb : Binds K fd ["self", "event"] []) (me : Meth K (AL.TT.cls "Keeper") "pair_next" f) (oc : Cls K (AL.TT.cls "Keeper")) (d_moves_into_ : Def P w K mg base 4 "moves_into" ["field", "events", "last", "event"] moves_into_) (d_kept_pair_ : Def P w K mg base 7 "kept_pair" ["field", "event", "moves", "pairs"] kept_pair_) (oc_Keeper : Cls K (AL.TT.cls "Keeper")) (na_Keeper_pairs : NoAttr K (AL.TT.cls "Keeper") "pairs") (na_Keeper_at_field : NoAttr K (AL.TT.cls "Keeper") "at_field") (na_Keeper_last_at : NoAttr K (AL.TT.cls "Keeper") "last_at") (na_Keeper_events : NoAttr K (AL.TT.cls "Keeper") "events") : Met P w K mg base 8 "Keeper" "pair_next" ["self", "event"] Keeper_pair_next_ :=
  ⟨f, fd, fn_aG F sc_Keeper_pair_next_ (g := Keeper_pair_next_B) fun cdv A outer s H E hg hr => (asq (ass (i := 2) sc_Keeper_pair_next_.nd rfl (.inl rfl) (acd d_moves_into_ hg (hr.mono (by decide)) (by rfl) (aac (aFld oc_Keeper na_Keeper_at_field (av 0)) (aac (aFld oc_Keeper na_Keeper_events (av 0)) (aac (aget1 (hu_of hr) (aFld oc_Keeper na_Keeper_last_at (av 0)) (aixA (hu_of hr) (av 1) ai (fun _ _ => rfl) (fun _ _ => rfl)) ⟨rfl, rfl, rfl, rfl⟩) (aac (av 1) aan))))))
    (as1 (asr (acd d_kept_pair_ hg (hr.mono (by decide)) (by rfl) (aac (aFld oc_Keeper na_Keeper_at_field (av 0)) (aac (av 1) (aac (av 2) (aac (aFld oc_Keeper na_Keeper_pairs (av 0)) aan)))))))), hb, me, oc⟩
def ss_Keeper_note_ : {s : Stmt // (clsB (topS 35)).getD 1 (.Pass ⟨0, 0, 0, 0⟩) = s} := by
  refine ⟨?l, ?h⟩
  case h =>
    conv => lhs; whnf
abbrev st_Keeper_note_ : Stmt := ss_Keeper_note_.1
theorem sc_Keeper_note_ : FnScope ["self", "house", "stamp", "deed", "event", "number"] ["self", "house", "stamp", "deed"] (defScope st_Keeper_note_) := ⟨rfl, rfl, rfl, by decide +kernel, rfl, by decide +kernel, by decide +kernel⟩
theorem ok_Keeper_note_ {f : Addr} {fd : FuncData} (F : Fun K "note" "Keeper.note" st_Keeper_note_ f fd) (hb : Binds K fd ["self", "house", "stamp", "deed"] []) (me : Meth K (AL.TT.cls "Keeper") "note" f) (oc : Cls K (AL.TT.cls "Keeper")) (d_Keeper_pair_next_ : Met P w K mg base 8 "Keeper" "pair_next" ["self", "event"] Keeper_pair_next_) (d_Keeper_bar_deed_ : MetX P w K mg base 5 "Keeper" "bar_deed" ["self", "house", "deed"] Keeper_bar_deed_) (d_Keeper_bar_place_ : MetX P w K mg base 3 "Keeper" "bar_place" ["self", "house", "stamp"] Keeper_bar_place_) (oc_Keeper : Cls K (AL.TT.cls "Keeper")) (na_Keeper_last_at : NoAttr K (AL.TT.cls "Keeper") "last_at") (na_Keeper_events : NoAttr K (AL.TT.cls "Keeper") "events") (na_Keeper_pairs : NoAttr K (AL.TT.cls "Keeper") "pairs") (m_len : mg "len" = none) : MetX P w K mg base 9 "Keeper" "note" ["self", "house", "stamp", "deed"] Keeper_note_ :=
  ⟨f, fd, fn_aX F sc_Keeper_note_ (g := Keeper_note_B) fun cdv A outer s H Ek hg hr tk pw => (xsq (xw (xsx (aMeX d_Keeper_bar_place_ hg (hr.mono (by decide)) tk (av 0) (aac (av 1) (aac (av 2) aan)))))
    (xsq (xw (xsx (aMeX d_Keeper_bar_deed_ hg (hr.mono (by decide)) tk (av 0) (aac (av 1) (aac (av 3) aan)))))
    (xsq (xl (ass (i := 4) sc_Keeper_note_.nd rfl (.inl rfl) (atup (aac (av 1) (aac (av 2) (aac (av 3) aan))))) nr_asg)
    (xsq (xl (ass (i := 5) sc_Keeper_note_.nd rfl (.inl rfl) (acb call_lenA cLen (by rfl) m_len PySem.boot_len (aac (aFld oc_Keeper na_Keeper_events (av 0)) aan))) nr_asg)
    (xsq (xl (asx (am PySem.F.plainAttrs_list PySem.F.slot_list_append PySem.F.type_list_append mt_append mApp tyL (aFld oc_Keeper na_Keeper_pairs (av 0)) (aac (aMe d_Keeper_pair_next_ hg (hr.mono (by decide)) (av 0) (aac (av 4) aan)) aan))) nr_expr)
    (xsq (xl (asx (am PySem.F.plainAttrs_list PySem.F.slot_list_append PySem.F.type_list_append mt_append mApp tyL (aFld oc_Keeper na_Keeper_events (av 0)) (aac (av 4) aan))) nr_expr)
    (xsq (xl (asuA (hu_of hr) (av 5) (aFld oc_Keeper na_Keeper_last_at (av 0)) (av 1)) nr_sub)
    (xs1 (xsr (av 5)))))))))), hb, me, oc⟩
def ss_Court_note_ : {s : Stmt // (clsB (topS 74)).getD 1 (.Pass ⟨0, 0, 0, 0⟩) = s} := by
  refine ⟨?l, ?h⟩
  case h =>
    conv => lhs; whnf
abbrev st_Court_note_ : Stmt := ss_Court_note_.1
theorem sc_Court_note_ : FnScope ["self", "house", "stamp", "deed", "number"] ["self", "house", "stamp", "deed"] (defScope st_Court_note_) := ⟨rfl, rfl, rfl, by decide +kernel, rfl, by decide +kernel, by decide +kernel⟩
theorem ok_Court_note_ {f : Addr} {fd : FuncData} (F : Fun K "note" "Court.note" st_Court_note_ f fd) (hb : Binds K fd ["self", "house", "stamp", "deed"] []) (me : Meth K (AL.TT.cls "Court") "note" f) (oc : Cls K (AL.TT.cls "Court")) (d_Keeper_note_ : MetX P w K mg base 9 "Keeper" "note" ["self", "house", "stamp", "deed"] Keeper_note_) (oc_Court : Cls K (AL.TT.cls "Court")) (na_Court_rows : NoAttr K (AL.TT.cls "Court") "rows") (na_Court_keeper : NoAttr K (AL.TT.cls "Court") "keeper") : MetX P w K mg base 10 "Court" "note" ["self", "house", "stamp", "deed"] Court_note_ :=
  ⟨f, fd, fn_aX F sc_Court_note_ (g := Court_note_B) fun cdv A outer s H Ek hg hr tk pw => (xsq (xw (xss (i := 4) sc_Court_note_.nd rfl (.inl rfl) (aMeX d_Keeper_note_ hg (hr.mono (by decide)) tk (aFld oc_Court na_Court_keeper (av 0)) (aac (av 1) (aac (av 2) (aac (av 3) aan))))))
    (xsq (xl (asx (am PySem.F.plainAttrs_list PySem.F.slot_list_append PySem.F.type_list_append mt_append mApp tyL (aFld oc_Court na_Court_rows (av 0)) (aac (atup (aac astr (aac (av 1) (aac (av 2) (aac (av 3) aan))))) aan))) nr_expr)
    (xs1 (xsr (av 4))))), hb, me, oc⟩
def ss_Keeper_history_ : {s : Stmt // (clsB (topS 35)).getD 2 (.Pass ⟨0, 0, 0, 0⟩) = s} := by
  refine ⟨?l, ?h⟩
  case h =>
    conv => lhs; whnf
abbrev st_Keeper_history_ : Stmt := ss_Keeper_history_.1
theorem sc_Keeper_history_ : FnScope ["self"] ["self"] (defScope st_Keeper_history_) := ⟨rfl, rfl, rfl, by decide +kernel, rfl, by decide +kernel, by decide +kernel⟩
theorem ok_Keeper_history_ {f : Addr} {fd : FuncData} (F : Fun K "history" "Keeper.history" st_Keeper_history_ f fd) (hb : Binds K fd ["self"] []) (me : Meth K (AL.TT.cls "Keeper") "history" f) (oc : Cls K (AL.TT.cls "Keeper")) (oc_Keeper : Cls K (AL.TT.cls "Keeper")) (na_Keeper_events : NoAttr K (AL.TT.cls "Keeper") "events") (na_Keeper_at_field : NoAttr K (AL.TT.cls "Keeper") "at_field") (m_tuple : mg "tuple" = none) : Met P w K mg base 1 "Keeper" "history" ["self"] Keeper_history_ :=
  ⟨f, fd, fn_aG F sc_Keeper_history_ (g := Keeper_history_B) fun cdv A outer s H E hg hr => (as1 (asr (atup (aac (aFld oc_Keeper na_Keeper_at_field (av 0)) (aac (act call_tuple_of cTuple (by rfl) m_tuple (by decide +kernel) (aac (aFld oc_Keeper na_Keeper_events (av 0)) aan)) aan))))), hb, me, oc⟩
def ss_Court_history_ : {s : Stmt // (clsB (topS 74)).getD 6 (.Pass ⟨0, 0, 0, 0⟩) = s} := by
  refine ⟨?l, ?h⟩
  case h =>
    conv => lhs; whnf
abbrev st_Court_history_ : Stmt := ss_Court_history_.1
theorem sc_Court_history_ : FnScope ["self"] ["self"] (defScope st_Court_history_) := ⟨rfl, rfl, rfl, by decide +kernel, rfl, by decide +kernel, by decide +kernel⟩
theorem ok_Court_history_ {f : Addr} {fd : FuncData} (F : Fun K "history" "Court.history" st_Court_history_ f fd) (hb : Binds K fd ["self"] []) (me : Meth K (AL.TT.cls "Court") "history" f) (oc : Cls K (AL.TT.cls "Court")) (d_Keeper_history_ : Met P w K mg base 1 "Keeper" "history" ["self"] Keeper_history_) (oc_Court : Cls K (AL.TT.cls "Court")) (na_Court_keeper : NoAttr K (AL.TT.cls "Court") "keeper") : Met P w K mg base 2 "Court" "history" ["self"] Court_history_ :=
  ⟨f, fd, fn_aG F sc_Court_history_ (g := Court_history_B) fun cdv A outer s H E hg hr => (as1 (asr (aMe0 d_Keeper_history_ hg (hr.mono (by decide)) (aFld oc_Court na_Court_keeper (av 0))))), hb, me, oc⟩
def ss_Keeper_now_ : {s : Stmt // (clsB (topS 35)).getD 4 (.Pass ⟨0, 0, 0, 0⟩) = s} := by
  refine ⟨?l, ?h⟩
  case h =>
    conv => lhs; whnf
abbrev st_Keeper_now_ : Stmt := ss_Keeper_now_.1
theorem sc_Keeper_now_ : FnScope ["self", "house", "stamp"] ["self", "house", "stamp"] (defScope st_Keeper_now_) := ⟨rfl, rfl, rfl, by decide +kernel, rfl, by decide +kernel, by decide +kernel⟩
theorem ok_Keeper_now_ {f : Addr} {fd : FuncData} (F : Fun K "now" "Keeper.now" st_Keeper_now_ f fd) (hb : Binds K fd ["self", "house", "stamp"] []) (me : Meth K (AL.TT.cls "Keeper") "now" f) (oc : Cls K (AL.TT.cls "Keeper")) (d_Keeper_pair_next_ : Met P w K mg base 8 "Keeper" "pair_next" ["self", "event"] Keeper_pair_next_) (d_Keeper_bar_place_ : MetX P w K mg base 3 "Keeper" "bar_place" ["self", "house", "stamp"] Keeper_bar_place_) : MetX P w K mg base 9 "Keeper" "now" ["self", "house", "stamp"] Keeper_now_ :=
  ⟨f, fd, fn_aX F sc_Keeper_now_ (g := Keeper_now_B) fun cdv A outer s H Ek hg hr tk pw => (xsq (xw (xsx (aMeX d_Keeper_bar_place_ hg (hr.mono (by decide)) tk (av 0) (aac (av 1) (aac (av 2) aan)))))
    (xs1 (xsr (aMe d_Keeper_pair_next_ hg (hr.mono (by decide)) (av 0) (aac (atup (aac (av 1) (aac (av 2) (aac (atup (aac astr aan)) aan)))) aan))))), hb, me, oc⟩
def ss_Court_now_ : {s : Stmt // (clsB (topS 74)).getD 9 (.Pass ⟨0, 0, 0, 0⟩) = s} := by
  refine ⟨?l, ?h⟩
  case h =>
    conv => lhs; whnf
abbrev st_Court_now_ : Stmt := ss_Court_now_.1
theorem sc_Court_now_ : FnScope ["self", "house", "stamp"] ["self", "house", "stamp"] (defScope st_Court_now_) := ⟨rfl, rfl, rfl, by decide +kernel, rfl, by decide +kernel, by decide +kernel⟩
theorem ok_Court_now_ {f : Addr} {fd : FuncData} (F : Fun K "now" "Court.now" st_Court_now_ f fd) (hb : Binds K fd ["self", "house", "stamp"] []) (me : Meth K (AL.TT.cls "Court") "now" f) (oc : Cls K (AL.TT.cls "Court")) (d_Keeper_now_ : MetX P w K mg base 9 "Keeper" "now" ["self", "house", "stamp"] Keeper_now_) (oc_Court : Cls K (AL.TT.cls "Court")) (na_Court_keeper : NoAttr K (AL.TT.cls "Court") "keeper") : MetX P w K mg base 10 "Court" "now" ["self", "house", "stamp"] Court_now_ :=
  ⟨f, fd, fn_aX F sc_Court_now_ (g := Court_now_B) fun cdv A outer s H Ek hg hr tk pw => (xs1 (xw (xsrX (aMeX d_Keeper_now_ hg (hr.mono (by decide)) tk (aFld oc_Court na_Court_keeper (av 0)) (aac (av 1) (aac (av 2) aan)))))), hb, me, oc⟩
def ss_Keeper_pair_ : {s : Stmt // (clsB (topS 35)).getD 3 (.Pass ⟨0, 0, 0, 0⟩) = s} := by
  refine ⟨?l, ?h⟩
  case h =>
    conv => lhs; whnf
abbrev st_Keeper_pair_ : Stmt := ss_Keeper_pair_.1
theorem sc_Keeper_pair_ : FnScope ["self", "number"] ["self", "number"] (defScope st_Keeper_pair_) := ⟨rfl, rfl, rfl, by decide +kernel, rfl, by decide +kernel, by decide +kernel⟩
theorem ok_Keeper_pair_ {f : Addr} {fd : FuncData} (F : Fun K "pair" "Keeper.pair" st_Keeper_pair_ f fd) (hb : Binds K fd ["self", "number"] []) (me : Meth K (AL.TT.cls "Keeper") "pair" f) (oc : Cls K (AL.TT.cls "Keeper")) (d_Keeper_bar_number_ : MetX P w K mg base 3 "Keeper" "bar_number" ["self", "number"] Keeper_bar_number_) (oc_Keeper : Cls K (AL.TT.cls "Keeper")) (na_Keeper_pairs : NoAttr K (AL.TT.cls "Keeper") "pairs") : MetX P w K mg base 4 "Keeper" "pair" ["self", "number"] Keeper_pair_ :=
  ⟨f, fd, fn_aX F sc_Keeper_pair_ (g := Keeper_pair_B) fun cdv A outer s H Ek hg hr tk pw => (xsq (xw (xsx (aMeX d_Keeper_bar_number_ hg (hr.mono (by decide)) tk (av 0) (aac (av 1) aan))))
    (xs1 (xsr (aixA (hu_of hr) (aFld oc_Keeper na_Keeper_pairs (av 0)) (av 1) (fun _ _ => rfl) (fun _ _ => rfl))))), hb, me, oc⟩
def ss_Court_kept_ : {s : Stmt // (clsB (topS 74)).getD 7 (.Pass ⟨0, 0, 0, 0⟩) = s} := by
  refine ⟨?l, ?h⟩
  case h =>
    conv => lhs; whnf
abbrev st_Court_kept_ : Stmt := ss_Court_kept_.1
theorem sc_Court_kept_ : FnScope ["self", "number"] ["self", "number"] (defScope st_Court_kept_) := ⟨rfl, rfl, rfl, by decide +kernel, rfl, by decide +kernel, by decide +kernel⟩
theorem ok_Court_kept_ {f : Addr} {fd : FuncData} (F : Fun K "kept" "Court.kept" st_Court_kept_ f fd) (hb : Binds K fd ["self", "number"] []) (me : Meth K (AL.TT.cls "Court") "kept" f) (oc : Cls K (AL.TT.cls "Court")) (d_Keeper_pair_ : MetX P w K mg base 4 "Keeper" "pair" ["self", "number"] Keeper_pair_) (oc_Court : Cls K (AL.TT.cls "Court")) (na_Court_keeper : NoAttr K (AL.TT.cls "Court") "keeper") : MetX P w K mg base 5 "Court" "kept" ["self", "number"] Court_kept_ :=
  ⟨f, fd, fn_aX F sc_Court_kept_ (g := Court_kept_B) fun cdv A outer s H Ek hg hr tk pw => (xs1 (xw (xsrX (aMeX d_Keeper_pair_ hg (hr.mono (by decide)) tk (aFld oc_Court na_Court_keeper (av 0)) (aac (av 1) aan))))), hb, me, oc⟩
def ss_law_ : {s : Stmt // topS 94 = s} := by
  refine ⟨?l, ?h⟩
  case h =>
    conv => lhs; whnf
abbrev st_law_ : Stmt := ss_law_.1
abbrev sc_law_N : List Str := ["_law_script", "_law_feed_here", "_law_due", "_law_field_here", "_law_net_here", "_law_notes", "_law_moments", "_law_clocks_here", "_law_hall", "_law_first", "_law_k", "_law_home", "_law_later", "_law_mark", "_law_name", "_law_stamp_here", "_law_deed", "_law_one", "_law_j"]
abbrev sc_law_S : Scope := defScope st_law_
theorem sc_law_ : FnScope ["_law_script", "_law_feed_here", "_law_due", "_law_field_here", "_law_net_here", "_law_notes", "_law_moments", "_law_clocks_here", "_law_hall", "_law_first", "_law_k", "_law_home", "_law_later", "_law_mark", "_law_name", "_law_stamp_here", "_law_deed", "_law_one", "_law_j"] ["_law_script"] (defScope st_law_) := ⟨rfl, rfl, rfl, by decide +kernel, rfl, by decide +kernel, by decide +kernel⟩
theorem ok_law_ {f : Addr} {fd : FuncData} (F : Fun K "law" "law" st_law_ f fd) (d_feedL_ : Def P w K mg base 1 "_law_feed" ["_law_script"] feedL_) (d_storyL_ : Def P w K mg base 4 "_law_story" ["_law_feed_here", "_law_field_here", "_law_bound"] storyL_) (d_openedL_ : Def P w K mg base 7 "_law_opened" ["_law_feed_here", "_law_field_here", "_law_net_here"] openedL_) (d_keptL_ : Def P w K mg base 4 "_law_kept" ["_law_field_here", "_law_notes"] keptL_) (d_fieldL_ : Def P w K mg base 3 "_law_field" ["_law_feed_here"] fieldL_) (d_netL_ : Def P w K mg base 2 "_law_net" ["_law_feed_here"] netL_) (d_addL_ : Def P w K mg base 2 "_law_add" ["_law_one", "_law_other"] addL_) (d_fracL_ : Def P w K mg base 1 "_law_frac" ["_law_a", "_law_b"] fracL_) (d_Court_history_ : Met P w K mg base 2 "Court" "history" ["self"] Court_history_) (d_drawL_ : Def P w K mg base 1 "_law_draw" ["_law_feed_here", "_law_bound"] drawL_) (n_Court_now_ : Met P w K mg base 10 "Court" "now" ["self", "house", "stamp"] (noX Court_now_)) (n_Court_kept_ : Met P w K mg base 5 "Court" "kept" ["self", "number"] (noX Court_kept_)) (n_Court_note_ : Met P w K mg base 10 "Court" "note" ["self", "house", "stamp", "deed"] (noX Court_note_)) (m_enumerate : mg "enumerate" = none) (m_repr : mg "repr" = none) (m_tuple : mg "tuple" = none) (m_len : mg "len" = none) (m_range : mg "range" = none) : FnG P w K mg base 11 f fd ["_law_script"] (spA K 1 law_) :=
  fn_aG F sc_law_ (g := law_B) fun cdv A outer s H E hg hr => (asq (ass (i := 1) sc_law_.nd rfl (.inl rfl) (acd d_feedL_ hg (hr.mono (by decide)) (by rfl) (aac (av 0) aan)))
    (asq (asp2' (ps_par (i := 3) (j := 4) (by rfl) sc_law_.nd rfl rfl (by decide) rfl rfl (aac (acd d_fieldL_ hg (hr.mono (by decide)) (by rfl) (aac (av 1) aan)) (aac (acd d_netL_ hg (hr.mono (by decide)) (by rfl) (aac (av 1) aan)) aan)) (by rfl)))
    (asq (asa (acd d_storyL_ hg (hr.mono (by decide)) (by rfl) (aac (av 1) (aac (av 3) (aac ai aan)))) (agt rfl (agl (agn (i := 5) sc_law_.nd rfl (.inl rfl)) (agl (agn (i := 6) sc_law_.nd rfl (.inl rfl)) (agl (agn (i := 7) sc_law_.nd rfl (.inl rfl)) agl0)))))
    (asq (asa (acd d_openedL_ hg (hr.mono (by decide)) (by rfl) (aac (av 1) (aac (av 3) (aac (av 4) aan)))) (agt rfl (agl (agn (i := 8) sc_law_.nd rfl (.inr rfl)) (agl (agn (i := 9) sc_law_.nd rfl (.inl rfl)) agl0))))
    (asq (ass (i := 2) sc_law_.nd rfl (.inl rfl) (acd d_keptL_ hg (hr.mono (by decide)) (by rfl) (aac (av 3) (aac (av 5) aan))))
    (asq (asf PassesOwn.never rfl (aie (by rfl) m_enumerate (aac (av 5) aan)) (agt rfl (agl (agn (i := 10) sc_law_.nd rfl (.inl rfl)) (agl (agt rfl (agl (agn (i := 14) sc_law_.nd rfl (.inl rfl)) (agl (agn (i := 15) sc_law_.nd rfl (.inl rfl)) (agl (agn (i := 16) sc_law_.nd rfl (.inl rfl)) agl0)))) agl0))) (asq (asi (atc (op_neA hr.units) oNe (aMe n_Court_note_ hg (hr.mono (by decide)) (av 8) (aac (av 14) (aac (av 15) (aac (av 16) aan)))) (av 10) (nomark _)) (as1 (asr abl)) asn)
    (asq (asi (atc (op_neA hr.units) oNe (acb (call_reprA hg hr.units) cRepr (by rfl) m_repr boot_repr (aac (alc (own := [("_law_j", 18)]) rfl sc_law_.nd (air1 (by rfl) m_range (aac (aop op_addA oAdd (av 10) ai) aan)) (blkOk_by (own := [("_law_j", 18)]) (N := sc_law_N) (sc := sc_law_S) (by decide +kernel)) (by simp [Pat.slots, Pat.slotss]) (fun _ _ _ _ _ => (agn (i := 18) sc_law_.nd rfl (.inl rfl))) (fun _ _ _ _ _ => ats0) (fun _ _ _ _ _ => (aMe n_Court_kept_ hg (hr.mono (by decide)) (av 8) (aac (av 18) aan)))) aan)) (acb (call_reprA hg hr.units) cRepr (by rfl) m_repr boot_repr (aac (asl sl_B oSlA (av 2) aon (aos (aop op_addA oAdd (av 10) ai))) aan)) (nomark _)) (as1 (asr abl)) asn)
    (asq (ass (i := 11) sc_law_.nd rfl (.inr rfl) (aixA (hu_of hr) (aixA (hu_of hr) (aixA (hu_of hr) (av 3) ai (fun _ _ => rfl) (fun _ _ => rfl)) (acd d_drawL_ hg (hr.mono (by decide)) (by rfl) (aac (av 1) (aac (acb call_lenA cLen (by rfl) m_len PySem.boot_len (aac (aixA (hu_of hr) (av 3) ai (fun _ _ => rfl) (fun _ _ => rfl)) aan)) aan))) (fun _ _ => rfl) (fun _ _ => rfl)) ai (fun _ _ => rfl) (fun _ _ => rfl)))
    (asq (aslc (own := [("_law_one", 17)]) (i := 12) rfl sc_law_.nd rfl rfl (sw_true rfl rfl rfl (by decide +kernel)) (ais (asl sl_B oSlA (av 5) aon (aos (aop op_addA oAdd (av 10) ai)))) (blkOk_by (own := [("_law_one", 17)]) (N := sc_law_N) (sc := sc_law_S) (by decide +kernel)) (by simp [Pat.slots, Pat.slotss]) (fun _ _ _ _ _ => (agn (i := 17) sc_law_.nd rfl (.inl rfl))) (fun _ _ _ _ _ => (pts_one (atc (op_eqA hr.units) oEq (aixA (hu_of hr) (av 17) ai (fun _ _ => rfl) (fun _ _ => rfl)) (av 11) (nomark _)))) (fun _ _ _ _ _ => (aixA (hu_of hr) (av 17) ai (fun _ _ => rfl) (fun _ _ => rfl))))
    (asq (ass (i := 13) sc_law_.nd rfl (.inl rfl) (acd d_addL_ hg (hr.mono (by decide)) (by rfl) (aac (aif (atc (op_neA hr.units) oNe (av 12) (alst aan) (nomark _)) (aixA (hu_of hr) (av 12) (aun un_neg oNeg ai) (fun _ _ => rfl) (fun _ _ => rfl)) (atup (aac ai (aac ai aan)))) (aac (atup (aac (acd d_drawL_ hg (hr.mono (by decide)) (by rfl) (aac (av 1) (aac ai aan))) (aac ai aan))) aan))))
    (asq (ass (i := 13) sc_law_.nd rfl (.inl rfl) (acd d_fracL_ hg (hr.mono (by decide)) (by rfl) (aac (aixA (hu_of hr) (av 13) ai (fun _ _ => rfl) (fun _ _ => rfl)) (aac (aixA (hu_of hr) (av 13) ai (fun _ _ => rfl) (fun _ _ => rfl)) aan))))
    (as1 (asi (atc (op_neA hr.units) oNe (acb (call_reprA hg hr.units) cRepr (by rfl) m_repr boot_repr (aac (aMe n_Court_now_ hg (hr.mono (by decide)) (av 8) (aac (av 11) (aac (av 13) aan))) aan)) (acb (call_reprA hg hr.units) cRepr (by rfl) m_repr boot_repr (aac (aixA (hu_of hr) (acd d_keptL_ hg (hr.mono (by decide)) (by rfl) (aac (av 3) (aac (aop op_addA oAdd (asl sl_B oSlA (av 5) aon (aos (aop op_addA oAdd (av 10) ai))) (alst (aac (atup (aac (av 11) (aac (av 13) (aac (atup (aac astr aan)) aan)))) aan))) aan))) (aun un_neg oNeg ai) (fun _ _ => rfl) (fun _ _ => rfl)) aan)) (nomark _)) (as1 (asr abl)) asn)))))))))
    (as1 (asr (acm (op_eqA hr.units) oEq (acb (call_reprA hg hr.units) cRepr (by rfl) m_repr boot_repr (aac (aMe0 d_Court_history_ hg (hr.mono (by decide)) (av 8)) aan)) (acb (call_reprA hg hr.units) cRepr (by rfl) m_repr boot_repr (aac (atup (aac (av 3) (aac (act call_tuple_of cTuple (by rfl) m_tuple (by decide +kernel) (aac (av 5) aan)) aan))) aan)) (nomark _))))))))))
end
end K76
namespace Fr

def mk (a b : Int) : Int × Int :=
  if b < 0 then ((-a) / ((Int.gcd a b : Nat) : Int), (-b) / ((Int.gcd a b : Nat) : Int)) else (a / ((Int.gcd a b : Nat) : Int), b / ((Int.gcd a b : Nat) : Int))
theorem gcd_pos {a b : Int} (h : b ≠ 0) : 0 < Int.gcd a b := Int.gcd_pos_of_ne_zero_right a h
theorem core {a b : Int} (h : 0 < b) : ∃ x y : Int, a / ((Int.gcd a b : Nat) : Int) = x ∧ b / ((Int.gcd a b : Nat) : Int) = y ∧ a = x * ((Int.gcd a b : Nat) : Int) ∧ b = y * ((Int.gcd a b : Nat) : Int) ∧ 0 < y ∧ Int.gcd x y = 1 := by
  have g0 : 0 < Int.gcd a b := gcd_pos (by omega)
  have gi : (0 : Int) < ((Int.gcd a b : Nat) : Int) := by omega
  have ea : a / ((Int.gcd a b : Nat) : Int) * ((Int.gcd a b : Nat) : Int) = a := Int.ediv_mul_cancel (Int.gcd_dvd_left ..)
  have eb : b / ((Int.gcd a b : Nat) : Int) * ((Int.gcd a b : Nat) : Int) = b := Int.ediv_mul_cancel (Int.gcd_dvd_right ..)
  refine ⟨_, _, rfl, rfl, ea.symm, eb.symm, ?_, ?_⟩
  · have : 0 < b / ((Int.gcd a b : Nat) : Int) * ((Int.gcd a b : Nat) : Int) := by rw [eb]; exact h
    exact Int.pos_of_mul_pos_left this gi
  · rw [Int.gcd_ediv_gcd_ediv_gcd g0]
theorem mk_all {a b : Int} (h : b ≠ 0) : ∃ x y : Int, mk a b = (x, y) ∧ 0 < y ∧ Int.gcd x y = 1 ∧ x * b = a * y ∧ x.natAbs ≤ a.natAbs ∧ y.natAbs ≤ b.natAbs := by
  have key : ∀ {a b : Int}, 0 < b → ∃ x y : Int, (a / ((Int.gcd a b : Nat) : Int), b / ((Int.gcd a b : Nat) : Int)) = (x, y) ∧ 0 < y ∧ Int.gcd x y = 1 ∧ x * b = a * y ∧ x.natAbs ≤ a.natAbs ∧ y.natAbs ≤ b.natAbs := by
    intro a b h
    obtain ⟨x, y, ex, ey, ea, eb, hy, hg⟩ := core (a := a) h
    have g0 : 0 < Int.gcd a b := gcd_pos (by omega)
    refine ⟨x, y, by rw [ex, ey], hy, hg, ?_, ?_, ?_⟩
    · generalize ((Int.gcd a b : Nat) : Int) = g at *
      subst ea eb
      rw [Int.mul_comm y g, ← Int.mul_assoc]
    · have := congrArg Int.natAbs ea
      rw [Int.natAbs_mul, Int.natAbs_natCast] at this
      rw [this]
      exact Nat.le_mul_of_pos_right _ g0
    · have := congrArg Int.natAbs eb
      rw [Int.natAbs_mul, Int.natAbs_natCast] at this
      rw [this]
      exact Nat.le_mul_of_pos_right _ g0
  unfold mk
  by_cases hb : b < 0
  · rw [if_pos hb]
    obtain ⟨x, y, e, hy, hg, hc, h1, h2⟩ := key (a := -a) (b := -b) (by omega)
    rw [Int.neg_gcd, Int.gcd_neg] at e
    refine ⟨x, y, e, hy, hg, ?_, by simpa using h1, by simpa using h2⟩
    rw [Int.mul_neg, Int.neg_mul] at hc
    exact Int.neg_inj.mp hc
  · rw [if_neg hb]
    exact key (by omega)
theorem uniq {x y u v : Int} (hy : 0 < y) (hv : 0 < v) (g : Int.gcd x y = 1) (g' : Int.gcd u v = 1) (e : x * v = u * y) : (x, y) = (u, v) := by
  have en : x.natAbs * v.natAbs = u.natAbs * y.natAbs := by
    have := congrArg Int.natAbs e
    rwa [Int.natAbs_mul, Int.natAbs_mul] at this
  have c1 : Nat.Coprime y.natAbs x.natAbs := by
    have : Nat.gcd x.natAbs y.natAbs = 1 := g
    exact Nat.Coprime.symm this
  have c2 : Nat.Coprime v.natAbs u.natAbs := by
    have : Nat.gcd u.natAbs v.natAbs = 1 := g'
    exact Nat.Coprime.symm this
  have d1 : y.natAbs ∣ v.natAbs := c1.dvd_of_dvd_mul_left (by rw [en]; exact Nat.dvd_mul_left _ _)
  have d2 : v.natAbs ∣ y.natAbs := c2.dvd_of_dvd_mul_left (by rw [← en]; exact Nat.dvd_mul_left _ _)
  have eyv : y.natAbs = v.natAbs := Nat.dvd_antisymm d1 d2
  have eq : y = v := by omega
  subst eq
  have ex : x = u := Int.eq_of_mul_eq_mul_right (by omega) e
  rw [ex]
theorem mk_eq {a b c d : Int} (hb : b ≠ 0) (hd : d ≠ 0) (e : a * d = c * b) : mk a b = mk c d := by
  obtain ⟨x, y, e1, hy, hg, hc, _, _⟩ := mk_all (a := a) hb
  obtain ⟨u, v, e2, hv, hg', hc', _, _⟩ := mk_all (a := c) hd
  rw [e1, e2]
  refine uniq hy hv hg hg' ?_
  have h1 : (x * v) * (b * d) = (u * y) * (b * d) := by
    calc (x * v) * (b * d) = (x * b) * (v * d) := by ac_rfl
      _ = (a * y) * (v * d) := by rw [hc]
      _ = (a * d) * (y * v) := by ac_rfl
      _ = (c * b) * (y * v) := by rw [e]
      _ = (c * v) * (y * b) := by ac_rfl
      _ = (u * d) * (y * b) := by rw [hc']
      _ = (u * y) * (b * d) := by ac_rfl
  exact Int.eq_of_mul_eq_mul_right (Int.mul_ne_zero hb hd) h1
theorem mk_self {a b : Int} (hb : 0 < b) (g : Int.gcd a b = 1) : mk a b = (a, b) := by
  unfold mk
  rw [if_neg (by omega), g]
  simp

structure Ok (n : Nat) (p : Int × Int) : Prop where
  pos : 0 < p.2
  cop : Int.gcd p.1 p.2 = 1
  b1 : p.1.natAbs < 2 ^ n
  b2 : p.2.natAbs < 2 ^ n
theorem mk_ok {n : Nat} {a b : Int} (h : b ≠ 0) (ha : a.natAbs < 2 ^ n) (hb : b.natAbs < 2 ^ n) : Ok n (mk a b) := by
  obtain ⟨x, y, e, hy, hg, _, h1, h2⟩ := mk_all (a := a) h
  rw [e]
  exact ⟨hy, hg, by show x.natAbs < _; omega, by show y.natAbs < _; omega⟩
theorem mk_cross {a b : Int} (h : b ≠ 0) : (mk a b).1 * b = a * (mk a b).2 := by
  obtain ⟨x, y, e, hy, hg, hc, _, _⟩ := mk_all (a := a) h
  rw [e]
  exact hc
theorem mk_pos {a b : Int} (h : b ≠ 0) : 0 < (mk a b).2 := by
  obtain ⟨x, y, e, hy, _⟩ := mk_all (a := a) h
  rw [e]
  exact hy
theorem Ok.mono {n m : Nat} {p : Int × Int} (h : Ok n p) (hnm : n ≤ m) : Ok m p :=
  ⟨h.pos, h.cop, Nat.lt_of_lt_of_le h.b1 (Nat.pow_le_pow_right (by decide) hnm), Nat.lt_of_lt_of_le h.b2 (Nat.pow_le_pow_right (by decide) hnm)⟩
def add (p q : Int × Int) : Int × Int := mk (p.1 * q.2 + q.1 * p.2) (p.2 * q.2)
def sub (p q : Int × Int) : Int × Int := mk (p.1 * q.2 - q.1 * p.2) (p.2 * q.2)
def mul (p q : Int × Int) : Int × Int := mk (p.1 * q.1) (p.2 * q.2)
def div (p q : Int × Int) : Int × Int := mk (p.1 * q.2) (p.2 * q.1)
theorem bmul {n m : Nat} {a b : Int} (ha : a.natAbs < 2 ^ n) (hb : b.natAbs < 2 ^ m) : (a * b).natAbs < 2 ^ (n + m) := by
  rw [Int.natAbs_mul, Nat.pow_add]
  exact Nat.mul_lt_mul'' ha hb
theorem badd {n : Nat} {a b : Int} (ha : a.natAbs < 2 ^ n) (hb : b.natAbs < 2 ^ n) : (a + b).natAbs < 2 ^ (n + 1) := by
  rw [Nat.pow_succ]
  omega
theorem bsub {n : Nat} {a b : Int} (ha : a.natAbs < 2 ^ n) (hb : b.natAbs < 2 ^ n) : (a - b).natAbs < 2 ^ (n + 1) := by
  rw [Nat.pow_succ]
  omega
theorem bmono {n m : Nat} {a : Int} (ha : a.natAbs < 2 ^ n) (h : n ≤ m) : a.natAbs < 2 ^ m := Nat.lt_of_lt_of_le ha (Nat.pow_le_pow_right (by decide) h)
theorem add_ok {n m : Nat} {p q : Int × Int} (hp : Ok n p) (hq : Ok m q) : Ok (n + m + 1) (add p q) :=
  mk_ok (Int.mul_ne_zero (by have := hp.pos; omega) (by have := hq.pos; omega)) (badd (bmul hp.b1 hq.b2) (bmono (bmul hq.b1 hp.b2) (by omega))) (bmono (bmul hp.b2 hq.b2) (by omega))
theorem sub_ok {n m : Nat} {p q : Int × Int} (hp : Ok n p) (hq : Ok m q) : Ok (n + m + 1) (sub p q) :=
  mk_ok (Int.mul_ne_zero (by have := hp.pos; omega) (by have := hq.pos; omega)) (bsub (bmul hp.b1 hq.b2) (bmono (bmul hq.b1 hp.b2) (by omega))) (bmono (bmul hp.b2 hq.b2) (by omega))
theorem div_ok {n m : Nat} {p q : Int × Int} (hp : Ok n p) (hq : Ok m q) (h0 : q.1 ≠ 0) : Ok (n + m) (div p q) :=
  mk_ok (Int.mul_ne_zero (by have := hp.pos; omega) h0) (bmul hp.b1 hq.b2) (bmul hp.b2 hq.b1)

def Is (p : Int × Int) (a b : Int) : Prop := p = mk a b ∧ b ≠ 0
theorem Ok.is {n : Nat} {p : Int × Int} (h : Ok n p) : Is p p.1 p.2 := ⟨(mk_self h.pos h.cop).symm, by have := h.pos; omega⟩
theorem Is.same {p q : Int × Int} {a b c d : Int} (hp : Is p a b) (hq : Is q c d) (e : a * d = c * b) : p = q := by
  rw [hp.1, hq.1]
  exact mk_eq hp.2 hq.2 e
theorem Is.add {p q : Int × Int} {a b c d : Int} (hp : Is p a b) (hq : Is q c d) : Is (add p q) (a * d + c * b) (b * d) := by
  refine ⟨?_, Int.mul_ne_zero hp.2 hq.2⟩
  unfold Fr.add
  have h1 := mk_cross (a := a) hp.2
  have h2 := mk_cross (a := c) hq.2
  rw [← hp.1] at h1
  rw [← hq.1] at h2
  have p0 : p.2 ≠ 0 := by rw [hp.1]; have := mk_pos (a := a) hp.2; omega
  have q0 : q.2 ≠ 0 := by rw [hq.1]; have := mk_pos (a := c) hq.2; omega
  refine mk_eq (Int.mul_ne_zero p0 q0) (Int.mul_ne_zero hp.2 hq.2) ?_
  rw [Int.add_mul, Int.add_mul]
  have e1 : p.1 * q.2 * (b * d) = a * d * (p.2 * q.2) := by
    calc p.1 * q.2 * (b * d) = (p.1 * b) * (q.2 * d) := by ac_rfl
      _ = (a * p.2) * (q.2 * d) := by rw [h1]
      _ = a * d * (p.2 * q.2) := by ac_rfl
  have e2 : q.1 * p.2 * (b * d) = c * b * (p.2 * q.2) := by
    calc q.1 * p.2 * (b * d) = (q.1 * d) * (p.2 * b) := by ac_rfl
      _ = (c * q.2) * (p.2 * b) := by rw [h2]
      _ = c * b * (p.2 * q.2) := by ac_rfl
  rw [e1, e2]
theorem Is.sub {p q : Int × Int} {a b c d : Int} (hp : Is p a b) (hq : Is q c d) : Is (sub p q) (a * d - c * b) (b * d) := by
  refine ⟨?_, Int.mul_ne_zero hp.2 hq.2⟩
  unfold Fr.sub
  have h1 := mk_cross (a := a) hp.2
  have h2 := mk_cross (a := c) hq.2
  rw [← hp.1] at h1
  rw [← hq.1] at h2
  have p0 : p.2 ≠ 0 := by rw [hp.1]; have := mk_pos (a := a) hp.2; omega
  have q0 : q.2 ≠ 0 := by rw [hq.1]; have := mk_pos (a := c) hq.2; omega
  refine mk_eq (Int.mul_ne_zero p0 q0) (Int.mul_ne_zero hp.2 hq.2) ?_
  rw [Int.sub_mul, Int.sub_mul]
  have e1 : p.1 * q.2 * (b * d) = a * d * (p.2 * q.2) := by
    calc p.1 * q.2 * (b * d) = (p.1 * b) * (q.2 * d) := by ac_rfl
      _ = (a * p.2) * (q.2 * d) := by rw [h1]
      _ = a * d * (p.2 * q.2) := by ac_rfl
  have e2 : q.1 * p.2 * (b * d) = c * b * (p.2 * q.2) := by
    calc q.1 * p.2 * (b * d) = (q.1 * d) * (p.2 * b) := by ac_rfl
      _ = (c * q.2) * (p.2 * b) := by rw [h2]
      _ = c * b * (p.2 * q.2) := by ac_rfl
  rw [e1, e2]
theorem Is.mul {p q : Int × Int} {a b c d : Int} (hp : Is p a b) (hq : Is q c d) : Is (mul p q) (a * c) (b * d) := by
  refine ⟨?_, Int.mul_ne_zero hp.2 hq.2⟩
  unfold Fr.mul
  have h1 := mk_cross (a := a) hp.2
  have h2 := mk_cross (a := c) hq.2
  rw [← hp.1] at h1
  rw [← hq.1] at h2
  have p0 : p.2 ≠ 0 := by rw [hp.1]; have := mk_pos (a := a) hp.2; omega
  have q0 : q.2 ≠ 0 := by rw [hq.1]; have := mk_pos (a := c) hq.2; omega
  refine mk_eq (Int.mul_ne_zero p0 q0) (Int.mul_ne_zero hp.2 hq.2) ?_
  calc p.1 * q.1 * (b * d) = (p.1 * b) * (q.1 * d) := by ac_rfl
    _ = (a * p.2) * (c * q.2) := by rw [h1, h2]
    _ = a * c * (p.2 * q.2) := by ac_rfl
theorem Is.div {p q : Int × Int} {a b c d : Int} (hp : Is p a b) (hq : Is q c d) (h0 : c ≠ 0) : Is (div p q) (a * d) (b * c) := by
  refine ⟨?_, Int.mul_ne_zero hp.2 h0⟩
  unfold Fr.div
  have h1 := mk_cross (a := a) hp.2
  have h2 := mk_cross (a := c) hq.2
  rw [← hp.1] at h1
  rw [← hq.1] at h2
  have p0 : p.2 ≠ 0 := by rw [hp.1]; have := mk_pos (a := a) hp.2; omega
  have q0 : q.2 ≠ 0 := by rw [hq.1]; have := mk_pos (a := c) hq.2; omega
  have q1 : q.1 ≠ 0 := by
    intro z
    rw [z, Int.zero_mul] at h2
    exact (Int.mul_ne_zero h0 q0) h2.symm
  refine mk_eq (Int.mul_ne_zero p0 q1) (Int.mul_ne_zero hp.2 h0) ?_
  calc p.1 * q.2 * (b * c) = (p.1 * b) * (c * q.2) := by ac_rfl
    _ = (a * p.2) * (q.1 * d) := by rw [h1, h2]
    _ = a * d * (p.2 * q.1) := by ac_rfl
end Fr
namespace K37
open PySem PySem.Spec PyProof.Rows L2 G Th AL
abbrev Fq := Int × Int
def frV (x : Fq) : Val := .tup [.int x.1, .int x.2]
structure Bd (x : Int × Int) : Prop where
  pos : 0 < x.2
  b1 : x.1.natAbs < 2 ^ 900
  b2 : x.2.natAbs < 2 ^ 900
theorem mw {i j : Int} (hi : i.natAbs < 2 ^ 900) (hj : j.natAbs < 2 ^ 900) : CMulW i j := wide_mul hi hj (by decide) (by decide) (by decide)
theorem gMul_eq {a b : Int} {S : Sto} (h : CMulW a b) : gMul (.int a) (.int b) S = some (.int (a * b), S) := if_pos h
theorem gDiv_eq {a b : Int} {S : Sto} (h : CDivW a b) : gDiv (.int a) (.int b) S = some (.int (a / b), S) := if_pos h
theorem gMod_eq {a b : Int} {S : Sto} (h : b ≠ 0) : gMod (.int a) (.int b) S = some (.int (a.fmod b), S) := if_pos h
theorem at0 {α : Type} {x : α} {xs : List α} : atI (x :: xs) 0 = some x := atI_nat (j := 0) rfl
theorem at1 {α : Type} {x y : α} {xs : List α} : atI (x :: y :: xs) 1 = some y := atI_nat (j := 1) rfl
theorem at2 {α : Type} {x y z : α} {xs : List α} : atI (x :: y :: z :: xs) 2 = some z := atI_nat (j := 2) rfl
theorem fmod_lt {a b : Int} (h : 0 < b) : 0 ≤ a.fmod b ∧ a.fmod b < b := by
  rw [Int.fmod_eq_emod_of_nonneg a (by omega)]
  exact ⟨Int.emod_nonneg a (by omega), Int.emod_lt_of_pos a h⟩
theorem gcd_step {a b : Int} (hb : 0 < b) : Int.gcd b (a.fmod b) = Int.gcd a b := by
  rw [Int.fmod_eq_emod_of_nonneg a (by omega), Int.emod_def, Int.gcd_sub_mul_left_right, Int.gcd_comm]
theorem g_div {a b : Int} {x : Int} (h : b ≠ 0) (hb : b.natAbs < 2 ^ 2000) : CDivW x ((Int.gcd a b : Nat) : Int) := by
  have g0 := Fr.gcd_pos (a := a) h
  refine wide_div (b := 2000) (by omega) ?_ (by decide) (by decide)
  rw [Int.natAbs_natCast]
  exact Nat.lt_of_le_of_lt (Int.gcd_le_natAbs_right _ h) hb
theorem b_mul {a b : Int} (ha : a.natAbs < 2 ^ 900) (hb : b.natAbs < 2 ^ 900) : (a * b).natAbs < 2 ^ 2000 := Fr.bmono (Fr.bmul ha hb) (by decide)
theorem cd_loop : ∀ (n : Nat) (a b : Int) (S : Sto), 0 ≤ b → b.toNat < n → ∃ a', whR (eT (eB gNe (eV 1) (eC (.int 0)))) (sPar [0, 1] (aCons (eV 1) (aCons (eB gMod (eV 0) (eV 1)) aNil))) n [some (.int a), some (.int b)] S = .nx [some (.int a'), some (.int 0)] S ∧ a'.natAbs = Int.gcd a b
  | 0, _, _, _, _, h => by omega
  | n + 1, a, b, S, h0, h => by
    by_cases hb : b = 0
    · subst hb
      refine ⟨a, ?_, by simp⟩
      rw [whR]
      simp only [eV, eC, eB, eT, eU, eIf, eCh, eAnd, eOr, eNot, bAnd, bOr, bNot, bYes, aNil, aCons, eTup, eLst, eCall, eDef, eMt, eMt0, eSl, oN, oS, sNil, sSeq, sExpr, sRet, sIf, sAsg, sPar, sSub, runF, Pat.bind, Pat.binds, gI, gNeg, gAdd, gIs, gIsN, gLen, gAbs, gTuple, gList, gApp, isL, gSet, gSetA, gIxA, gIx, gEq, gNe, eqA, eqS, AL.keyOf, eGet1, eGet2, eDic, gIn, List.getElem?_cons_zero, List.getElem?_cons_succ, List.getElem?_nil, List.set_cons_zero, List.set_cons_succ, List.map_cons, List.map_nil, List.append_eq, List.cons_append, List.nil_append, List.replicate_succ, List.replicate_zero, List.length_cons, List.length_nil, Option.bind_some, Option.bind_none, Option.map_some, Nat.reduceAdd, Nat.reduceSub, Nat.reduceLeDiff, if_true, ite_true, if_false, Bool.false_eq_true, reduceIte, decide_true, Bool.not_true]
    · obtain ⟨m1, m2⟩ := fmod_lt (a := a) (b := b) (by omega)
      obtain ⟨a', e, g⟩ := cd_loop n b (a.fmod b) S m1 (by omega)
      refine ⟨a', ?_, by rw [g, gcd_step (by omega)]⟩
      rw [whR]
      simp only [eV, eC, eB, eT, eU, eIf, eCh, eAnd, eOr, eNot, bAnd, bOr, bNot, bYes, aNil, aCons, eTup, eLst, eCall, eDef, eMt, eMt0, eSl, oN, oS, sNil, sSeq, sExpr, sRet, sIf, sAsg, sPar, sSub, runF, Pat.bind, Pat.binds, gI, gNeg, gAdd, gIs, gIsN, gLen, gAbs, gTuple, gList, gApp, isL, gSet, gSetA, gIxA, gIx, gEq, gNe, eqA, eqS, AL.keyOf, eGet1, eGet2, eDic, gIn, List.getElem?_cons_zero, List.getElem?_cons_succ, List.getElem?_nil, List.set_cons_zero, List.set_cons_succ, List.map_cons, List.map_nil, List.append_eq, List.cons_append, List.nil_append, List.replicate_succ, List.replicate_zero, List.length_cons, List.length_nil, Option.bind_some, Option.bind_none, Option.map_some, Nat.reduceAdd, Nat.reduceSub, Nat.reduceLeDiff, if_true, ite_true, if_false, Bool.false_eq_true, reduceIte, gMod_eq hb, decide_eq_false hb, Bool.not_false]
      exact e
theorem cd_eq {a b : Int} {S : Sto} (h : 0 ≤ b) : common_divisor_ [.int a, .int b] S = some (.int (Int.gcd a b : Nat), S) := by
  obtain ⟨a', e, g⟩ := cd_loop (b.toNat + 1) a b S h (by omega)
  have e2 := sWhile_eq e (by intro z; cases z)
  simp only [common_divisor_, common_divisor_B, eV, eC, eB, eT, eU, eIf, eCh, eAnd, eOr, eNot, bAnd, bOr, bNot, bYes, aNil, aCons, eTup, eLst, eCall, eDef, eMt, eMt0, eSl, oN, oS, sNil, sSeq, sExpr, sRet, sIf, sAsg, sPar, sSub, runF, Pat.bind, Pat.binds, gI, gNeg, gAdd, gIs, gIsN, gLen, gAbs, gTuple, gList, gApp, isL, gSet, gSetA, gIxA, gIx, gEq, gNe, eqA, eqS, AL.keyOf, eGet1, eGet2, eDic, gIn, List.getElem?_cons_zero, List.getElem?_cons_succ, List.getElem?_nil, List.set_cons_zero, List.set_cons_succ, List.map_cons, List.map_nil, List.append_eq, List.cons_append, List.nil_append, List.replicate_succ, List.replicate_zero, List.length_cons, List.length_nil, Option.bind_some, Option.bind_none, Option.map_some, Nat.reduceAdd, Nat.reduceSub, Nat.reduceLeDiff, if_true, ite_true, if_false, Bool.false_eq_true, reduceIte, e2]
  rw [← g]
  split
  · rw [show -a' = (a'.natAbs : Int) by omega]
  · rw [show a' = (a'.natAbs : Int) by omega, Int.natAbs_natCast]
theorem ratio_eq {a b : Int} {S : Sto} (hb : b ≠ 0) (hB : b.natAbs < 2 ^ 2000) : ratio_ [.int a, .int b] S = some (frV (Fr.mk a b), S) := by
  by_cases hn : b < 0
  · have c := cd_eq (a := -a) (b := -b) (S := S) (by omega)
    have d1 := gDiv_eq (S := S) (g_div (a := -a) (b := -b) (x := -a) (by omega) (by rw [Int.natAbs_neg]; exact hB))
    have d2 := gDiv_eq (S := S) (g_div (a := -a) (b := -b) (x := -b) (by omega) (by rw [Int.natAbs_neg]; exact hB))
    simp only [ratio_, ratio_B, frV, eV, eC, eB, eT, eU, eIf, eCh, eAnd, eOr, eNot, bAnd, bOr, bNot, bYes, aNil, aCons, eTup, eLst, eCall, eDef, eMt, eMt0, eSl, oN, oS, sNil, sSeq, sExpr, sRet, sIf, sAsg, sPar, sSub, runF, Pat.bind, Pat.binds, gI, gNeg, gAdd, gIs, gIsN, gLen, gAbs, gTuple, gList, gApp, isL, gSet, gSetA, gIxA, gIx, gEq, gNe, eqA, eqS, AL.keyOf, eGet1, eGet2, eDic, gIn, List.getElem?_cons_zero, List.getElem?_cons_succ, List.getElem?_nil, List.set_cons_zero, List.set_cons_succ, List.map_cons, List.map_nil, List.append_eq, List.cons_append, List.nil_append, List.replicate_succ, List.replicate_zero, List.length_cons, List.length_nil, Option.bind_some, Option.bind_none, Option.map_some, Nat.reduceAdd, Nat.reduceSub, Nat.reduceLeDiff, if_true, ite_true, if_false, Bool.false_eq_true, reduceIte, decide_eq_true hn, c, d1, d2]
    unfold Fr.mk
    rw [if_pos hn, Int.neg_gcd, Int.gcd_neg]
  · have c := cd_eq (a := a) (b := b) (S := S) (by omega)
    have d1 := gDiv_eq (S := S) (g_div (a := a) (b := b) (x := a) hb hB)
    have d2 := gDiv_eq (S := S) (g_div (a := a) (b := b) (x := b) hb hB)
    simp only [ratio_, ratio_B, frV, eV, eC, eB, eT, eU, eIf, eCh, eAnd, eOr, eNot, bAnd, bOr, bNot, bYes, aNil, aCons, eTup, eLst, eCall, eDef, eMt, eMt0, eSl, oN, oS, sNil, sSeq, sExpr, sRet, sIf, sAsg, sPar, sSub, runF, Pat.bind, Pat.binds, gI, gNeg, gAdd, gIs, gIsN, gLen, gAbs, gTuple, gList, gApp, isL, gSet, gSetA, gIxA, gIx, gEq, gNe, eqA, eqS, AL.keyOf, eGet1, eGet2, eDic, gIn, List.getElem?_cons_zero, List.getElem?_cons_succ, List.getElem?_nil, List.set_cons_zero, List.set_cons_succ, List.map_cons, List.map_nil, List.append_eq, List.cons_append, List.nil_append, List.replicate_succ, List.replicate_zero, List.length_cons, List.length_nil, Option.bind_some, Option.bind_none, Option.map_some, Nat.reduceAdd, Nat.reduceSub, Nat.reduceLeDiff, if_true, ite_true, if_false, Bool.false_eq_true, reduceIte, decide_eq_false hn, c, d1, d2]
    unfold Fr.mk
    rw [if_neg hn]
theorem added_eq {x y : Fq} {S : Sto} (hx : Bd x) (hy : Bd y) : added_ [frV x, frV y] S = some (frV (Fr.add x y), S) := by
  have h1 := gMul_eq (S := S) (mw hx.b1 hy.b2)
  have h2 := gMul_eq (S := S) (mw hy.b1 hx.b2)
  have h3 := gMul_eq (S := S) (mw hx.b2 hy.b2)
  have h4 := gMul_eq (S := S) (mw hx.b1 hy.b1)
  have h5 := gMul_eq (S := S) (mw hx.b2 hy.b1)
  simp only [added_, added_B, frV, eV, eC, eB, eT, eU, eIf, eCh, eAnd, eOr, eNot, bAnd, bOr, bNot, bYes, aNil, aCons, eTup, eLst, eCall, eDef, eMt, eMt0, eSl, oN, oS, sNil, sSeq, sExpr, sRet, sIf, sAsg, sPar, sSub, runF, Pat.bind, Pat.binds, gI, gNeg, gAdd, gIs, gIsN, gLen, gAbs, gTuple, gList, gApp, isL, gSet, gSetA, gIxA, gIx, gEq, gNe, eqA, eqS, AL.keyOf, eGet1, eGet2, eDic, gIn, List.getElem?_cons_zero, List.getElem?_cons_succ, List.getElem?_nil, List.set_cons_zero, List.set_cons_succ, List.map_cons, List.map_nil, List.append_eq, List.cons_append, List.nil_append, List.replicate_succ, List.replicate_zero, List.length_cons, List.length_nil, Option.bind_some, Option.bind_none, Option.map_some, Nat.reduceAdd, Nat.reduceSub, Nat.reduceLeDiff, if_true, ite_true, if_false, Bool.false_eq_true, reduceIte, at0, at1, h1, h2, h3, h4, h5]
  rw [ratio_eq (Int.mul_ne_zero (by have := hx.pos; omega) (by have := hy.pos; omega)) (b_mul hx.b2 hy.b2)]
  rfl
theorem less_eq {x y : Fq} {S : Sto} (hx : Bd x) (hy : Bd y) : less_ [frV x, frV y] S = some (frV (Fr.sub x y), S) := by
  have h1 := gMul_eq (S := S) (mw hx.b1 hy.b2)
  have h2 := gMul_eq (S := S) (mw hy.b1 hx.b2)
  have h3 := gMul_eq (S := S) (mw hx.b2 hy.b2)
  have h4 := gMul_eq (S := S) (mw hx.b1 hy.b1)
  have h5 := gMul_eq (S := S) (mw hx.b2 hy.b1)
  simp only [less_, less_B, frV, eV, eC, eB, eT, eU, eIf, eCh, eAnd, eOr, eNot, bAnd, bOr, bNot, bYes, aNil, aCons, eTup, eLst, eCall, eDef, eMt, eMt0, eSl, oN, oS, sNil, sSeq, sExpr, sRet, sIf, sAsg, sPar, sSub, runF, Pat.bind, Pat.binds, gI, gNeg, gAdd, gIs, gIsN, gLen, gAbs, gTuple, gList, gApp, isL, gSet, gSetA, gIxA, gIx, gEq, gNe, eqA, eqS, AL.keyOf, eGet1, eGet2, eDic, gIn, List.getElem?_cons_zero, List.getElem?_cons_succ, List.getElem?_nil, List.set_cons_zero, List.set_cons_succ, List.map_cons, List.map_nil, List.append_eq, List.cons_append, List.nil_append, List.replicate_succ, List.replicate_zero, List.length_cons, List.length_nil, Option.bind_some, Option.bind_none, Option.map_some, Nat.reduceAdd, Nat.reduceSub, Nat.reduceLeDiff, if_true, ite_true, if_false, Bool.false_eq_true, reduceIte, at0, at1, h1, h2, h3, h4, h5]
  rw [ratio_eq (Int.mul_ne_zero (by have := hx.pos; omega) (by have := hy.pos; omega)) (b_mul hx.b2 hy.b2)]
  rfl
theorem parted_eq {x y : Fq} {S : Sto} (hx : Bd x) (hy : Bd y) (h0 : y.1 ≠ 0) : parted_ [frV x, frV y] S = some (frV (Fr.div x y), S) := by
  have h1 := gMul_eq (S := S) (mw hx.b1 hy.b2)
  have h2 := gMul_eq (S := S) (mw hy.b1 hx.b2)
  have h3 := gMul_eq (S := S) (mw hx.b2 hy.b2)
  have h4 := gMul_eq (S := S) (mw hx.b1 hy.b1)
  have h5 := gMul_eq (S := S) (mw hx.b2 hy.b1)
  simp only [parted_, parted_B, frV, eV, eC, eB, eT, eU, eIf, eCh, eAnd, eOr, eNot, bAnd, bOr, bNot, bYes, aNil, aCons, eTup, eLst, eCall, eDef, eMt, eMt0, eSl, oN, oS, sNil, sSeq, sExpr, sRet, sIf, sAsg, sPar, sSub, runF, Pat.bind, Pat.binds, gI, gNeg, gAdd, gIs, gIsN, gLen, gAbs, gTuple, gList, gApp, isL, gSet, gSetA, gIxA, gIx, gEq, gNe, eqA, eqS, AL.keyOf, eGet1, eGet2, eDic, gIn, List.getElem?_cons_zero, List.getElem?_cons_succ, List.getElem?_nil, List.set_cons_zero, List.set_cons_succ, List.map_cons, List.map_nil, List.append_eq, List.cons_append, List.nil_append, List.replicate_succ, List.replicate_zero, List.length_cons, List.length_nil, Option.bind_some, Option.bind_none, Option.map_some, Nat.reduceAdd, Nat.reduceSub, Nat.reduceLeDiff, if_true, ite_true, if_false, Bool.false_eq_true, reduceIte, at0, at1, h1, h2, h3, h4, h5]
  rw [ratio_eq (Int.mul_ne_zero (by have := hx.pos; omega) h0) (b_mul hx.b2 hy.b1)]
  rfl
theorem low_loop : ∀ (n : Nat) (c d a b : Int) (S : Sto), 0 ≤ a → 0 ≤ b → b.toNat < n → ∃ a', whR (eT (eB gGt (eV 3) (eC (.int 0)))) (sPar [2, 3] (aCons (eV 3) (aCons (eB gMod (eV 2) (eV 3)) aNil))) n [some (.int c), some (.int d), some (.int a), some (.int b)] S = .nx [some (.int c), some (.int d), some (.int a'), some (.int 0)] S ∧ a' = (Int.gcd a b : Nat)
  | 0, _, _, _, _, _, _, _, h => by omega
  | n + 1, c, d, a, b, S, ha, h0, h => by
    by_cases hb : b = 0
    · subst hb
      refine ⟨a, ?_, by simp; omega⟩
      rw [whR]
      simp only [eV, eC, eB, eT, eU, eIf, eCh, eAnd, eOr, eNot, bAnd, bOr, bNot, bYes, aNil, aCons, eTup, eLst, eCall, eDef, eMt, eMt0, eSl, oN, oS, sNil, sSeq, sExpr, sRet, sIf, sAsg, sPar, sSub, runF, Pat.bind, Pat.binds, gI, gNeg, gAdd, gIs, gIsN, gLen, gAbs, gTuple, gList, gApp, isL, gSet, gSetA, gIxA, gIx, gEq, gNe, eqA, eqS, AL.keyOf, eGet1, eGet2, eDic, gIn, List.getElem?_cons_zero, List.getElem?_cons_succ, List.getElem?_nil, List.set_cons_zero, List.set_cons_succ, List.map_cons, List.map_nil, List.append_eq, List.cons_append, List.nil_append, List.replicate_succ, List.replicate_zero, List.length_cons, List.length_nil, Option.bind_some, Option.bind_none, Option.map_some, Nat.reduceAdd, Nat.reduceSub, Nat.reduceLeDiff, if_true, ite_true, if_false, Bool.false_eq_true, reduceIte, decide_eq_false (Int.lt_irrefl 0)]
    · obtain ⟨m1, m2⟩ := fmod_lt (a := a) (b := b) (by omega)
      obtain ⟨a', e, g⟩ := low_loop n c d b (a.fmod b) S h0 m1 (by omega)
      refine ⟨a', ?_, by rw [g, gcd_step (by omega)]⟩
      rw [whR]
      simp only [eV, eC, eB, eT, eU, eIf, eCh, eAnd, eOr, eNot, bAnd, bOr, bNot, bYes, aNil, aCons, eTup, eLst, eCall, eDef, eMt, eMt0, eSl, oN, oS, sNil, sSeq, sExpr, sRet, sIf, sAsg, sPar, sSub, runF, Pat.bind, Pat.binds, gI, gNeg, gAdd, gIs, gIsN, gLen, gAbs, gTuple, gList, gApp, isL, gSet, gSetA, gIxA, gIx, gEq, gNe, eqA, eqS, AL.keyOf, eGet1, eGet2, eDic, gIn, List.getElem?_cons_zero, List.getElem?_cons_succ, List.getElem?_nil, List.set_cons_zero, List.set_cons_succ, List.map_cons, List.map_nil, List.append_eq, List.cons_append, List.nil_append, List.replicate_succ, List.replicate_zero, List.length_cons, List.length_nil, Option.bind_some, Option.bind_none, Option.map_some, Nat.reduceAdd, Nat.reduceSub, Nat.reduceLeDiff, if_true, ite_true, if_false, Bool.false_eq_true, reduceIte, gMod_eq hb, decide_eq_true (show 0 < b by omega)]
      exact e
theorem low_eq {a b : Int} {S : Sto} (hb : 0 < b) (hB : b.natAbs < 2 ^ 2000) : lowL_ [.int a, .int b] S = some (frV (Fr.mk a b), S) := by
  have ab : Int.gcd (if a < 0 then -a else a) b = Int.gcd a b := by
    split
    · rw [Int.neg_gcd]
    · rfl
  obtain ⟨a', e, g⟩ := low_loop (b.toNat + 1) a b (if a < 0 then -a else a) b S (by split <;> omega) (by omega) (by omega)
  rw [ab] at g
  subst g
  have e2 := sWhile_eq e (by intro z; cases z)
  have d1 := gDiv_eq (S := S) (g_div (a := a) (b := b) (x := a) (by omega) hB)
  have d2 := gDiv_eq (S := S) (g_div (a := a) (b := b) (x := b) (by omega) hB)
  simp only [lowL_, lowL_B, frV, eV, eC, eB, eT, eU, eIf, eCh, eAnd, eOr, eNot, bAnd, bOr, bNot, bYes, aNil, aCons, eTup, eLst, eCall, eDef, eMt, eMt0, eSl, oN, oS, sNil, sSeq, sExpr, sRet, sIf, sAsg, sPar, sSub, runF, Pat.bind, Pat.binds, gI, gNeg, gAdd, gIs, gIsN, gLen, gAbs, gTuple, gList, gApp, isL, gSet, gSetA, gIxA, gIx, gEq, gNe, eqA, eqS, AL.keyOf, eGet1, eGet2, eDic, gIn, List.getElem?_cons_zero, List.getElem?_cons_succ, List.getElem?_nil, List.set_cons_zero, List.set_cons_succ, List.map_cons, List.map_nil, List.append_eq, List.cons_append, List.nil_append, List.replicate_succ, List.replicate_zero, List.length_cons, List.length_nil, Option.bind_some, Option.bind_none, Option.map_some, Nat.reduceAdd, Nat.reduceSub, Nat.reduceLeDiff, if_true, ite_true, if_false, Bool.false_eq_true, reduceIte, e2, d1, d2]
  unfold Fr.mk
  rw [if_neg (by omega)]
theorem plusL_eq {x y : Fq} {S : Sto} (hx : Bd x) (hy : Bd y) : plusL_ [frV x, frV y] S = some (frV (Fr.add x y), S) := by
  have h1 := gMul_eq (S := S) (mw hx.b1 hy.b2)
  have h2 := gMul_eq (S := S) (mw hy.b1 hx.b2)
  have h3 := gMul_eq (S := S) (mw hx.b2 hy.b2)
  have h4 := gMul_eq (S := S) (mw hx.b1 hy.b1)
  have h5 := gMul_eq (S := S) (mw hx.b2 hy.b1)
  simp only [plusL_, plusL_B, frV, eV, eC, eB, eT, eU, eIf, eCh, eAnd, eOr, eNot, bAnd, bOr, bNot, bYes, aNil, aCons, eTup, eLst, eCall, eDef, eMt, eMt0, eSl, oN, oS, sNil, sSeq, sExpr, sRet, sIf, sAsg, sPar, sSub, runF, Pat.bind, Pat.binds, gI, gNeg, gAdd, gIs, gIsN, gLen, gAbs, gTuple, gList, gApp, isL, gSet, gSetA, gIxA, gIx, gEq, gNe, eqA, eqS, AL.keyOf, eGet1, eGet2, eDic, gIn, List.getElem?_cons_zero, List.getElem?_cons_succ, List.getElem?_nil, List.set_cons_zero, List.set_cons_succ, List.map_cons, List.map_nil, List.append_eq, List.cons_append, List.nil_append, List.replicate_succ, List.replicate_zero, List.length_cons, List.length_nil, Option.bind_some, Option.bind_none, Option.map_some, Nat.reduceAdd, Nat.reduceSub, Nat.reduceLeDiff, if_true, ite_true, if_false, Bool.false_eq_true, reduceIte, at0, at1, h1, h2, h3, h4, h5]
  rw [low_eq (Int.mul_pos hx.pos hy.pos) (b_mul hx.b2 hy.b2)]
  rfl
theorem byL_eq {x y : Fq} {S : Sto} (hx : Bd x) (hy : Bd y) : byL_ [frV x, frV y] S = some (frV (Fr.mul x y), S) := by
  have h1 := gMul_eq (S := S) (mw hx.b1 hy.b2)
  have h2 := gMul_eq (S := S) (mw hy.b1 hx.b2)
  have h3 := gMul_eq (S := S) (mw hx.b2 hy.b2)
  have h4 := gMul_eq (S := S) (mw hx.b1 hy.b1)
  have h5 := gMul_eq (S := S) (mw hx.b2 hy.b1)
  simp only [byL_, byL_B, frV, eV, eC, eB, eT, eU, eIf, eCh, eAnd, eOr, eNot, bAnd, bOr, bNot, bYes, aNil, aCons, eTup, eLst, eCall, eDef, eMt, eMt0, eSl, oN, oS, sNil, sSeq, sExpr, sRet, sIf, sAsg, sPar, sSub, runF, Pat.bind, Pat.binds, gI, gNeg, gAdd, gIs, gIsN, gLen, gAbs, gTuple, gList, gApp, isL, gSet, gSetA, gIxA, gIx, gEq, gNe, eqA, eqS, AL.keyOf, eGet1, eGet2, eDic, gIn, List.getElem?_cons_zero, List.getElem?_cons_succ, List.getElem?_nil, List.set_cons_zero, List.set_cons_succ, List.map_cons, List.map_nil, List.append_eq, List.cons_append, List.nil_append, List.replicate_succ, List.replicate_zero, List.length_cons, List.length_nil, Option.bind_some, Option.bind_none, Option.map_some, Nat.reduceAdd, Nat.reduceSub, Nat.reduceLeDiff, if_true, ite_true, if_false, Bool.false_eq_true, reduceIte, at0, at1, h1, h2, h3, h4, h5]
  rw [low_eq (Int.mul_pos hx.pos hy.pos) (b_mul hx.b2 hy.b2)]
  rfl
theorem overL_eq {x y : Fq} {S : Sto} (hx : Bd x) (hy : Bd y) (h0 : 0 < y.1) : overL_ [frV x, frV y] S = some (frV (Fr.div x y), S) := by
  have h1 := gMul_eq (S := S) (mw hx.b1 hy.b2)
  have h2 := gMul_eq (S := S) (mw hy.b1 hx.b2)
  have h3 := gMul_eq (S := S) (mw hx.b2 hy.b2)
  have h4 := gMul_eq (S := S) (mw hx.b1 hy.b1)
  have h5 := gMul_eq (S := S) (mw hx.b2 hy.b1)
  simp only [overL_, overL_B, frV, eV, eC, eB, eT, eU, eIf, eCh, eAnd, eOr, eNot, bAnd, bOr, bNot, bYes, aNil, aCons, eTup, eLst, eCall, eDef, eMt, eMt0, eSl, oN, oS, sNil, sSeq, sExpr, sRet, sIf, sAsg, sPar, sSub, runF, Pat.bind, Pat.binds, gI, gNeg, gAdd, gIs, gIsN, gLen, gAbs, gTuple, gList, gApp, isL, gSet, gSetA, gIxA, gIx, gEq, gNe, eqA, eqS, AL.keyOf, eGet1, eGet2, eDic, gIn, List.getElem?_cons_zero, List.getElem?_cons_succ, List.getElem?_nil, List.set_cons_zero, List.set_cons_succ, List.map_cons, List.map_nil, List.append_eq, List.cons_append, List.nil_append, List.replicate_succ, List.replicate_zero, List.length_cons, List.length_nil, Option.bind_some, Option.bind_none, Option.map_some, Nat.reduceAdd, Nat.reduceSub, Nat.reduceLeDiff, if_true, ite_true, if_false, Bool.false_eq_true, reduceIte, at0, at1, h1, h2, h3, h4, h5]
  rw [low_eq (Int.mul_pos hx.pos h0) (b_mul hx.b2 hy.b1)]
  rfl
theorem is_below_eq {x y : Fq} {S : Sto} (hx : Bd x) (hy : Bd y) : is_below_ [frV x, frV y] S = some (.bl (decide (x.1 * y.2 < y.1 * x.2)), S) := by
  have h1 := gMul_eq (S := S) (mw hx.b1 hy.b2)
  have h2 := gMul_eq (S := S) (mw hy.b1 hx.b2)
  simp only [is_below_, is_below_B, frV, eV, eC, eB, eT, eU, eIf, eCh, eAnd, eOr, eNot, bAnd, bOr, bNot, bYes, aNil, aCons, eTup, eLst, eCall, eDef, eMt, eMt0, eSl, oN, oS, sNil, sSeq, sExpr, sRet, sIf, sAsg, sPar, sSub, runF, Pat.bind, Pat.binds, gI, gNeg, gAdd, gIs, gIsN, gLen, gAbs, gTuple, gList, gApp, isL, gSet, gSetA, gIxA, gIx, gEq, gNe, eqA, eqS, AL.keyOf, eGet1, eGet2, eDic, gIn, List.getElem?_cons_zero, List.getElem?_cons_succ, List.getElem?_nil, List.set_cons_zero, List.set_cons_succ, List.map_cons, List.map_nil, List.append_eq, List.cons_append, List.nil_append, List.replicate_succ, List.replicate_zero, List.length_cons, List.length_nil, Option.bind_some, Option.bind_none, Option.map_some, Nat.reduceAdd, Nat.reduceSub, Nat.reduceLeDiff, if_true, ite_true, if_false, Bool.false_eq_true, reduceIte, at0, at1, h1, h2]
theorem is_lessL_eq {x y : Fq} {S : Sto} (hx : Bd x) (hy : Bd y) : is_lessL_ [frV x, frV y] S = some (.bl (decide (x.1 * y.2 < y.1 * x.2)), S) := by
  have h1 := gMul_eq (S := S) (mw hx.b1 hy.b2)
  have h2 := gMul_eq (S := S) (mw hy.b1 hx.b2)
  simp only [is_lessL_, is_lessL_B, frV, eV, eC, eB, eT, eU, eIf, eCh, eAnd, eOr, eNot, bAnd, bOr, bNot, bYes, aNil, aCons, eTup, eLst, eCall, eDef, eMt, eMt0, eSl, oN, oS, sNil, sSeq, sExpr, sRet, sIf, sAsg, sPar, sSub, runF, Pat.bind, Pat.binds, gI, gNeg, gAdd, gIs, gIsN, gLen, gAbs, gTuple, gList, gApp, isL, gSet, gSetA, gIxA, gIx, gEq, gNe, eqA, eqS, AL.keyOf, eGet1, eGet2, eDic, gIn, List.getElem?_cons_zero, List.getElem?_cons_succ, List.getElem?_nil, List.set_cons_zero, List.set_cons_succ, List.map_cons, List.map_nil, List.append_eq, List.cons_append, List.nil_append, List.replicate_succ, List.replicate_zero, List.length_cons, List.length_nil, Option.bind_some, Option.bind_none, Option.map_some, Nat.reduceAdd, Nat.reduceSub, Nat.reduceLeDiff, if_true, ite_true, if_false, Bool.false_eq_true, reduceIte, at0, at1, h1, h2]
end K37
namespace K37
open PySem PySem.Spec PyProof.Rows L2 G Th AL
theorem ss {S : Sto} {n : Nat} {o o' : Ob} (h : S[n]? = some o) : (S.set n o')[n]? = some o' := List.getElem?_set_self (List.getElem?_eq_some_iff.mp h).1
theorem sn {S : Sto} {k n : Nat} {o : Ob} (h : n ≠ k) : (S.set n o)[k]? = S[k]? := List.getElem?_set_ne h
theorem sa {S T : Sto} {n : Nat} {o : Ob} (h : S[n]? = some o) : (S ++ T)[n]? = some o := by
  rw [List.getElem?_append_left (List.getElem?_eq_some_iff.mp h).1]
  exact h
theorem sl {S : Sto} {o : Ob} : (S ++ [o])[S.length]? = some o := by simp

def Fr1 (S S' : Sto) : Prop := ∀ (k : Nat) (o : Ob), k ≠ 1 → S[k]? = some o → S'[k]? = some o
theorem Fr1.refl (S : Sto) : Fr1 S S := fun _ _ _ h => h
theorem Fr1.trans {S S1 S2 : Sto} (a : Fr1 S S1) (b : Fr1 S1 S2) : Fr1 S S2 := fun k o n h => b k o n (a k o n h)
theorem Fr1.app (S T : Sto) : Fr1 S (S ++ T) := fun _ _ _ h => sa h
structure Tp (S : Sto) (B : Int) : Prop where
  ex : ∃ (ns : List Int) (i q n : Int), S[0]? = some (.lst (ns.map .int)) ∧ S[1]? = some (.lst [.ref 0, .int i, .int q, .int n]) ∧ 0 ≤ i ∧ 0 ≤ q ∧ 0 ≤ n ∧ n ≤ B ∧ ns.length ≤ 63
theorem Tp.mono {S : Sto} {B B' : Int} (h : Tp S B) (hb : B ≤ B') : Tp S B' := by
  obtain ⟨ns, i, q, n, h0, h1, a, b, c, d, e⟩ := h.ex
  exact ⟨ns, i, q, n, h0, h1, a, b, c, by omega, e⟩
theorem Tp.app {S T : Sto} {B : Int} (h : Tp S B) : Tp (S ++ T) B := by
  obtain ⟨ns, i, q, n, h0, h1, r⟩ := h.ex
  exact ⟨ns, i, q, n, sa h0, sa h1, r⟩
theorem Tp.set {S : Sto} {B : Int} {k : Nat} {o : Ob} (h : Tp S B) (hk : 2 ≤ k) : Tp (S.set k o) B := by
  obtain ⟨ns, i, q, n, h0, h1, r⟩ := h.ex
  exact ⟨ns, i, q, n, by rw [sn (by omega)]; exact h0, by rw [sn (by omega)]; exact h1, r⟩
theorem Tp.two {S : Sto} {B : Int} (h : Tp S B) : 2 ≤ S.length := by
  obtain ⟨ns, i, q, n, h0, h1, r⟩ := h.ex
  exact (List.getElem?_eq_some_iff.mp h1).1
theorem mapO_ints {S : Sto} {k : Nat} : ∀ ns : List Int, mapO (toD S (k + 1)) (ns.map Val.int) = some (ns.map PyData.int)
  | [] => rfl
  | n :: r => by
    rw [List.map_cons, mapO, mapO_ints r]
    rfl
theorem lay_ints : ∀ ns : List Int, PyData.canLayAll0 (ns.map PyData.int) = true
  | [] => rfl
  | n :: r => by
    simp only [List.map_cons, PyData.canLayAll0, PyData.canLay0, Bool.true_and]
    exact lay_ints r
theorem depth_ints : ∀ ns : List Int, PyData.depthAll (ns.map PyData.int) ≤ 1
  | [] => by simp [PyData.depthAll]
  | n :: r => by
    have h := depth_ints r
    simp only [List.map_cons, PyData.depthAll, PyData.depth]
    omega
theorem shaped_ints (ns : List Int) : SeqAt.shaped (.list (ns.map PyData.int)) = true := by
  have h1 := depth_ints ns
  show (PyData.canLay0 (.list (ns.map PyData.int)) && decide (PyData.depth (.list (ns.map PyData.int)) ≤ 64)) = true
  rw [Bool.and_eq_true]
  refine ⟨by simp only [PyData.canLay0]; exact lay_ints ns, decide_eq_true ?_⟩
  simp only [PyData.depth]
  omega

theorem ne_nil {S : Sto} {a b : Nat} {ns : List Int} (h0 : S[a]? = some (.lst (ns.map .int))) (h1 : S[b]? = some (.lst [])) : gNe (.ref a) (.ref b) S = some (.bl (!ns.isEmpty), S) := by
  have d0 : toD S 40 (.ref a) = some (.list (ns.map PyData.int)) := by
    rw [show (40 : Nat) = 38 + 1 + 1 from rfl, toD]
    simp only [h0, mapO_ints, Option.map_some]
  have d1 : toD S 40 (.ref b) = some (.list []) := by
    rw [show (40 : Nat) = 38 + 1 + 1 from rfl, toD]
    simp only [h1, mapO, Option.map_some]
  unfold gNe eqA
  simp only [eqS, d0, d1, shaped_ints ns, show SeqAt.shaped (.list []) = true from by decide, and_self, if_true, Option.map_some]
  cases ns <;> rfl
theorem small_pow {x : Int} (h0 : 0 ≤ x) (h1 : x < 2 ^ 63) : CPow x 5 := ⟨by decide, by decide, by have : (2 : Int) ^ 63 = 9223372036854775808 := rfl; have : (2 : Nat) ^ 64 = 18446744073709551616 := rfl; omega⟩
theorem pow18 : CPow 10 18 := ⟨by decide, by decide, by decide⟩
theorem at_ints {L : List Int} {d : Int} (h0 : 0 ≤ d) (h1 : d < (L.length : Int)) : ∃ v, atI (L.map Val.int) d = some (.int v) ∧ v ∈ L := by
  obtain ⟨n, rfl⟩ := Int.eq_ofNat_of_zero_le h0
  have hn : n < L.length := by omega
  refine ⟨L[n], atI_nat (j := n) ?_, List.getElem_mem hn⟩
  rw [List.getElem?_map, List.getElem?_eq_getElem hn]
  rfl

end K37
namespace K37
open PySem PySem.Spec PyProof.Rows L2 G Th AL
structure Hs where
  name : Str
  slow : Fq
  fast : Fq
structure Lk where
  fr : Str
  to : Str
  least : Fq
  most : Option Fq
structure Fl where
  hs : List Hs
  ls : List Lk
  src : Str
inductive Dd where
  | mark | send (l : Nat) | hear (k : Nat)
structure Ev where
  name : Str
  stamp : Fq
  deed : Dd
abbrev Pr := Option Fq × Option Fq
structure Mv where
  x : Nat
  lo : Fq
  hi : Option Fq
def oV : Option Fq → Val
  | none => .non
  | some x => frV x
def prV (p : Pr) : Val := .tup [oV p.1, oV p.2]
def hsV (h : Hs) : Val := .tup [.str h.name, frV h.slow, frV h.fast]
def lkV (l : Lk) : Val := .tup [.str l.fr, .str l.to, frV l.least, oV l.most]
def flV (f : Fl) : Val := .tup [.tup (f.hs.map hsV), .tup (f.ls.map lkV), .str f.src]
def ddV : Dd → Val
  | .mark => .tup [.str "mark"]
  | .send l => .tup [.str "send", .int (l : Nat)]
  | .hear k => .tup [.str "hear", .int (k : Nat)]
def evV (e : Ev) : Val := .tup [.str e.name, frV e.stamp, ddV e.deed]
def hiV (f : Fl) (es : List Ev) : Val := .tup [flV f, .tup (es.map evV)]
def mvV (m : Mv) : Val := .tup [.int (m.x : Nat), .tup [frV m.lo, oV m.hi]]
def addO : Option Fq → Option Fq → Option Fq
  | some a, some b => some (Fr.add a b)
  | _, _ => none
def BdO (o : Option Fq) : Prop := ∀ x, o = some x → Bd x
theorem isNon_oV (o : Option Fq) : AL.isNon (oV o) = o.isNone := by cases o <;> rfl
theorem isNon_frV (x : Fq) : AL.isNon (frV x) = false := rfl
theorem isNon_non : AL.isNon .non = true := rfl
theorem told_eq {a b : Option Fq} {S : Sto} (ha : BdO a) (hb : BdO b) : added_told_ [oV a, oV b] S = some (oV (addO a b), S) := by
  cases a with
  | none => simp only [added_told_, added_told_B, eV, eC, eB, eT, eU, eIf, eCh, eAnd, eOr, eNot, bAnd, bOr, bNot, bYes, aNil, aCons, eTup, eLst, eCall, eDef, eMt, eMt0, eSl, oN, oS, sNil, sSeq, sExpr, sRet, sIf, sAsg, sPar, sSub, runF, Pat.bind, Pat.binds, gI, gNeg, gAdd, gIs, gIsN, gLen, gAbs, gTuple, gList, gApp, isL, gSet, gSetA, gIxA, gIx, gEq, gNe, eqA, eqS, AL.keyOf, eGet1, eGet2, eDic, gIn, List.getElem?_cons_zero, List.getElem?_cons_succ, List.getElem?_nil, List.set_cons_zero, List.set_cons_succ, List.map_cons, List.map_nil, List.append_eq, List.cons_append, List.nil_append, List.replicate_succ, List.replicate_zero, List.length_cons, List.length_nil, Option.bind_some, Option.bind_none, Option.map_some, Nat.reduceAdd, Nat.reduceSub, Nat.reduceLeDiff, if_true, ite_true, if_false, Bool.false_eq_true, reduceIte, oV, addO, isNon_non]
  | some x =>
    cases b with
    | none => simp only [added_told_, added_told_B, eV, eC, eB, eT, eU, eIf, eCh, eAnd, eOr, eNot, bAnd, bOr, bNot, bYes, aNil, aCons, eTup, eLst, eCall, eDef, eMt, eMt0, eSl, oN, oS, sNil, sSeq, sExpr, sRet, sIf, sAsg, sPar, sSub, runF, Pat.bind, Pat.binds, gI, gNeg, gAdd, gIs, gIsN, gLen, gAbs, gTuple, gList, gApp, isL, gSet, gSetA, gIxA, gIx, gEq, gNe, eqA, eqS, AL.keyOf, eGet1, eGet2, eDic, gIn, List.getElem?_cons_zero, List.getElem?_cons_succ, List.getElem?_nil, List.set_cons_zero, List.set_cons_succ, List.map_cons, List.map_nil, List.append_eq, List.cons_append, List.nil_append, List.replicate_succ, List.replicate_zero, List.length_cons, List.length_nil, Option.bind_some, Option.bind_none, Option.map_some, Nat.reduceAdd, Nat.reduceSub, Nat.reduceLeDiff, if_true, ite_true, if_false, Bool.false_eq_true, reduceIte, oV, addO, isNon_frV, isNon_non]
    | some y => 
      have e := added_eq (S := S) (ha x rfl) (hb y rfl)
      simp only [added_told_, added_told_B, eV, eC, eB, eT, eU, eIf, eCh, eAnd, eOr, eNot, bAnd, bOr, bNot, bYes, aNil, aCons, eTup, eLst, eCall, eDef, eMt, eMt0, eSl, oN, oS, sNil, sSeq, sExpr, sRet, sIf, sAsg, sPar, sSub, runF, Pat.bind, Pat.binds, gI, gNeg, gAdd, gIs, gIsN, gLen, gAbs, gTuple, gList, gApp, isL, gSet, gSetA, gIxA, gIx, gEq, gNe, eqA, eqS, AL.keyOf, eGet1, eGet2, eDic, gIn, List.getElem?_cons_zero, List.getElem?_cons_succ, List.getElem?_nil, List.set_cons_zero, List.set_cons_succ, List.map_cons, List.map_nil, List.append_eq, List.cons_append, List.nil_append, List.replicate_succ, List.replicate_zero, List.length_cons, List.length_nil, Option.bind_some, Option.bind_none, Option.map_some, Nat.reduceAdd, Nat.reduceSub, Nat.reduceLeDiff, if_true, ite_true, if_false, Bool.false_eq_true, reduceIte, oV, addO, isNon_frV, e]
def sel (b : Bool) (p : Pr) : Option Fq := if b then p.2 else p.1
def sI (b : Bool) : Val := .int (if b then 1 else 0)
theorem at_nat {α : Type} {xs : List α} {j : Nat} {v : α} (h : xs[j]? = some v) : atI xs (j : Int) = some v := atI_nat h
theorem map_get {α β : Type} {f : α → β} {xs : List α} {j : Nat} {v : α} (h : xs[j]? = some v) : (xs.map f)[j]? = some (f v) := by rw [List.getElem?_map, h]; rfl
theorem moved_eq {m : Mv} {b : Bool} {n : Nat} {ps : List Pr} {p : Pr} {S : Sto} (hn : S[n]? = some (.lst (ps.map prV))) (hp : ps[m.x]? = some p) (h1 : BdO (sel b p)) (h2 : BdO (sel b (some m.lo, m.hi))) : moved_end_ [mvV m, .ref n, sI b] S = some (oV (addO (sel b p) (sel b (some m.lo, m.hi))), S) := by
  have e1 := at_nat (map_get (f := prV) hp)
  have e2 := told_eq (S := S) h1 h2
  cases b with
  | true =>
    simp only [sel, if_true] at e2
    simp only [moved_end_, moved_end_B, mvV, sI, eV, eC, eB, eT, eU, eIf, eCh, eAnd, eOr, eNot, bAnd, bOr, bNot, bYes, aNil, aCons, eTup, eLst, eCall, eDef, eMt, eMt0, eSl, oN, oS, sNil, sSeq, sExpr, sRet, sIf, sAsg, sPar, sSub, runF, Pat.bind, Pat.binds, gI, gNeg, gAdd, gIs, gIsN, gLen, gAbs, gTuple, gList, gApp, isL, gSet, gSetA, gIxA, gIx, gEq, gNe, eqA, eqS, AL.keyOf, eGet1, eGet2, eDic, gIn, List.getElem?_cons_zero, List.getElem?_cons_succ, List.getElem?_nil, List.set_cons_zero, List.set_cons_succ, List.map_cons, List.map_nil, List.append_eq, List.cons_append, List.nil_append, List.replicate_succ, List.replicate_zero, List.length_cons, List.length_nil, Option.bind_some, Option.bind_none, Option.map_some, Nat.reduceAdd, Nat.reduceSub, Nat.reduceLeDiff, if_true, ite_true, if_false, Bool.false_eq_true, reduceIte, hn, e1, prV, at1, sel, e2]
  | false =>
    simp only [sel, if_false, Bool.false_eq_true, oV] at e2
    simp only [moved_end_, moved_end_B, mvV, sI, eV, eC, eB, eT, eU, eIf, eCh, eAnd, eOr, eNot, bAnd, bOr, bNot, bYes, aNil, aCons, eTup, eLst, eCall, eDef, eMt, eMt0, eSl, oN, oS, sNil, sSeq, sExpr, sRet, sIf, sAsg, sPar, sSub, runF, Pat.bind, Pat.binds, gI, gNeg, gAdd, gIs, gIsN, gLen, gAbs, gTuple, gList, gApp, isL, gSet, gSetA, gIxA, gIx, gEq, gNe, eqA, eqS, AL.keyOf, eGet1, eGet2, eDic, gIn, List.getElem?_cons_zero, List.getElem?_cons_succ, List.getElem?_nil, List.set_cons_zero, List.set_cons_succ, List.map_cons, List.map_nil, List.append_eq, List.cons_append, List.nil_append, List.replicate_succ, List.replicate_zero, List.length_cons, List.length_nil, Option.bind_some, Option.bind_none, Option.map_some, Nat.reduceAdd, Nat.reduceSub, Nat.reduceLeDiff, if_true, ite_true, if_false, Bool.false_eq_true, reduceIte, hn, e1, prV, at0, sel, oV, e2]
def endOf (ps : List Pr) (b : Bool) (m : Mv) : Option Fq := addO (sel b (ps.getD m.x (none, none))) (sel b (some m.lo, m.hi))
structure MvOk (ps : List Pr) (m : Mv) : Prop where
  x : m.x < ps.length
  p : ∀ b, BdO (sel b (ps.getD m.x (none, none)))
  m : ∀ b, BdO (sel b (some m.lo, m.hi))
theorem ends_filter {ps : List Pr} {b : Bool} : ∀ ms : List Mv, (ms.map fun m => oV (endOf ps b m)).filter (fun v => !AL.isNon v) = (ms.filterMap (endOf ps b)).map frV
  | [] => rfl
  | m :: ms => by
    rw [List.map_cons, List.filter_cons, isNon_oV, List.filterMap_cons, ends_filter ms]
    cases e : endOf ps b m with
    | none => rfl
    | some x => rfl
theorem ends_eq {ms : List Mv} {b : Bool} {r n : Nat} {ps : List Pr} {S : Sto} (hr : S[r]? = some (.lst (ms.map mvV))) (hn : S[n]? = some (.lst (ps.map prV))) (hl : ms.length ≤ 1000) (ok : ∀ m ∈ ms, MvOk ps m) :
    ends_told_ [.ref r, .ref n, sI b] S = some (.ref (S.length + 1), S ++ [.lst (ms.map fun m => oV (endOf ps b m)), .lst ((ms.filterMap (endOf ps b)).map frV)]) := by
  have step1 : lcR (.nm 4) bYes (eDef moved_end_ 3 (aCons (eV 4) (aCons (eV 1) (aCons (eV 2) aNil)))) (fun S' => S'[r]? = some (.lst (ms.map mvV))) [some (.ref r), some (.ref n), some (sI b), none, none, none] (ms.map mvV) [] S = some (ms.map fun m => oV (endOf ps b m), S) := by
    have key : ∀ m ∈ ms, moved_end_ [mvV m, .ref n, sI b] S = some (oV (endOf ps b m), S) := fun m hm => by
      obtain ⟨o1, o2, o3⟩ := ok m hm
      have hp : ps[m.x]? = some (ps.getD m.x (none, none)) := by simp [List.getD, List.getElem?_eq_getElem o1]
      exact moved_eq hn hp (o2 b) (o3 b)
    let g : Val → Val := fun v => match moved_end_ [v, .ref n, sI b] S with
      | some (w, _) => w
      | none => .non
    have h := lcR_pure (p := .nm 4) (t := bYes) (f := eDef moved_end_ 3 (aCons (eV 4) (aCons (eV 1) (aCons (eV 2) aNil)))) (ok := fun S' => S'[r]? = some (.lst (ms.map mvV))) (ρ := [some (.ref r), some (.ref n), some (sI b), none, none, none]) hr (fun _ => true) g (ms.map mvV) [] (by simp; omega) (fun v hv => ?_)
    · rw [h, List.filter_eq_self.mpr (fun _ _ => rfl), List.nil_append, List.map_map]
      congr 2
      apply List.map_congr_left
      intro m hm
      simp only [g, Function.comp, key m hm]
    · obtain ⟨m, hm, rfl⟩ := List.mem_map.mp hv
      refine ⟨[some (.ref r), some (.ref n), some (sI b), none, some (mvV m), none], rfl, rfl, fun _ => ?_⟩
      simp only [eV, eC, eB, eT, eU, eIf, eCh, eAnd, eOr, eNot, bAnd, bOr, bNot, bYes, aNil, aCons, eTup, eLst, eCall, eDef, eMt, eMt0, eSl, oN, oS, sNil, sSeq, sExpr, sRet, sIf, sAsg, sPar, sSub, runF, Pat.bind, Pat.binds, gI, gNeg, gAdd, gIs, gIsN, gLen, gAbs, gTuple, gList, gApp, isL, gSet, gSetA, gIxA, gIx, gEq, gNe, eqA, eqS, AL.keyOf, eGet1, eGet2, eDic, gIn, List.getElem?_cons_zero, List.getElem?_cons_succ, List.getElem?_nil, List.set_cons_zero, List.set_cons_succ, List.map_cons, List.map_nil, List.append_eq, List.cons_append, List.nil_append, List.replicate_succ, List.replicate_zero, List.length_cons, List.length_nil, Option.bind_some, Option.bind_none, Option.map_some, Nat.reduceAdd, Nat.reduceSub, Nat.reduceLeDiff, if_true, ite_true, if_false, Bool.false_eq_true, reduceIte, key m hm, g]
  generalize hS1 : S ++ [Ob.lst (ms.map fun m => oV (endOf ps b m))] = S1
  have l1 : S1[S.length]? = some (.lst (ms.map fun m => oV (endOf ps b m))) := by rw [← hS1]; exact sl
  have len1 : S1.length = S.length + 1 := by rw [← hS1]; simp
  have step2 : lcR (.nm 5) (eT (eB gIsN (eV 5) (eC .non))) (eV 5) (fun S' => S'[S.length]? = some (.lst (ms.map fun m => oV (endOf ps b m)))) [some (.ref r), some (.ref n), some (sI b), some (.ref S.length), none, none] (ms.map fun m => oV (endOf ps b m)) [] S1 = some ((ms.filterMap (endOf ps b)).map frV, S1) := by
    have h := lcR_pure (p := .nm 5) (t := eT (eB gIsN (eV 5) (eC .non))) (f := eV 5) (ok := fun S' => S'[S.length]? = some (.lst (ms.map fun m => oV (endOf ps b m)))) (ρ := [some (.ref r), some (.ref n), some (sI b), some (.ref S.length), none, none]) l1 (fun v => !AL.isNon v) id (ms.map fun m => oV (endOf ps b m)) [] (by simp; omega) (fun v hv => ?_)
    · rw [h]
      simp only [List.nil_append, List.map_id_fun, id]
      congr 2
      exact ends_filter ms
    · refine ⟨[some (.ref r), some (.ref n), some (sI b), some (.ref S.length), none, some v], rfl, ?_, fun _ => ?_⟩
      · simp only [eV, eC, eB, eT, eU, eIf, eCh, eAnd, eOr, eNot, bAnd, bOr, bNot, bYes, aNil, aCons, eTup, eLst, eCall, eDef, eMt, eMt0, eSl, oN, oS, sNil, sSeq, sExpr, sRet, sIf, sAsg, sPar, sSub, runF, Pat.bind, Pat.binds, gI, gNeg, gAdd, gIs, gIsN, gLen, gAbs, gTuple, gList, gApp, isL, gSet, gSetA, gIxA, gIx, gEq, gNe, eqA, eqS, AL.keyOf, eGet1, eGet2, eDic, gIn, List.getElem?_cons_zero, List.getElem?_cons_succ, List.getElem?_nil, List.set_cons_zero, List.set_cons_succ, List.map_cons, List.map_nil, List.append_eq, List.cons_append, List.nil_append, List.replicate_succ, List.replicate_zero, List.length_cons, List.length_nil, Option.bind_some, Option.bind_none, Option.map_some, Nat.reduceAdd, Nat.reduceSub, Nat.reduceLeDiff, if_true, ite_true, if_false, Bool.false_eq_true, reduceIte]
      · simp only [eV, eC, eB, eT, eU, eIf, eCh, eAnd, eOr, eNot, bAnd, bOr, bNot, bYes, aNil, aCons, eTup, eLst, eCall, eDef, eMt, eMt0, eSl, oN, oS, sNil, sSeq, sExpr, sRet, sIf, sAsg, sPar, sSub, runF, Pat.bind, Pat.binds, gI, gNeg, gAdd, gIs, gIsN, gLen, gAbs, gTuple, gList, gApp, isL, gSet, gSetA, gIxA, gIx, gEq, gNe, eqA, eqS, AL.keyOf, eGet1, eGet2, eDic, gIn, List.getElem?_cons_zero, List.getElem?_cons_succ, List.getElem?_nil, List.set_cons_zero, List.set_cons_succ, List.map_cons, List.map_nil, List.append_eq, List.cons_append, List.nil_append, List.replicate_succ, List.replicate_zero, List.length_cons, List.length_nil, Option.bind_some, Option.bind_none, Option.map_some, Nat.reduceAdd, Nat.reduceSub, Nat.reduceLeDiff, if_true, ite_true, if_false, Bool.false_eq_true, reduceIte, id]
  simp only [ends_told_, ends_told_B, eLc, iSeq, wipeR, eV, eC, eB, eT, eU, eIf, eCh, eAnd, eOr, eNot, bAnd, bOr, bNot, bYes, aNil, aCons, eTup, eLst, eCall, eDef, eMt, eMt0, eSl, oN, oS, sNil, sSeq, sExpr, sRet, sIf, sAsg, sPar, sSub, runF, Pat.bind, Pat.binds, gI, gNeg, gAdd, gIs, gIsN, gLen, gAbs, gTuple, gList, gApp, isL, gSet, gSetA, gIxA, gIx, gEq, gNe, eqA, eqS, AL.keyOf, eGet1, eGet2, eDic, gIn, List.getElem?_cons_zero, List.getElem?_cons_succ, List.getElem?_nil, List.set_cons_zero, List.set_cons_succ, List.map_cons, List.map_nil, List.append_eq, List.cons_append, List.nil_append, List.replicate_succ, List.replicate_zero, List.length_cons, List.length_nil, Option.bind_some, Option.bind_none, Option.map_some, Nat.reduceAdd, Nat.reduceSub, Nat.reduceLeDiff, if_true, ite_true, if_false, Bool.false_eq_true, reduceIte, hr, step1, hS1, l1, step2, len1]
  rw [← hS1]
  simp
end K37
namespace K37
open PySem PySem.Spec PyProof.Rows L2 G Th AL
def leastO (acc : Option Fq) (x : Fq) : Option Fq := match acc with
  | none => some x
  | some g => if x.1 * g.2 < g.1 * x.2 then some x else some g
def least (qs : List Fq) : Option Fq := qs.foldl leastO none
theorem least_step (qs : List Fq) (i : Nat) (q : Fq) (h : qs[i]? = some q) : (qs.take (i + 1)).foldl leastO none = leastO ((qs.take i).foldl leastO none) q := by
  rw [List.take_add_one, h, List.foldl_append]
  rfl
theorem least_mem : ∀ (qs : List Fq) (acc : Option Fq) (x : Fq), qs.foldl leastO acc = some x → x ∈ qs ∨ acc = some x
  | [], acc, x, h => .inr h
  | q :: qs, acc, x, h => by
    rcases least_mem qs _ x h with h | h
    · exact .inl (List.mem_cons_of_mem _ h)
    · cases acc with
      | none =>
        cases h
        exact .inl (List.mem_cons_self ..)
      | some g =>
        simp only [leastO] at h
        split at h
        · cases h
          exact .inl (List.mem_cons_self ..)
        · exact .inr h
theorem least_eq {n : Nat} {qs : List Fq} {S : Sto} (hn : S[n]? = some (.lst (qs.map frV))) (hB : ∀ q ∈ qs, Bd q) : least_of_ [.ref n] S = some (oV (least qs), S) := by
  obtain ⟨ρ', S', e, rfl, y, rfl⟩ := forR_run (p := .nm 2) (g := sIf (bOr (eT (eB gIs (eV 1) (eC .non))) (eT (eDef is_below_ 2 (aCons (eV 2) (aCons (eV 1) aNil))))) (sAsg (.nm 1) (eV 2)) sNil) (ok := fun S' => S'[n]? = some (.lst (qs.map frV)))
    (fun i ρ S' => S' = S ∧ ∃ y, ρ = [some (.ref n), some (oV ((qs.take i).foldl leastO none)), y]) (vs := qs.map frV) (ρ := [some (.ref n), some .non, none]) (S := S) (fun i ρ S' h => by rw [h.1]; exact hn) ⟨rfl, none, rfl⟩ (fun i v ρ S' hv ⟨h1, y, h2⟩ => by
      subst h1 h2
      rw [List.getElem?_map] at hv
      obtain ⟨q, hq, rfl⟩ := Option.map_eq_some_iff.mp hv
      have bq := hB q (List.mem_of_getElem? hq)
      refine ⟨[some (.ref n), some (oV ((qs.take i).foldl leastO none)), some (frV q)], [some (.ref n), some (oV ((qs.take (i + 1)).foldl leastO none)), some (frV q)], _, rfl, ?_, rfl, _, rfl⟩
      rw [least_step qs i q hq]
      cases hacc : (qs.take i).foldl leastO none with
      | none => simp only [eV, eC, eB, eT, eU, eIf, eCh, eAnd, eOr, eNot, bAnd, bOr, bNot, bYes, aNil, aCons, eTup, eLst, eCall, eDef, eMt, eMt0, eSl, oN, oS, sNil, sSeq, sExpr, sRet, sIf, sAsg, sPar, sSub, runF, Pat.bind, Pat.binds, gI, gNeg, gAdd, gIs, gIsN, gLen, gAbs, gTuple, gList, gApp, isL, gSet, gSetA, gIxA, gIx, gEq, gNe, eqA, eqS, AL.keyOf, eGet1, eGet2, eDic, gIn, List.getElem?_cons_zero, List.getElem?_cons_succ, List.getElem?_nil, List.set_cons_zero, List.set_cons_succ, List.map_cons, List.map_nil, List.append_eq, List.cons_append, List.nil_append, List.replicate_succ, List.replicate_zero, List.length_cons, List.length_nil, Option.bind_some, Option.bind_none, Option.map_some, Nat.reduceAdd, Nat.reduceSub, Nat.reduceLeDiff, if_true, ite_true, if_false, Bool.false_eq_true, reduceIte, oV, isNon_non, leastO]
      | some g =>
        have bg : Bd g := by
          rcases least_mem _ _ _ hacc with m | m
          · exact hB g (List.mem_of_mem_take m)
          · cases m
        have e := is_below_eq (S := S') bq bg
        by_cases hc : q.1 * g.2 < g.1 * q.2
        · simp only [eV, eC, eB, eT, eU, eIf, eCh, eAnd, eOr, eNot, bAnd, bOr, bNot, bYes, aNil, aCons, eTup, eLst, eCall, eDef, eMt, eMt0, eSl, oN, oS, sNil, sSeq, sExpr, sRet, sIf, sAsg, sPar, sSub, runF, Pat.bind, Pat.binds, gI, gNeg, gAdd, gIs, gIsN, gLen, gAbs, gTuple, gList, gApp, isL, gSet, gSetA, gIxA, gIx, gEq, gNe, eqA, eqS, AL.keyOf, eGet1, eGet2, eDic, gIn, List.getElem?_cons_zero, List.getElem?_cons_succ, List.getElem?_nil, List.set_cons_zero, List.set_cons_succ, List.map_cons, List.map_nil, List.append_eq, List.cons_append, List.nil_append, List.replicate_succ, List.replicate_zero, List.length_cons, List.length_nil, Option.bind_some, Option.bind_none, Option.map_some, Nat.reduceAdd, Nat.reduceSub, Nat.reduceLeDiff, if_true, ite_true, if_false, Bool.false_eq_true, reduceIte, oV, isNon_frV, leastO, e, decide_eq_true hc, if_pos hc]
        · simp only [eV, eC, eB, eT, eU, eIf, eCh, eAnd, eOr, eNot, bAnd, bOr, bNot, bYes, aNil, aCons, eTup, eLst, eCall, eDef, eMt, eMt0, eSl, oN, oS, sNil, sSeq, sExpr, sRet, sIf, sAsg, sPar, sSub, runF, Pat.bind, Pat.binds, gI, gNeg, gAdd, gIs, gIsN, gLen, gAbs, gTuple, gList, gApp, isL, gSet, gSetA, gIxA, gIx, gEq, gNe, eqA, eqS, AL.keyOf, eGet1, eGet2, eDic, gIn, List.getElem?_cons_zero, List.getElem?_cons_succ, List.getElem?_nil, List.set_cons_zero, List.set_cons_succ, List.map_cons, List.map_nil, List.append_eq, List.cons_append, List.nil_append, List.replicate_succ, List.replicate_zero, List.length_cons, List.length_nil, Option.bind_some, Option.bind_none, Option.map_some, Nat.reduceAdd, Nat.reduceSub, Nat.reduceLeDiff, if_true, ite_true, if_false, Bool.false_eq_true, reduceIte, oV, isNon_frV, leastO, e, decide_eq_false hc, if_neg hc])
  simp only [least_of_, least_of_B, sFor, iSeq, eV, eC, eB, eT, eU, eIf, eCh, eAnd, eOr, eNot, bAnd, bOr, bNot, bYes, aNil, aCons, eTup, eLst, eCall, eDef, eMt, eMt0, eSl, oN, oS, sNil, sSeq, sExpr, sRet, sIf, sAsg, sPar, sSub, runF, Pat.bind, Pat.binds, gI, gNeg, gAdd, gIs, gIsN, gLen, gAbs, gTuple, gList, gApp, isL, gSet, gSetA, gIxA, gIx, gEq, gNe, eqA, eqS, AL.keyOf, eGet1, eGet2, eDic, gIn, List.getElem?_cons_zero, List.getElem?_cons_succ, List.getElem?_nil, List.set_cons_zero, List.set_cons_succ, List.map_cons, List.map_nil, List.append_eq, List.cons_append, List.nil_append, List.replicate_succ, List.replicate_zero, List.length_cons, List.length_nil, Option.bind_some, Option.bind_none, Option.map_some, Nat.reduceAdd, Nat.reduceSub, Nat.reduceLeDiff, if_true, ite_true, if_false, Bool.false_eq_true, reduceIte, hn, e]
  rw [List.length_map, List.take_length]
  rfl
def greatestO (acc : Option Fq) (x : Fq) : Option Fq := match acc with
  | none => some x
  | some g => if g.1 * x.2 < x.1 * g.2 then some x else some g
def greatest (qs : List Fq) : Option Fq := qs.foldl greatestO none
theorem greatest_step (qs : List Fq) (i : Nat) (q : Fq) (h : qs[i]? = some q) : (qs.take (i + 1)).foldl greatestO none = greatestO ((qs.take i).foldl greatestO none) q := by
  rw [List.take_add_one, h, List.foldl_append]
  rfl
theorem greatest_mem : ∀ (qs : List Fq) (acc : Option Fq) (x : Fq), qs.foldl greatestO acc = some x → x ∈ qs ∨ acc = some x
  | [], acc, x, h => .inr h
  | q :: qs, acc, x, h => by
    rcases greatest_mem qs _ x h with h | h
    · exact .inl (List.mem_cons_of_mem _ h)
    · cases acc with
      | none =>
        cases h
        exact .inl (List.mem_cons_self ..)
      | some g =>
        simp only [greatestO] at h
        split at h
        · cases h
          exact .inl (List.mem_cons_self ..)
        · exact .inr h
theorem greatest_eq {n : Nat} {qs : List Fq} {S : Sto} (hn : S[n]? = some (.lst (qs.map frV))) (hB : ∀ q ∈ qs, Bd q) : greatest_of_ [.ref n] S = some (oV (greatest qs), S) := by
  obtain ⟨ρ', S', e, rfl, y, rfl⟩ := forR_run (p := .nm 2) (g := sIf (bOr (eT (eB gIs (eV 1) (eC .non))) (eT (eDef is_below_ 2 (aCons (eV 1) (aCons (eV 2) aNil))))) (sAsg (.nm 1) (eV 2)) sNil) (ok := fun S' => S'[n]? = some (.lst (qs.map frV)))
    (fun i ρ S' => S' = S ∧ ∃ y, ρ = [some (.ref n), some (oV ((qs.take i).foldl greatestO none)), y]) (vs := qs.map frV) (ρ := [some (.ref n), some .non, none]) (S := S) (fun i ρ S' h => by rw [h.1]; exact hn) ⟨rfl, none, rfl⟩ (fun i v ρ S' hv ⟨h1, y, h2⟩ => by
      subst h1 h2
      rw [List.getElem?_map] at hv
      obtain ⟨q, hq, rfl⟩ := Option.map_eq_some_iff.mp hv
      have bq := hB q (List.mem_of_getElem? hq)
      refine ⟨[some (.ref n), some (oV ((qs.take i).foldl greatestO none)), some (frV q)], [some (.ref n), some (oV ((qs.take (i + 1)).foldl greatestO none)), some (frV q)], _, rfl, ?_, rfl, _, rfl⟩
      rw [greatest_step qs i q hq]
      cases hacc : (qs.take i).foldl greatestO none with
      | none => simp only [eV, eC, eB, eT, eU, eIf, eCh, eAnd, eOr, eNot, bAnd, bOr, bNot, bYes, aNil, aCons, eTup, eLst, eCall, eDef, eMt, eMt0, eSl, oN, oS, sNil, sSeq, sExpr, sRet, sIf, sAsg, sPar, sSub, runF, Pat.bind, Pat.binds, gI, gNeg, gAdd, gIs, gIsN, gLen, gAbs, gTuple, gList, gApp, isL, gSet, gSetA, gIxA, gIx, gEq, gNe, eqA, eqS, AL.keyOf, eGet1, eGet2, eDic, gIn, List.getElem?_cons_zero, List.getElem?_cons_succ, List.getElem?_nil, List.set_cons_zero, List.set_cons_succ, List.map_cons, List.map_nil, List.append_eq, List.cons_append, List.nil_append, List.replicate_succ, List.replicate_zero, List.length_cons, List.length_nil, Option.bind_some, Option.bind_none, Option.map_some, Nat.reduceAdd, Nat.reduceSub, Nat.reduceLeDiff, if_true, ite_true, if_false, Bool.false_eq_true, reduceIte, oV, isNon_non, greatestO]
      | some g =>
        have bg : Bd g := by
          rcases greatest_mem _ _ _ hacc with m | m
          · exact hB g (List.mem_of_mem_take m)
          · cases m
        have e := is_below_eq (S := S') bg bq
        by_cases hc : g.1 * q.2 < q.1 * g.2
        · simp only [eV, eC, eB, eT, eU, eIf, eCh, eAnd, eOr, eNot, bAnd, bOr, bNot, bYes, aNil, aCons, eTup, eLst, eCall, eDef, eMt, eMt0, eSl, oN, oS, sNil, sSeq, sExpr, sRet, sIf, sAsg, sPar, sSub, runF, Pat.bind, Pat.binds, gI, gNeg, gAdd, gIs, gIsN, gLen, gAbs, gTuple, gList, gApp, isL, gSet, gSetA, gIxA, gIx, gEq, gNe, eqA, eqS, AL.keyOf, eGet1, eGet2, eDic, gIn, List.getElem?_cons_zero, List.getElem?_cons_succ, List.getElem?_nil, List.set_cons_zero, List.set_cons_succ, List.map_cons, List.map_nil, List.append_eq, List.cons_append, List.nil_append, List.replicate_succ, List.replicate_zero, List.length_cons, List.length_nil, Option.bind_some, Option.bind_none, Option.map_some, Nat.reduceAdd, Nat.reduceSub, Nat.reduceLeDiff, if_true, ite_true, if_false, Bool.false_eq_true, reduceIte, oV, isNon_frV, greatestO, e, decide_eq_true hc, if_pos hc]
        · simp only [eV, eC, eB, eT, eU, eIf, eCh, eAnd, eOr, eNot, bAnd, bOr, bNot, bYes, aNil, aCons, eTup, eLst, eCall, eDef, eMt, eMt0, eSl, oN, oS, sNil, sSeq, sExpr, sRet, sIf, sAsg, sPar, sSub, runF, Pat.bind, Pat.binds, gI, gNeg, gAdd, gIs, gIsN, gLen, gAbs, gTuple, gList, gApp, isL, gSet, gSetA, gIxA, gIx, gEq, gNe, eqA, eqS, AL.keyOf, eGet1, eGet2, eDic, gIn, List.getElem?_cons_zero, List.getElem?_cons_succ, List.getElem?_nil, List.set_cons_zero, List.set_cons_succ, List.map_cons, List.map_nil, List.append_eq, List.cons_append, List.nil_append, List.replicate_succ, List.replicate_zero, List.length_cons, List.length_nil, Option.bind_some, Option.bind_none, Option.map_some, Nat.reduceAdd, Nat.reduceSub, Nat.reduceLeDiff, if_true, ite_true, if_false, Bool.false_eq_true, reduceIte, oV, isNon_frV, greatestO, e, decide_eq_false hc, if_neg hc])
  simp only [greatest_of_, greatest_of_B, sFor, iSeq, eV, eC, eB, eT, eU, eIf, eCh, eAnd, eOr, eNot, bAnd, bOr, bNot, bYes, aNil, aCons, eTup, eLst, eCall, eDef, eMt, eMt0, eSl, oN, oS, sNil, sSeq, sExpr, sRet, sIf, sAsg, sPar, sSub, runF, Pat.bind, Pat.binds, gI, gNeg, gAdd, gIs, gIsN, gLen, gAbs, gTuple, gList, gApp, isL, gSet, gSetA, gIxA, gIx, gEq, gNe, eqA, eqS, AL.keyOf, eGet1, eGet2, eDic, gIn, List.getElem?_cons_zero, List.getElem?_cons_succ, List.getElem?_nil, List.set_cons_zero, List.set_cons_succ, List.map_cons, List.map_nil, List.append_eq, List.cons_append, List.nil_append, List.replicate_succ, List.replicate_zero, List.length_cons, List.length_nil, Option.bind_some, Option.bind_none, Option.map_some, Nat.reduceAdd, Nat.reduceSub, Nat.reduceLeDiff, if_true, ite_true, if_false, Bool.false_eq_true, reduceIte, hn, e]
  rw [List.length_map, List.take_length]
  rfl
def driftOf (fl : Fl) (n : Str) : Option Hs := fl.hs.find? fun h => decide (h.name = n)
def drV : Option Hs → Val
  | none => .non
  | some h => .tup [frV h.slow, frV h.fast]
theorem drift_eq {fl : Fl} {n : Str} {S : Sto} : drift_of_ [flV fl, .str n] S = some (drV (driftOf fl n), S) := by
  have go : ∀ (hs : List Hs) (y1 y2 y3 : Option Val), (∃ ρ', forR (.tp [(.nm 2), (.nm 3), (.nm 4)]) (sIf (eT (eB gEq (eV 2) (eV 1))) (sRet (eTup (aCons (eV 3) (aCons (eV 4) aNil)))) sNil) (fun _ => True) (hs.map hsV) [some (flV fl), some (.str n), y1, y2, y3] S = .nx ρ' S ∧ hs.find? (fun h => decide (h.name = n)) = none) ∨
      ∃ h, forR (.tp [(.nm 2), (.nm 3), (.nm 4)]) (sIf (eT (eB gEq (eV 2) (eV 1))) (sRet (eTup (aCons (eV 3) (aCons (eV 4) aNil)))) sNil) (fun _ => True) (hs.map hsV) [some (flV fl), some (.str n), y1, y2, y3] S = .rt (.tup [frV h.slow, frV h.fast]) S ∧ hs.find? (fun h => decide (h.name = n)) = some h := by
    intro hs
    induction hs with
    | nil => intro y1 y2 y3; exact .inl ⟨_, forR_nil trivial, rfl⟩
    | cons h hs ih =>
      intro y1 y2 y3
      rw [List.map_cons, forR_cons (ρ1 := [some (flV fl), some (.str n), some (.str h.name), some (frV h.slow), some (frV h.fast)]) trivial rfl]
      by_cases e : h.name = n
      · refine .inr ⟨h, ?_, by simp [List.find?_cons, e]⟩
        simp only [eV, eC, eB, eT, eU, eIf, eCh, eAnd, eOr, eNot, bAnd, bOr, bNot, bYes, aNil, aCons, eTup, eLst, eCall, eDef, eMt, eMt0, eSl, oN, oS, sNil, sSeq, sExpr, sRet, sIf, sAsg, sPar, sSub, runF, Pat.bind, Pat.binds, gI, gNeg, gAdd, gIs, gIsN, gLen, gAbs, gTuple, gList, gApp, isL, gSet, gSetA, gIxA, gIx, gEq, gNe, eqA, eqS, AL.keyOf, eGet1, eGet2, eDic, gIn, List.getElem?_cons_zero, List.getElem?_cons_succ, List.getElem?_nil, List.set_cons_zero, List.set_cons_succ, List.map_cons, List.map_nil, List.append_eq, List.cons_append, List.nil_append, List.replicate_succ, List.replicate_zero, List.length_cons, List.length_nil, Option.bind_some, Option.bind_none, Option.map_some, Nat.reduceAdd, Nat.reduceSub, Nat.reduceLeDiff, if_true, ite_true, if_false, Bool.false_eq_true, reduceIte, decide_eq_true e]
      · simp only [eV, eC, eB, eT, eU, eIf, eCh, eAnd, eOr, eNot, bAnd, bOr, bNot, bYes, aNil, aCons, eTup, eLst, eCall, eDef, eMt, eMt0, eSl, oN, oS, sNil, sSeq, sExpr, sRet, sIf, sAsg, sPar, sSub, runF, Pat.bind, Pat.binds, gI, gNeg, gAdd, gIs, gIsN, gLen, gAbs, gTuple, gList, gApp, isL, gSet, gSetA, gIxA, gIx, gEq, gNe, eqA, eqS, AL.keyOf, eGet1, eGet2, eDic, gIn, List.getElem?_cons_zero, List.getElem?_cons_succ, List.getElem?_nil, List.set_cons_zero, List.set_cons_succ, List.map_cons, List.map_nil, List.append_eq, List.cons_append, List.nil_append, List.replicate_succ, List.replicate_zero, List.length_cons, List.length_nil, Option.bind_some, Option.bind_none, Option.map_some, Nat.reduceAdd, Nat.reduceSub, Nat.reduceLeDiff, if_true, ite_true, if_false, Bool.false_eq_true, reduceIte, decide_eq_false e, List.find?_cons]
        exact ih _ _ _
  unfold driftOf
  rcases go fl.hs none none none with ⟨ρ', e, f⟩ | ⟨h, e, f⟩
  · rw [f]
    simp only [flV] at e
    simp only [drift_of_, drift_of_B, sFor, iSeq, flV, eV, eC, eB, eT, eU, eIf, eCh, eAnd, eOr, eNot, bAnd, bOr, bNot, bYes, aNil, aCons, eTup, eLst, eCall, eDef, eMt, eMt0, eSl, oN, oS, sNil, sSeq, sExpr, sRet, sIf, sAsg, sPar, sSub, runF, Pat.bind, Pat.binds, gI, gNeg, gAdd, gIs, gIsN, gLen, gAbs, gTuple, gList, gApp, isL, gSet, gSetA, gIxA, gIx, gEq, gNe, eqA, eqS, AL.keyOf, eGet1, eGet2, eDic, gIn, List.getElem?_cons_zero, List.getElem?_cons_succ, List.getElem?_nil, List.set_cons_zero, List.set_cons_succ, List.map_cons, List.map_nil, List.append_eq, List.cons_append, List.nil_append, List.replicate_succ, List.replicate_zero, List.length_cons, List.length_nil, Option.bind_some, Option.bind_none, Option.map_some, Nat.reduceAdd, Nat.reduceSub, Nat.reduceLeDiff, if_true, ite_true, if_false, Bool.false_eq_true, reduceIte, at0, e, drV]
  · rw [f]
    simp only [flV] at e
    simp only [drift_of_, drift_of_B, sFor, iSeq, flV, eV, eC, eB, eT, eU, eIf, eCh, eAnd, eOr, eNot, bAnd, bOr, bNot, bYes, aNil, aCons, eTup, eLst, eCall, eDef, eMt, eMt0, eSl, oN, oS, sNil, sSeq, sExpr, sRet, sIf, sAsg, sPar, sSub, runF, Pat.bind, Pat.binds, gI, gNeg, gAdd, gIs, gIsN, gLen, gAbs, gTuple, gList, gApp, isL, gSet, gSetA, gIxA, gIx, gEq, gNe, eqA, eqS, AL.keyOf, eGet1, eGet2, eDic, gIn, List.getElem?_cons_zero, List.getElem?_cons_succ, List.getElem?_nil, List.set_cons_zero, List.set_cons_succ, List.map_cons, List.map_nil, List.append_eq, List.cons_append, List.nil_append, List.replicate_succ, List.replicate_zero, List.length_cons, List.length_nil, Option.bind_some, Option.bind_none, Option.map_some, Nat.reduceAdd, Nat.reduceSub, Nat.reduceLeDiff, if_true, ite_true, if_false, Bool.false_eq_true, reduceIte, at0, e, drV]
end K37
namespace K37
open PySem PySem.Spec PyProof.Rows L2 G Th AL
theorem seq {g1 g2 : SF} {ρ ρ1 : Rho} {S S1 : Sto} (h : g1 ρ S = .nx ρ1 S1) : sSeq g1 g2 ρ S = g2 ρ1 S1 := by
  unfold sSeq
  rw [h]
theorem run_rt {n : Nat} {g : SF} {vs : List Val} {S S' : Sto} {v : Val} (h : g (vs.map some ++ List.replicate (n - vs.length) none) S = .rt v S') : runF n g vs S = some (v, S') := by
  unfold runF
  rw [h]
def dEv : Ev := ⟨"a", (0, 1), .mark⟩
def linkAt (fl : Fl) (es : List Ev) (k : Nat) : Option Lk := match (es.getD k dEv).deed with
  | .send l => fl.ls[l]?
  | _ => none
def mv1 (fl : Fl) (es : List Ev) (last : Option Nat) (e : Ev) : List Mv := match last, driftOf fl e.name with
  | some j, some h => [⟨j, Fr.div (Fr.sub e.stamp (es.getD j dEv).stamp) h.fast, some (Fr.div (Fr.sub e.stamp (es.getD j dEv).stamp) h.slow)⟩]
  | _, _ => []
def mv2 (fl : Fl) (es : List Ev) : Dd → List Mv
  | .hear k => match linkAt fl es k with
    | some l => [⟨k, l.least, l.most⟩]
    | none => []
  | _ => []
def movesInto (fl : Fl) (es : List Ev) (last : Option Nat) (e : Ev) : List Mv := mv1 fl es last e ++ mv2 fl es e.deed
def lastV : Option Nat → Val
  | none => .non
  | some j => .int (j : Nat)
theorem sl_lk {l : Lk} {S : Sto} : gSl (lkV l) (some 2) none S = some (.tup [frV l.least, oV l.most], S) := by
  have h : ¬ (HT.sIx 4 0 (some 2) = 0 ∧ HT.sIx 4 4 none = 4) := by decide
  show (if ¬ (HT.sIx 4 0 (some 2) = 0 ∧ HT.sIx 4 4 none = 4) then some (Val.tup (cutL [Val.str l.fr, .str l.to, frV l.least, oV l.most] (some 2) none), S) else none) = _
  rw [if_pos h]
  rfl
structure LastOk (fl : Fl) (es : List Ev) (e : Ev) (j : Nat) : Prop where
  lt : j < es.length
  h : ∃ h, driftOf fl e.name = some h ∧ 0 < h.fast.1 ∧ 0 < h.slow.1 ∧ Bd h.fast ∧ Bd h.slow
  st : Bd e.stamp
  so : Bd (es.getD j dEv).stamp
  go : Bd (Fr.sub e.stamp (es.getD j dEv).stamp)
structure HearOk (fl : Fl) (es : List Ev) (k : Nat) : Prop where
  lt : k < es.length
  h : ∃ l lk, (es.getD k dEv).deed = .send l ∧ fl.ls[l]? = some lk
theorem getD_get {es : List Ev} {j : Nat} (h : j < es.length) : es[j]? = some (es.getD j dEv) := by simp [List.getD, List.getElem?_eq_getElem h]
end K37
namespace K37
open PySem PySem.Spec PyProof.Rows L2 G Th AL
theorem valA_put (d : List (Key × Val)) (k k' : Key) (v : Val) : valA (putA d k v) k' = if k' = k then some v else valA d k' := by
  unfold putA
  split
  · next h =>
    induction d with
    | nil => simp at h
    | cons p d ih =>
      rw [List.map_cons]
      by_cases e : p.1 = k
      · by_cases e2 : k' = k
        · subst e2
          simp [valA, List.find?_cons, e]
        · have e3 : ¬ k = k' := fun z => e2 z.symm
          have e4 : ¬ p.1 = k' := fun z => e2 (z.symm.trans e)
          simp only [valA, List.find?_cons, e, if_true, e3, decide_false, if_neg e2]
          by_cases h' : (d.any fun kv => decide (kv.1 = k)) = true
          · have := ih h'
            simp only [valA, if_neg e2] at this
            exact this
          · have nm : d.map (fun kv => if kv.1 = k then (kv.1, v) else kv) = d := by
              conv => rhs; rw [← List.map_id d]
              apply List.map_congr_left
              intro q hq
              have : ¬ q.1 = k := fun z => h' (List.any_eq_true.mpr ⟨q, hq, decide_eq_true z⟩)
              simp [this]
            rw [nm]
      · have h' : (d.any fun kv => decide (kv.1 = k)) = true := by
          rw [List.any_cons, decide_eq_false e, Bool.false_or] at h
          exact h
        have := ih h'
        simp only [valA] at this
        by_cases e2 : p.1 = k'
        · have e3 : ¬ k' = k := fun z => e (e2.trans z)
          simp [valA, List.find?_cons, e, e2, e3]
        · simp only [valA, List.find?_cons, e, if_false, e2, decide_false]
          exact this
  · next h =>
    unfold valA
    rw [List.find?_append]
    by_cases e : k' = k
    · subst e
      have nn : d.find? (fun kv => decide (kv.1 = k')) = none := by
        rw [List.find?_eq_none]
        intro x hx hd
        exact h (List.any_eq_true.mpr ⟨x, hx, hd⟩)
      simp [nn]
    · have e3 : ¬ k = k' := fun z => e z.symm
      simp only [List.find?_cons, e3, decide_false, List.find?_nil, Option.or_none, if_neg e]
theorem putA_len (d : List (Key × Val)) (k : Key) (v : Val) : (putA d k v).length ≤ d.length + 1 := by
  unfold putA
  split <;> simp
def lastAt (es : List Ev) : Nat → Str → Option Nat
  | 0, _ => none
  | i + 1, n => if (es.getD i dEv).name = n then some i else lastAt es i n
theorem lastAt_lt {es : List Ev} {n : Str} : ∀ {i j : Nat}, lastAt es i n = some j → j < i
  | 0, _, h => by cases h
  | i + 1, j, h => by
    unfold lastAt at h
    split at h
    · cases h; omega
    · have := lastAt_lt h; omega
theorem lastAt_name {es : List Ev} {n : Str} : ∀ {i j : Nat}, lastAt es i n = some j → (es.getD j dEv).name = n
  | 0, _, h => by cases h
  | i + 1, j, h => by
    unfold lastAt at h
    split at h
    · next e => cases h; exact e
    · exact lastAt_name h
def row (fl : Fl) (es : List Ev) (i : Nat) : List Mv := movesInto fl es (lastAt es i (es.getD i dEv).name) (es.getD i dEv)
structure RowOk (fl : Fl) (es : List Ev) (i : Nat) : Prop where
  l : ∀ j, lastAt es i (es.getD i dEv).name = some j → LastOk fl es (es.getD i dEv) j
  d : ∀ k, (es.getD i dEv).deed = .hear k → HearOk fl es k ∧ k < i
end K37
local macro_rules | `(tactic| array_mem_dec) => `(tactic| first | assumption | (refine AL.Kn.at (by assumption) ?_; array_mem_dec) | (refine AL.Kx.at (by assumption) (by omega) ?_; array_mem_dec))
local macro_rules | `(tactic| sizeOf_list_dec) => `(tactic| ((with_reducible refine AL.brF ?_ ?_); exact rfl))
local macro_rules | `(tactic| sizeOf_list_dec) => `(tactic| ((with_reducible refine AL.brT ?_ ?_); exact rfl))
local macro_rules | `(tactic| sizeOf_list_dec) => `(tactic| ((with_reducible refine AL.sd ?_ ?_); first | exact rfl | exact of_decide_eq_true rfl | exact AL.isL_of (by array_mem_dec) | exact ⟨rfl, rfl⟩))
local macro_rules | `(tactic| sizeOf_list_dec) => `(tactic| ((with_reducible apply AL.bn); rfl; try dsimp only [List.set_cons_zero, List.set_cons_succ]))
local macro_rules | `(tactic| sizeOf_list_dec) => `(tactic| ((with_reducible apply AL.ti); rfl))
local macro_rules | `(tactic| sizeOf_list_dec) => `(tactic| ((with_reducible apply AL.tb); rfl))
local macro_rules | `(tactic| sizeOf_list_dec) => `(tactic| ((with_reducible apply AL.vIxL); rfl; rfl; array_mem_dec; rfl))
local macro_rules | `(tactic| sizeOf_list_dec) => `(tactic| ((with_reducible apply AL.vTupL); rfl; array_mem_dec))
local macro_rules | `(tactic| sizeOf_list_dec) => `(tactic| ((with_reducible apply AL.vLenL); rfl; array_mem_dec))
local macro_rules | `(tactic| sizeOf_list_dec) => `(tactic| ((with_reducible apply AL.vLenT); rfl))
local macro_rules | `(tactic| sizeOf_list_dec) => `(tactic| ((with_reducible apply AL.vMod); rfl; rfl))
local macro_rules | `(tactic| sizeOf_list_dec) => `(tactic| ((with_reducible apply AL.vDiv); rfl; rfl))
local macro_rules | `(tactic| sizeOf_list_dec) => `(tactic| ((with_reducible apply AL.vMul); rfl; rfl))
local macro_rules | `(tactic| sizeOf_list_dec) => `(tactic| ((with_reducible apply AL.vAbs); rfl))
local macro_rules | `(tactic| sizeOf_list_dec) => `(tactic| ((with_reducible apply AL.vNeg); rfl))
local macro_rules | `(tactic| sizeOf_list_dec) => `(tactic| ((with_reducible apply AL.vNe); rfl))
local macro_rules | `(tactic| sizeOf_list_dec) => `(tactic| ((with_reducible apply AL.vEq); rfl))
local macro_rules | `(tactic| sizeOf_list_dec) => `(tactic| ((with_reducible apply AL.vIsN); rfl))
local macro_rules | `(tactic| sizeOf_list_dec) => `(tactic| ((with_reducible apply AL.vIsi); rfl; first | exact AL.kit_int_int | exact AL.kit_int_bool | exact AL.kit_tuple_tuple | exact AL.kit_str_str | exact AL.kit_bool_bool | exact AL.kit_NoneType_tuple | exact AL.kit_NoneType_int | exact AL.kit_int_tuple | exact AL.kit_str_int | exact AL.kit_tuple_int))
local macro_rules | `(tactic| sizeOf_list_dec) => `(tactic| ((with_reducible apply AL.vIsNT); rfl; rfl))
local macro_rules | `(tactic| sizeOf_list_dec) => `(tactic| ((with_reducible apply AL.vIsT); rfl; rfl))
local macro_rules | `(tactic| sizeOf_list_dec) => `(tactic| ((with_reducible apply AL.vIs); rfl))
local macro_rules | `(tactic| sizeOf_list_dec) => `(tactic| ((with_reducible apply AL.vAdd); rfl; rfl))
local macro_rules | `(tactic| sizeOf_list_dec) => `(tactic| ((with_reducible apply AL.vI); rfl; rfl))
local macro_rules | `(tactic| sizeOf_list_dec) => `(tactic| ((with_reducible apply AL.vIxT); rfl; rfl; rfl))
local macro_rules | `(tactic| sizeOf_list_dec) => `(tactic| with_reducible refine AL.wiT ?_)
local macro_rules | `(tactic| sizeOf_list_dec) => `(tactic| with_reducible refine AL.wiE ?_)
local macro_rules | `(tactic| sizeOf_list_dec) => `(tactic| with_reducible refine AL.wiR2 ?_)
local macro_rules | `(tactic| sizeOf_list_dec) => `(tactic| with_reducible refine AL.wiR ?_)
local macro_rules | `(tactic| sizeOf_list_dec) => `(tactic| with_reducible refine AL.vGet2 ?_)
local macro_rules | `(tactic| sizeOf_list_dec) => `(tactic| with_reducible refine AL.vGet1 ?_)
local macro_rules | `(tactic| sizeOf_list_dec) => `(tactic| with_reducible refine AL.woS ?_)
local macro_rules | `(tactic| sizeOf_list_dec) => `(tactic| with_reducible refine AL.woN ?_)
local macro_rules | `(tactic| sizeOf_list_dec) => `(tactic| with_reducible refine AL.wSl ?_)
local macro_rules | `(tactic| sizeOf_list_dec) => `(tactic| with_reducible refine AL.wLc ?_)
local macro_rules | `(tactic| sizeOf_list_dec) => `(tactic| with_reducible refine AL.wDic ?_)
local macro_rules | `(tactic| sizeOf_list_dec) => `(tactic| with_reducible refine AL.wU ?_)
local macro_rules | `(tactic| sizeOf_list_dec) => `(tactic| with_reducible refine AL.weCh ?_)
local macro_rules | `(tactic| sizeOf_list_dec) => `(tactic| with_reducible refine AL.weI ?_)
local macro_rules | `(tactic| sizeOf_list_dec) => `(tactic| with_reducible refine AL.weN ?_)
local macro_rules | `(tactic| sizeOf_list_dec) => `(tactic| with_reducible refine AL.weO ?_)
local macro_rules | `(tactic| sizeOf_list_dec) => `(tactic| with_reducible refine AL.weA ?_)
local macro_rules | `(tactic| sizeOf_list_dec) => `(tactic| with_reducible refine AL.wbY ?_)
local macro_rules | `(tactic| sizeOf_list_dec) => `(tactic| with_reducible refine AL.wbN ?_)
local macro_rules | `(tactic| sizeOf_list_dec) => `(tactic| with_reducible refine AL.wbO ?_)
local macro_rules | `(tactic| sizeOf_list_dec) => `(tactic| with_reducible refine AL.wbA ?_)
local macro_rules | `(tactic| sizeOf_list_dec) => `(tactic| with_reducible refine AL.ws_nil ?_)
local macro_rules | `(tactic| sizeOf_list_dec) => `(tactic| with_reducible refine AL.ws_for ?_)
local macro_rules | `(tactic| sizeOf_list_dec) => `(tactic| with_reducible refine AL.ws_sub ?_)
local macro_rules | `(tactic| sizeOf_list_dec) => `(tactic| with_reducible refine AL.ws_par ?_)
local macro_rules | `(tactic| sizeOf_list_dec) => `(tactic| with_reducible refine AL.ws_expr ?_)
local macro_rules | `(tactic| sizeOf_list_dec) => `(tactic| with_reducible refine AL.wMt ?_)
local macro_rules | `(tactic| sizeOf_list_dec) => `(tactic| with_reducible refine AL.wLst ?_)
local macro_rules | `(tactic| sizeOf_list_dec) => `(tactic| with_reducible refine AL.wTup ?_)
local macro_rules | `(tactic| sizeOf_list_dec) => `(tactic| with_reducible refine AL.wiZ ?_)
local macro_rules | `(tactic| sizeOf_list_dec) => `(tactic| with_reducible refine AL.wDefK ?_)
local macro_rules | `(tactic| sizeOf_list_dec) => `(tactic| with_reducible refine AL.wCall ?_)
local macro_rules | `(tactic| sizeOf_list_dec) => `(tactic| with_reducible refine AL.wDef ?_)
local macro_rules | `(tactic| sizeOf_list_dec) => `(tactic| with_reducible refine AL.wT ?_)
local macro_rules | `(tactic| sizeOf_list_dec) => `(tactic| with_reducible refine AL.ws_ret ?_)
local macro_rules | `(tactic| sizeOf_list_dec) => `(tactic| with_reducible refine AL.ws_if ?_)
local macro_rules | `(tactic| sizeOf_list_dec) => `(tactic| with_reducible refine AL.ws_asg ?_)
local macro_rules | `(tactic| sizeOf_list_dec) => `(tactic| with_reducible refine AL.wa0 ?_)
local macro_rules | `(tactic| sizeOf_list_dec) => `(tactic| with_reducible refine AL.wa1 ?_)
local macro_rules | `(tactic| sizeOf_list_dec) => `(tactic| with_reducible refine AL.wc ?_)
local macro_rules | `(tactic| sizeOf_list_dec) => `(tactic| with_reducible refine AL.wB ?_)
local macro_rules | `(tactic| sizeOf_list_dec) => `(tactic| ((with_reducible apply AL.wv); rfl))
local macro_rules | `(tactic| sizeOf_list_dec) => `(tactic| with_reducible refine AL.ws_seq ?_)
local macro_rules | `(tactic| array_get_dec) => `(tactic| repeat sizeOf_list_dec)
namespace K37
open PySem PySem.Spec PyProof.Rows L2 G Th AL
def keptOf (fl : Fl) (e : Ev) (ms : List Mv) (ps : List Pr) : Pr := if e.name = fl.src then (some e.stamp, some e.stamp) else (greatest (ms.filterMap (endOf ps false)), least (ms.filterMap (endOf ps true)))
theorem kept_pair_eq {fl : Fl} {e : Ev} {ms : List Mv} {ps : List Pr} {r n : Nat} {S : Sto} (hr : S[r]? = some (.lst (ms.map mvV))) (hn : S[n]? = some (.lst (ps.map prV))) (hl : ms.length ≤ 1000) (ok : ∀ m ∈ ms, MvOk ps m) (hB : ∀ b, ∀ q ∈ ms.filterMap (endOf ps b), Bd q) :
    ∃ S', kept_pair_ [flV fl, evV e, .ref r, .ref n] S = some (prV (keptOf fl e ms ps), S') ∧ Kn S S' := by
  unfold keptOf
  by_cases hs : e.name = fl.src
  · refine ⟨S, ?_, Kn.refl _⟩
    rw [if_pos hs]
    refine run_rt ?_
    simp only [kept_pair_B, eV, eC, eB, eT, eU, eIf, eCh, eAnd, eOr, eNot, bAnd, bOr, bNot, bYes, aNil, aCons, eTup, eLst, eCall, eDef, eMt, eMt0, eSl, oN, oS, sNil, sSeq, sExpr, sRet, sIf, sAsg, sPar, sSub, runF, Pat.bind, Pat.binds, gI, gNeg, gAdd, gIs, gIsN, gLen, gAbs, gTuple, gList, gSet, gSetA, gIxA, gIx, gEq, gNe, eqA, eqS, AL.keyOf, eGet1, eGet2, eDic, gIn, List.getElem?_cons_zero, List.getElem?_cons_succ, List.getElem?_nil, List.set_cons_zero, List.set_cons_succ, List.map_cons, List.map_nil, List.append_eq, List.cons_append, List.nil_append, List.replicate_succ, List.replicate_zero, List.length_cons, List.length_nil, Option.bind_some, Option.bind_none, Option.map_some, Nat.reduceAdd, Nat.reduceSub, Nat.reduceLeDiff, if_true, ite_true, if_false, Bool.false_eq_true, reduceIte, evV, flV, at2, decide_eq_true hs, prV, oV]
  · rw [if_neg hs]
    have e0 := ends_eq (b := false) hr hn hl ok
    generalize hS1 : S ++ [Ob.lst (ms.map fun m => oV (endOf ps false m)), .lst ((ms.filterMap (endOf ps false)).map frV)] = S1 at e0
    have k1 : Kn S S1 := by rw [← hS1]; exact Kn.app _ _
    have l1 : S1[S.length + 1]? = some (.lst ((ms.filterMap (endOf ps false)).map frV)) := by
      rw [← hS1, List.getElem?_append_right (by omega)]
      simp
    have g1 := greatest_eq l1 (hB false)
    have e1 := ends_eq (b := true) (k1 _ _ hr) (k1 _ _ hn) hl ok
    generalize hS2 : S1 ++ [Ob.lst (ms.map fun m => oV (endOf ps true m)), .lst ((ms.filterMap (endOf ps true)).map frV)] = S2 at e1
    have k2 : Kn S1 S2 := by rw [← hS2]; exact Kn.app _ _
    have l2 : S2[S1.length + 1]? = some (.lst ((ms.filterMap (endOf ps true)).map frV)) := by
      rw [← hS2, List.getElem?_append_right (by omega)]
      simp
    have g2 := least_eq l2 (hB true)
    refine ⟨S2, ?_, k1.trans k2⟩
    simp only [sI, Bool.false_eq_true, if_false, if_true] at e0 e1
    refine run_rt ?_
    simp only [kept_pair_B, eV, eC, eB, eT, eU, eIf, eCh, eAnd, eOr, eNot, bAnd, bOr, bNot, bYes, aNil, aCons, eTup, eLst, eCall, eDef, eMt, eMt0, eSl, oN, oS, sNil, sSeq, sExpr, sRet, sIf, sAsg, sPar, sSub, runF, Pat.bind, Pat.binds, gI, gNeg, gAdd, gIs, gIsN, gLen, gAbs, gTuple, gList, gSet, gSetA, gIxA, gIx, gEq, gNe, eqA, eqS, AL.keyOf, eGet1, eGet2, eDic, gIn, List.getElem?_cons_zero, List.getElem?_cons_succ, List.getElem?_nil, List.set_cons_zero, List.set_cons_succ, List.map_cons, List.map_nil, List.append_eq, List.cons_append, List.nil_append, List.replicate_succ, List.replicate_zero, List.length_cons, List.length_nil, Option.bind_some, Option.bind_none, Option.map_some, Nat.reduceAdd, Nat.reduceSub, Nat.reduceLeDiff, if_true, ite_true, if_false, Bool.false_eq_true, reduceIte, evV, flV, at2, decide_eq_false hs, e0, g1, e1, g2, prV]
def pairsUp (fl : Fl) (es : List Ev) : Nat → List Pr
  | 0 => []
  | i + 1 => pairsUp fl es i ++ [keptOf fl (es.getD i dEv) (row fl es i) (pairsUp fl es i)]
theorem pairsUp_len (fl : Fl) (es : List Ev) : ∀ i, (pairsUp fl es i).length = i
  | 0 => rfl
  | i + 1 => by rw [pairsUp, List.length_append, pairsUp_len fl es i]; rfl
structure HiOk (fl : Fl) (es : List Ev) : Prop where
  len : es.length ≤ 30
  rows : ∀ i, i < es.length → RowOk fl es i
  mv : ∀ i, i < es.length → ∀ m ∈ K37.row fl es i, MvOk (pairsUp fl es i) m
  bd : ∀ i, i < es.length → ∀ b, ∀ q ∈ (K37.row fl es i).filterMap (endOf (pairsUp fl es i) b), Bd q
  all : ∀ i, i ≤ es.length → ∀ p ∈ pairsUp fl es i, ∀ b, BdO (sel b p)
end K37
namespace K37
open PySem PySem.Spec PyProof.Rows L2 G Th AL
theorem merge_val : ∀ (kvs acc : List (Key × Val)) (k : Key), (kvs.map (·.1)).Nodup → valA (mergeA acc kvs) k = ((kvs.find? fun kv => decide (kv.1 = k)).map (·.2)).or (valA acc k)
  | [], acc, k, _ => by simp [mergeA]
  | p :: r, acc, k, h => by
    rw [List.map_cons, List.nodup_cons] at h
    have e : mergeA acc (p :: r) = mergeA (putA acc p.1 p.2) r := rfl
    rw [e, merge_val r _ k h.2, valA_put]
    by_cases z : p.1 = k
    · have nn : r.find? (fun kv => decide (kv.1 = k)) = none := by
        rw [List.find?_eq_none]
        intro x hx hd
        exact h.1 (List.mem_map.mpr ⟨x, hx, (of_decide_eq_true hd).trans z.symm⟩)
      simp [List.find?_cons, z, nn]
    · have z2 : ¬ k = p.1 := fun q => z q.symm
      simp only [List.find?_cons, z, decide_false, z2, if_false]

def l1 (fl : Fl) (es : List Ev) (ps : List Pr) (b : Bool) (i : Nat) : Option Fq := ((mv1 fl es (lastAt es i (es.getD i dEv).name) (es.getD i dEv)).filterMap (endOf ps b)).head?
def up2 (a b : Option Fq) (c : Fq → Fq → Bool) : Option Fq := match a, b with
  | none, b => b
  | some a, none => some a
  | some a, some b => if c a b then some b else some a
def ltF (a b : Fq) : Bool := decide (a.1 * b.2 < b.1 * a.2)
theorem two_great (a b : Option Fq) : greatest (a.toList ++ b.toList) = up2 a b ltF := by
  cases a <;> cases b <;> simp [greatest, greatestO, up2, ltF]
theorem two_least (a b : Option Fq) : least (a.toList ++ b.toList) = up2 a b fun a b => ltF b a := by
  cases a <;> cases b <;> simp [least, leastO, up2, ltF]
end K37
namespace K37
open PySem PySem.Spec PyProof.Rows L2 G Th AL
def a1 (fl : Fl) (es : List Ev) (i : Nat) (b : Bool) : Option Fq := match lastAt es i (es.getD i dEv).name, driftOf fl (es.getD i dEv).name with
  | some j, some h => endOf (pairsUp fl es i) b ⟨j, Fr.div (Fr.sub (es.getD i dEv).stamp (es.getD j dEv).stamp) h.fast, some (Fr.div (Fr.sub (es.getD i dEv).stamp (es.getD j dEv).stamp) h.slow)⟩
  | _, _ => none
def a2 (fl : Fl) (es : List Ev) (i : Nat) (b : Bool) : Option Fq := match (es.getD i dEv).deed with
  | .hear k => match linkAt fl es k with
    | some l => endOf (pairsUp fl es i) b ⟨k, l.least, l.most⟩
    | none => none
  | _ => none
theorem ends_two (fl : Fl) (es : List Ev) (i : Nat) (b : Bool) : (row fl es i).filterMap (endOf (pairsUp fl es i) b) = (a1 fl es i b).toList ++ (a2 fl es i b).toList := by
  unfold row movesInto mv1 mv2 a1 a2
  rw [List.filterMap_append]
  have fm1 : ∀ m : Mv, [m].filterMap (endOf (pairsUp fl es i) b) = (endOf (pairsUp fl es i) b m).toList := fun m => by
    rw [List.filterMap_cons]
    cases endOf (pairsUp fl es i) b m <;> rfl
  congr 1
  · cases lastAt es i (es.getD i dEv).name with
    | none => rfl
    | some j =>
      cases driftOf fl (es.getD i dEv).name with
      | none => rfl
      | some h => exact fm1 _
  · cases (es.getD i dEv).deed with
    | mark => rfl
    | send l => rfl
    | hear k =>
      dsimp only
      cases linkAt fl es k with
      | none => rfl
      | some l => exact fm1 _
def nextP (fl : Fl) (es : List Ev) (i : Nat) : Pr := if (es.getD i dEv).name = fl.src then (some (es.getD i dEv).stamp, some (es.getD i dEv).stamp) else (up2 (a1 fl es i false) (a2 fl es i false) ltF, up2 (a1 fl es i true) (a2 fl es i true) fun a b => ltF b a)
theorem next_eq (fl : Fl) (es : List Ev) (i : Nat) : keptOf fl (es.getD i dEv) (row fl es i) (pairsUp fl es i) = nextP fl es i := by
  unfold keptOf nextP
  rw [ends_two, ends_two, two_great, two_least]
section
variable {fl : Fl} {es : List Ev} {i : Nat} {A B C : Nat} {T : Sto} {h : Hs} {d : List (Key × Val)}
theorem mem_a1 {e : Ev} (he : es.getD i dEv = e) {j : Nat} (hj : lastAt es i e.name = some j) (hh : driftOf fl e.name = some h) : (⟨j, Fr.div (Fr.sub e.stamp (es.getD j dEv).stamp) h.fast, some (Fr.div (Fr.sub e.stamp (es.getD j dEv).stamp) h.slow)⟩ : Mv) ∈ row fl es i := by
  unfold row movesInto mv1
  rw [he, hj, hh]
  simp
theorem mem_a2 {e : Ev} (he : es.getD i dEv = e) {k : Nat} {l : Lk} (hk : e.deed = .hear k) (hl : linkAt fl es k = some l) : (⟨k, l.least, l.most⟩ : Mv) ∈ row fl es i := by
  unfold row movesInto mv2
  rw [he, hk]
  simp [hl]
theorem bd_end (ok : HiOk fl es) (hi : i < es.length) {m : Mv} (hm : m ∈ row fl es i) (b : Bool) : BdO (endOf (pairsUp fl es i) b m) := fun x hx => ok.bd i hi b x (List.mem_filterMap.mpr ⟨m, hm, hx⟩)
end
end K37
namespace K37
open PySem PySem.Spec PyProof.Rows L2 G Th AL
section
variable {fl : Fl} {es : List Ev} {i : Nat} {A B C : Nat} {T : Sto} {h : Hs} {d : List (Key × Val)}
end
end K37
namespace K37
open PySem PySem.Spec PyProof.Rows L2 G Th AL
theorem getD_app {ps : List Pr} {p : Pr} {j : Nat} (h : j < ps.length) : (ps ++ [p]).getD j (none, none) = ps.getD j (none, none) := by
  simp [List.getD, List.getElem?_append_left h]
theorem getD_end {ps : List Pr} {p : Pr} : (ps ++ [p]).getD ps.length (none, none) = p := by
  simp [List.getD]
end K37
namespace K37
open PySem PySem.Spec PyProof.Rows L2 G Th AL
def slows : List Fq := [(1, 1), (1, 2), (3, 4)]
def fasts : List Fq := [(1, 1), (5, 4), (3, 2), (2, 1)]
def TxOk (x : Str) : Prop := PyData.strOk x = true ∧ x.cps.size ≤ 8
def leasts : List Fq := [(0, 1), (1, 2), (1, 1), (2, 1)]
def mores : List (Option Fq) := [none, some (0, 1), some (1, 1), some (3, 1)]

def LkS (l : Lk) : Prop := (l.least ∈ leasts ∧ l.fr ≠ l.to) ∧ ∀ m, l.most = some m → ∃ x, some x ∈ mores ∧ m = Fr.add l.least x
structure FlOk (fl : Fl) : Prop where
  nd : (fl.hs.map Hs.name).Nodup
  ne : 0 < fl.hs.length
  few : fl.hs.length ≤ 6
  rate : ∀ h ∈ fl.hs, h.slow ∈ slows ∧ h.fast ∈ fasts
  lk : ∀ l ∈ fl.ls, Fr.Ok 4 l.least ∧ ∀ m, l.most = some m → Fr.Ok 10 m
  lfew : fl.ls.length ≤ 8
  tx : (∀ h ∈ fl.hs, TxOk h.name) ∧ (∀ l ∈ fl.ls, TxOk l.fr ∧ TxOk l.to) ∧ TxOk fl.src
  one : ∀ h ∈ fl.hs, h.name = fl.src → h.slow = (1, 1) ∧ h.fast = (1, 1)
  lks : ∀ l ∈ fl.ls, LkS l
def StOk (x : Fq) : Prop := ∃ k : Int, x = Fr.mk k 4 ∧ k.natAbs ≤ 1000
structure EvOk (fl : Fl) (es : List Ev) (i : Nat) : Prop where
  name : (es.getD i dEv).name ∈ fl.hs.map Hs.name
  st : StOk (es.getD i dEv).stamp
  send : ∀ l, (es.getD i dEv).deed = .send l → l < fl.ls.length
  hear : ∀ k, (es.getD i dEv).deed = .hear k → k < i ∧ ∃ l, (es.getD k dEv).deed = .send l
structure HV (fl : Fl) (es : List Ev) : Prop where
  len : es.length ≤ 30
  ev : ∀ i, i < es.length → EvOk fl es i
theorem StOk.ok {x : Fq} (h : StOk x) : Fr.Ok 10 x := by
  obtain ⟨k, rfl, hk⟩ := h
  exact Fr.mk_ok (by decide) (Nat.lt_of_le_of_lt hk (by decide)) (by decide)
theorem Bd.of {n : Nat} {x : Fq} (h : Fr.Ok n x) (hn : n ≤ 900) : Bd x := ⟨h.pos, Fr.bmono h.b1 hn, Fr.bmono h.b2 hn⟩
theorem slow_ok {x : Fq} (h : x ∈ slows) : Fr.Ok 3 x ∧ 0 < x.1 := by
  simp only [slows, List.mem_cons, List.not_mem_nil, or_false] at h
  rcases h with rfl | rfl | rfl <;> exact ⟨⟨by decide, by decide, by decide, by decide⟩, by decide⟩
theorem fast_ok {x : Fq} (h : x ∈ fasts) : Fr.Ok 3 x ∧ 0 < x.1 := by
  simp only [fasts, List.mem_cons, List.not_mem_nil, or_false] at h
  rcases h with rfl | rfl | rfl | rfl <;> exact ⟨⟨by decide, by decide, by decide, by decide⟩, by decide⟩
theorem drift_some {fl : Fl} {n : Str} (h : n ∈ fl.hs.map Hs.name) : ∃ x, driftOf fl n = some x ∧ x ∈ fl.hs := by
  obtain ⟨y, hy, rfl⟩ := List.mem_map.mp h
  unfold driftOf
  cases e : fl.hs.find? (fun z => decide (z.name = y.name)) with
  | none =>
    rw [List.find?_eq_none] at e
    exact absurd (decide_eq_true rfl) (e y hy)
  | some x => exact ⟨x, rfl, List.mem_of_find?_eq_some e⟩
section
variable {fl : Fl} {es : List Ev}
def POk (n : Nat) (p : Pr) : Prop := ∀ b x, sel b p = some x → Fr.Ok n x
end
end K37
namespace K37
open PySem PySem.Spec PyProof.Rows L2 G Th AL
theorem Tp.fr {S S' : Sto} {B : Int} (h : Tp S B) (k : Kn S S') : Tp S' B := by
  obtain ⟨ns, i, q, n, h0, h1, r⟩ := h.ex
  exact ⟨ns, i, q, n, k _ _ h0, k _ _ h1, r⟩
theorem Fr1.len {S S' : Sto} (h : Fr1 S S') (h2 : 2 < S.length) : S.length ≤ S'.length := by
  have l : S.length - 1 < S.length := by omega
  have := h (S.length - 1) _ (by omega) (List.getElem?_eq_getElem l)
  have := (List.getElem?_eq_some_iff.mp this).1
  omega

end K37
namespace K37
open PySem PySem.Spec PyProof.Rows L2 G Th AL
theorem p60 : (2 : Int) ^ 60 = 1152921504606846976 := by decide
section
variable {ρ : Rho} {T : Sto} {B : Int}
end
section
variable {T : Sto} {B : Int} {P N Hh L : Nat} {sr : Str} {nm : List Str} {y3 y4 y8 y9 y10 y11 y12 y13 : Option Val}
end
end K37
namespace K37
open PySem PySem.Spec PyProof.Rows L2 G Th AL
theorem aC_eq {f : EF} {g : AF} {ρ : Rho} {S S1 S2 : Sto} {x : Val} {xs : List Val} (h1 : f ρ S = some (x, S1)) (h2 : g ρ S1 = some (xs, S2)) : aCons f g ρ S = some (x :: xs, S2) := by
  unfold aCons
  rw [h1, Option.bind_some, h2]
  rfl
end K37
namespace K37
open PySem PySem.Spec PyProof.Rows L2 G Th AL
end K37
namespace K37
open PySem PySem.Spec PyProof.Rows L2 G Th AL
def Qk (x : Fq) (n : Nat) : Prop := ∃ k : Int, x = Fr.mk k 4 ∧ k.natAbs ≤ n
theorem Qk.ok {x : Fq} {n : Nat} (h : Qk x n) (hn : n ≤ 1000) : Fr.Ok 10 x := by
  obtain ⟨k, rfl, hk⟩ := h
  exact Fr.mk_ok (by decide) (Nat.lt_of_le_of_lt (Nat.le_trans hk hn) (by decide)) (by decide)
theorem Qk.mono {x : Fq} {n m : Nat} (h : Qk x n) (hn : n ≤ m) : Qk x m := by
  obtain ⟨k, e, hk⟩ := h
  exact ⟨k, e, by omega⟩
theorem mk_int (x : Int) : Fr.mk (x * 4) 4 = (x, 1) := by
  rw [Fr.mk_eq (c := x) (d := 1) (by decide) (by decide) (by omega)]
  exact Fr.mk_self (by decide) (by simp)
theorem Qk.int {x : Int} {n : Nat} (h : x.natAbs * 4 ≤ n) : Qk (x, 1) n := ⟨x * 4, (mk_int x).symm, by rw [Int.natAbs_mul]; exact h⟩
theorem Qk.add {x y : Fq} {n m : Nat} (hx : Qk x n) (hy : Qk y m) : Qk (Fr.add x y) (n + m) := by
  obtain ⟨k, rfl, hk⟩ := hx
  obtain ⟨l, rfl, hl⟩ := hy
  refine ⟨k + l, ?_, by omega⟩
  have i1 : Fr.Is (Fr.mk k 4) k 4 := ⟨rfl, by decide⟩
  have i2 : Fr.Is (Fr.mk l 4) l 4 := ⟨rfl, by decide⟩
  exact (i1.add i2).same ⟨rfl, by decide⟩ (by omega)
theorem getD_l {es : List Ev} {e : Ev} {j : Nat} (h : j < es.length) : (es ++ [e]).getD j dEv = es.getD j dEv := by
  simp [List.getD, List.getElem?_append_left h]
theorem getD_r {es : List Ev} {e : Ev} : (es ++ [e]).getD es.length dEv = e := by
  simp [List.getD]
section
variable {fl : Fl} {T : Sto} {B : Int} {C Nn K_ E Hr : Nat} {m bg tm : Int} {nm : List Str} {es : List Ev} {hrs : List Int} {d : List (Key × Val)} {y4 y5 y12 y13 y14 y15 y16 y17 : Option Val}

end
end K37
namespace K37
open PySem PySem.Spec PyProof.Rows L2 G Th AL
end K37
namespace Fr
def q (p : Int × Int) : Rat := (p.1 : Rat) / (p.2 : Rat)
variable {p r : Int × Int} {a b : Int}
theorem c0 (h : b ≠ 0) : (b : Rat) ≠ 0 := fun z => h (Rat.intCast_eq_zero_iff.mp z)
theorem div_eq {a b c d : Int} (hb : b ≠ 0) (hd : d ≠ 0) (e : a * d = c * b) : (a : Rat) / (b : Rat) = (c : Rat) / (d : Rat) := by
  have h1 := c0 hb
  have h2 := c0 hd
  have h3 : (a : Rat) * (d : Rat) = (c : Rat) * (b : Rat) := by
    rw [← Rat.intCast_mul, ← Rat.intCast_mul, e]
  grind
theorem q_mk (h : b ≠ 0) : q (mk a b) = (a : Rat) / (b : Rat) := div_eq (by have := mk_pos (a := a) h; omega) h (mk_cross h)
theorem q_add (hp : p.2 ≠ 0) (hr : r.2 ≠ 0) : q (add p r) = q p + q r := by
  unfold add
  rw [q_mk (Int.mul_ne_zero hp hr)]
  unfold q
  have h1 := c0 hp
  have h2 := c0 hr
  simp only [Rat.intCast_add, Rat.intCast_mul]
  grind
theorem q_sub (hp : p.2 ≠ 0) (hr : r.2 ≠ 0) : q (sub p r) = q p - q r := by
  unfold sub
  rw [q_mk (Int.mul_ne_zero hp hr)]
  unfold q
  have h1 := c0 hp
  have h2 := c0 hr
  simp only [Rat.intCast_sub, Rat.intCast_mul]
  grind
theorem q_mul (hp : p.2 ≠ 0) (hr : r.2 ≠ 0) : q (mul p r) = q p * q r := by
  unfold mul
  rw [q_mk (Int.mul_ne_zero hp hr)]
  unfold q
  have h1 := c0 hp
  have h2 := c0 hr
  simp only [Rat.intCast_mul]
  grind
theorem q_lt (hp : 0 < p.2) (hr : 0 < r.2) : p.1 * r.2 < r.1 * p.2 ↔ q p < q r := by
  have h1 : (0 : Rat) < (p.2 : Rat) := Rat.intCast_pos.mpr hp
  have h2 : (0 : Rat) < (r.2 : Rat) := Rat.intCast_pos.mpr hr
  unfold q
  rw [Rat.div_lt_iff h1, ← Rat.mul_lt_mul_right h2 (a := (p.1 : Rat)), ← Rat.intCast_mul]
  have : (r.1 : Rat) / (r.2 : Rat) * (p.2 : Rat) * (r.2 : Rat) = ((r.1 * p.2 : Int) : Rat) := by
    rw [Rat.intCast_mul]
    grind
  rw [this, Rat.intCast_lt_intCast]
theorem q_le (hp : 0 < p.2) (hr : 0 < r.2) : ¬ r.1 * p.2 < p.1 * r.2 ↔ q p ≤ q r := by
  rw [q_lt hr hp, Rat.not_lt]
theorem q_int (a : Int) : q (a, 1) = (a : Rat) := by
  unfold q
  show (a : Rat) / ((1 : Int) : Rat) = _
  rw [Rat.intCast_one]
  grind
end Fr
namespace KL
open PySem PySem.Spec PyProof.Rows L2 G Th AL K37 Fr
theorem _root_.K37.Tp.kx {S T : Sto} {B : Int} {n : Nat} (h : Tp S B) (k : Kx n S T) (hn : 2 ≤ n) : Tp T B := by
  obtain ⟨ns, i, q, n, h0, h1, r⟩ := h.ex
  exact ⟨ns, i, q, n, k _ _ (by omega) h0, k _ _ (by omega) h1, r⟩

def Can (fl : Fl) (es : List Ev) (hrs : List Int) (t : Int) (k : Nat) : Prop := k < es.length ∧ ∃ l lk, (es.getD k dEv).deed = .send l ∧ fl.ls[l]? = some lk ∧ q lk.least ≤ ((t - hrs.getD k 0 : Int) : Rat) ∧ ∀ m, lk.most = some m → ((t - hrs.getD k 0 : Int) : Rat) ≤ q m
end KL
namespace KL
open PySem PySem.Spec PyProof.Rows L2 G Th AL K37 Fr

structure Tru (fl : Fl) (es : List Ev) (bg : Int) (hrs : List Int) : Prop where
  len : hrs.length = es.length
  src : ∀ j, j < es.length → (es.getD j dEv).name = fl.src → q (es.getD j dEv).stamp = ((bg + hrs.getD j 0 : Int) : Rat)
  go : ∀ j i h, j < es.length → lastAt es j (es.getD j dEv).name = some i → driftOf fl (es.getD j dEv).name = some h →
    q h.slow * ((hrs.getD j 0 - hrs.getD i 0 : Int) : Rat) ≤ q (es.getD j dEv).stamp - q (es.getD i dEv).stamp ∧ q (es.getD j dEv).stamp - q (es.getD i dEv).stamp ≤ q h.fast * ((hrs.getD j 0 - hrs.getD i 0 : Int) : Rat) ∧ hrs.getD i 0 ≤ hrs.getD j 0
  hear : ∀ j k, j < es.length → (es.getD j dEv).deed = .hear k → Can fl (es.take j) hrs (hrs.getD j 0) k
theorem lastAt_app {es : List Ev} {e : Ev} {n : Str} : ∀ j, j ≤ es.length → lastAt (es ++ [e]) j n = lastAt es j n
  | 0, _ => rfl
  | j + 1, h => by
    rw [lastAt, lastAt, getD_l (by omega), lastAt_app j (by omega)]
theorem lastAt_snoc {es : List Ev} {e : Ev} {n : Str} : lastAt (es ++ [e]) (es ++ [e]).length n = if e.name = n then some es.length else lastAt es es.length n := by
  rw [List.length_append, List.length_singleton, lastAt, getD_r, lastAt_app _ (Nat.le_refl _)]
theorem hget_l {hrs : List Int} {x : Int} {j : Nat} (h : j < hrs.length) : (hrs ++ [x]).getD j 0 = hrs.getD j 0 := by
  simp [List.getD, List.getElem?_append_left h]
theorem hget_r {hrs : List Int} {x : Int} : (hrs ++ [x]).getD hrs.length 0 = x := by
  simp [List.getD]
theorem Can.app {fl : Fl} {es es' : List Ev} {hrs hrs' : List Int} {t : Int} {k : Nat} (h : Can fl es hrs t k) (h1 : ∀ k, k < es.length → es'.getD k dEv = es.getD k dEv ∧ hrs'.getD k 0 = hrs.getD k 0) (h2 : es.length ≤ es'.length) : Can fl es' hrs' t k := by
  obtain ⟨hk, l, lk, a, b, c, d⟩ := h
  obtain ⟨e1, e2⟩ := h1 k hk
  exact ⟨by omega, l, lk, by rw [e1]; exact a, b, by rw [e2]; exact c, by rw [e2]; exact d⟩
theorem Tru.snoc {fl : Fl} {es : List Ev} {bg : Int} {hrs : List Int} {e : Ev} {x : Int} (T : Tru fl es bg hrs) (h1 : e.name = fl.src → q e.stamp = ((bg + x : Int) : Rat))
    (h2 : ∀ i h, lastAt es es.length e.name = some i → driftOf fl e.name = some h → q h.slow * ((x - hrs.getD i 0 : Int) : Rat) ≤ q e.stamp - q (es.getD i dEv).stamp ∧ q e.stamp - q (es.getD i dEv).stamp ≤ q h.fast * ((x - hrs.getD i 0 : Int) : Rat) ∧ hrs.getD i 0 ≤ x)
    (h3 : ∀ k, e.deed = .hear k → Can fl es hrs x k) : Tru fl (es ++ [e]) bg (hrs ++ [x]) := by
  have hl := T.len
  refine ⟨by simp [hl], fun j hj hn => ?_, fun j i h hj hi hd => ?_, fun j k hj hd => ?_⟩
  · by_cases z : j < es.length
    · rw [getD_l z] at hn ⊢
      rw [hget_l (by omega)]
      exact T.src j z hn
    · have : j = es.length := by simp at hj; omega
      subst this
      rw [getD_r] at hn ⊢
      rw [← hl, hget_r]
      exact h1 hn
  · by_cases z : j < es.length
    · rw [getD_l z] at hi hd ⊢
      rw [lastAt_app _ (by omega)] at hi
      have := lastAt_lt hi
      rw [hget_l (by omega), hget_l (by omega), getD_l (by omega)]
      exact T.go j i h z hi hd
    · have : j = es.length := by simp at hj; omega
      subst this
      rw [getD_r] at hi hd ⊢
      rw [lastAt_app _ (Nat.le_refl _)] at hi
      have := lastAt_lt hi
      rw [getD_l (by omega), hget_l (j := i) (by omega), ← hl, hget_r]
      exact h2 i h hi hd
  · by_cases z : j < es.length
    · rw [getD_l z] at hd
      rw [hget_l (by omega), List.take_append_of_le_length (by omega)]
      refine (T.hear j k z hd).app (fun k hk => ⟨rfl, hget_l ?_⟩) (Nat.le_refl _)
      rw [List.length_take] at hk
      omega
    · have : j = es.length := by simp at hj; omega
      subst this
      rw [getD_r] at hd
      rw [← hl, hget_r, hl, List.take_append_of_le_length (Nat.le_refl _), List.take_length]
      exact (h3 k hd).app (fun k hk => ⟨rfl, hget_l (by omega)⟩) (Nat.le_refl _)
theorem q11 : q ((1, 1) : Fq) = 1 := by rw [q_int]; rfl
theorem slow_le {x : Fq} (h : x ∈ slows) : q x ≤ 1 ∧ 0 < q x := by
  simp only [slows, List.mem_cons, List.not_mem_nil, or_false] at h
  rcases h with rfl | rfl | rfl <;> exact ⟨by decide +kernel, by decide +kernel⟩
end KL
namespace K37
open PySem PySem.Spec PyProof.Rows L2 G Th AL
section
variable {fl : Fl} {T : Sto} {B : Int} {Nn K_ E : Nat} {m : Int} {nm : List Str} {es : List Ev} {d : List (Key × Val)} {y3 y7 y8 y9 y10 : Option Val}
end
end K37
namespace K37
open PySem PySem.Spec PyProof.Rows L2 G Th AL
end K37
namespace K37
open PySem PySem.Spec PyProof.Rows L2 G Th AL
section
variable {fl : Fl} {es : List Ev}
end
end K37
namespace K37
open PySem PySem.Spec PyProof.Rows L2 G Th AL

def Sh (n w : Nat) (v : Val) : Prop := ∃ d : PyData, okD d = true ∧ d.weight ≤ w ∧ d.depth ≤ n ∧ ∀ (S : Sto) (k : Nat), n < k → toD S k v = some d
def ShL (n w : Nat) (vs : List Val) : Prop := ∃ ds : List PyData, okAll ds = true ∧ PyData.weightAll ds ≤ w ∧ PyData.depthAll ds ≤ n ∧ ∀ (S : Sto) (k : Nat), n < k → mapO (toD S k) vs = some ds
theorem Sh.mono {n w n' w' : Nat} {v : Val} (h : Sh n w v) (hn : n ≤ n') (hw : w ≤ w') : Sh n' w' v := by
  obtain ⟨d, h1, h2, h3, h4⟩ := h
  exact ⟨d, h1, by omega, by omega, fun S k hk => h4 S k (by omega)⟩
theorem ShL.nil {n w : Nat} : ShL n w [] := ⟨[], rfl, by simp [PyData.weightAll], by simp [PyData.depthAll], fun S k hk => rfl⟩
theorem ShL.cons {n w w' : Nat} {v : Val} {vs : List Val} (h : Sh n w v) (hs : ShL n w' vs) : ShL n (w + 1 + w') (v :: vs) := by
  obtain ⟨d, h1, h2, h3, h4⟩ := h
  obtain ⟨ds, g1, g2, g3, g4⟩ := hs
  refine ⟨d :: ds, ?_, ?_, ?_, fun S k hk => ?_⟩
  · show (okD d && okAll ds) = true
    rw [h1, g1]
    rfl
  · show d.weight + 1 + PyData.weightAll ds ≤ _
    omega
  · simp only [PyData.depthAll]
    omega
  · unfold mapO
    rw [h4 S k hk, g4 S k hk]
    rfl
theorem ShL.snoc {n w' : Nat} {v : Val} : ∀ {vs : List Val} {w : Nat}, ShL n w vs → Sh n w' v → ShL n (w + (w' + 1)) (vs ++ [v]) := by
  intro vs w hs h
  obtain ⟨d, h1, h2, h3, h4⟩ := h
  obtain ⟨ds, g1, g2, g3, g4⟩ := hs
  refine ⟨ds ++ [d], ?_, ?_, ?_, fun S k hk => ?_⟩
  · rw [okAll_iff] at g1 ⊢
    intro x hx
    rcases List.mem_append.mp hx with hx | hx
    · exact g1 x hx
    · simp only [List.mem_singleton] at hx
      rw [hx]
      exact h1
  · have : ∀ xs : List PyData, PyData.weightAll (xs ++ [d]) = PyData.weightAll xs + (d.weight + 1) := by
      intro xs
      induction xs with
      | nil => simp [PyData.weightAll]
      | cons x xs ih =>
        simp only [List.cons_append, PyData.weightAll, ih]
        omega
    rw [this]
    omega
  · have : ∀ xs : List PyData, PyData.depthAll xs ≤ n → PyData.depthAll (xs ++ [d]) ≤ n := by
      intro xs
      induction xs with
      | nil =>
        intro _
        simp only [List.nil_append, PyData.depthAll]
        omega
      | cons x xs ih =>
        intro hx
        simp only [List.cons_append, PyData.depthAll] at hx ⊢
        have := ih (by omega)
        omega
    exact this ds g3
  · have : ∀ (us : List Val) (es : List PyData), mapO (toD S k) us = some es → mapO (toD S k) (us ++ [v]) = some (es ++ [d]) := by
      intro us
      induction us with
      | nil =>
        intro es he
        cases he
        simp only [List.nil_append, mapO, h4 S k hk, Option.bind_some]
      | cons u us ih =>
        intro es he
        simp only [mapO] at he
        obtain ⟨b, e1, e2⟩ := Option.bind_eq_some_iff.mp he
        obtain ⟨bs, e3, e4⟩ := Option.bind_eq_some_iff.mp e2
        cases e4
        simp only [List.cons_append, mapO, e1, ih bs e3, Option.bind_some]
    exact this vs ds (g4 S k hk)
theorem ShL.mono {n w n' w' : Nat} {vs : List Val} (h : ShL n w vs) (hn : n ≤ n') (hw : w ≤ w') : ShL n' w' vs := by
  obtain ⟨d, h1, h2, h3, h4⟩ := h
  exact ⟨d, h1, by omega, by omega, fun S k hk => h4 S k (by omega)⟩
theorem ShL.map {α : Type} {n w : Nat} {f : α → Val} : ∀ xs : List α, (∀ x ∈ xs, Sh n w (f x)) → ShL n ((w + 1) * xs.length) (xs.map f)
  | [], _ => ShL.nil
  | x :: xs, h => by
    have := ShL.cons (h x (by simp)) (ShL.map xs fun y hy => h y (by simp [hy]))
    refine this.mono (Nat.le_refl _) ?_
    rw [List.length_cons, Nat.mul_succ]
    omega
theorem ShL.tup {n w : Nat} {vs : List Val} (h : ShL n w vs) : Sh (n + 1) w (.tup vs) := by
  obtain ⟨ds, g1, g2, g3, g4⟩ := h
  refine ⟨.tuple ds, g1, ?_, ?_, fun S k hk => ?_⟩
  · show PyData.weightAll ds ≤ w
    exact g2
  · simp only [PyData.depth]
    omega
  · obtain ⟨k, rfl⟩ : ∃ j, k = j + 1 := ⟨k - 1, by omega⟩
    show (mapO (toD S k) vs).map PyData.tuple = _
    rw [g4 S k (by omega)]
    rfl
theorem Sh.int {i : Int} {b : Nat} (h : i.natAbs < 2 ^ b) (hb : b ≤ 900) : Sh 0 b (.int i) := by
  have h9 : i.natAbs < 2 ^ 900 := Nat.lt_of_lt_of_le h (Nat.pow_le_pow_right (by decide) hb)
  refine ⟨.int i, decide_eq_true h9, ?_, by simp [PyData.depth], fun S k hk => ?_⟩
  · unfold PyData.weight
    split
    · omega
    · next e =>
      have h0 : i.natAbs ≠ 0 := by
        intro z
        apply e
        rw [Int.natAbs_eq_zero.mp z]
        rfl
      have := (Nat.log2_lt h0).mpr h
      omega
  · obtain ⟨k, rfl⟩ : ∃ j, k = j + 1 := ⟨k - 1, by omega⟩
    rfl
theorem Sh.non {n w : Nat} : Sh n w .non := by
  refine ⟨.none, rfl, by simp [PyData.weight], by simp [PyData.depth], fun S k hk => ?_⟩
  obtain ⟨k, rfl⟩ : ∃ j, k = j + 1 := ⟨k - 1, by omega⟩
  rfl
theorem Sh.str {x : Str} (h : TxOk x) : Sh 0 8 (.str x) := by
  refine ⟨.str x, h.1, by simp only [PyData.weight]; exact h.2, by simp [PyData.depth], fun S k hk => ?_⟩
  obtain ⟨k, rfl⟩ : ∃ j, k = j + 1 := ⟨k - 1, by omega⟩
  rfl
theorem Sh.fr {x : Fq} {n : Nat} (h : Fr.Ok n x) (hn : n ≤ 900) : Sh 1 (2 * n + 2) (frV x) := by
  have := (ShL.cons (Sh.int h.b1 hn) (ShL.cons (Sh.int h.b2 hn) (ShL.nil (w := 0)))).tup
  exact this.mono (by omega) (by omega)
theorem Sh.o {x : Option Fq} {n : Nat} (h : ∀ q, x = some q → Fr.Ok n q) (hn : n ≤ 900) : Sh 1 (2 * n + 2) (oV x) := by
  cases x with
  | none => exact Sh.non
  | some q => exact Sh.fr (h q rfl) hn
theorem Sh.pr {p : Pr} {n : Nat} (h : POk n p) (hn : n ≤ 900) : Sh 2 (4 * n + 6) (prV p) := by
  have a : Sh 1 (2 * n + 2) (oV p.1) := Sh.o (fun q hq => h false q hq) hn
  have b : Sh 1 (2 * n + 2) (oV p.2) := Sh.o (fun q hq => h true q hq) hn
  have := (ShL.cons a (ShL.cons b (ShL.nil (w := 0)))).tup
  exact this.mono (by omega) (by omega)
theorem Sh.hs {h : Hs} (t : TxOk h.name) (a : h.slow ∈ slows) (b : h.fast ∈ fasts) : Sh 2 40 (hsV h) := by
  have := (ShL.cons (Sh.str t |>.mono (n' := 1) (by omega) (Nat.le_refl _)) (ShL.cons (Sh.fr (slow_ok a).1 (by decide)) (ShL.cons (Sh.fr (fast_ok b).1 (by decide)) (ShL.nil (w := 0))))).tup
  exact this.mono (by omega) (by omega)
theorem Sh.lk {l : Lk} (t : TxOk l.fr) (t2 : TxOk l.to) (a : Fr.Ok 4 l.least) (b : ∀ m, l.most = some m → Fr.Ok 10 m) : Sh 2 100 (lkV l) := by
  have := (ShL.cons (Sh.str t |>.mono (n' := 1) (by omega) (Nat.le_refl _)) (ShL.cons (Sh.str t2 |>.mono (n' := 1) (by omega) (Nat.le_refl _)) (ShL.cons (Sh.fr a (by decide)) (ShL.cons (Sh.o b (by decide)) (ShL.nil (w := 0)))))).tup
  exact this.mono (by omega) (by omega)
theorem Sh.fl {fl : Fl} (fo : FlOk fl) : Sh 4 2000 (flV fl) := by
  have h1 := (ShL.map (f := hsV) fl.hs fun h hh => Sh.hs (fo.tx.1 h hh) (fo.rate h hh).1 (fo.rate h hh).2).tup
  have h2 := (ShL.map (f := lkV) fl.ls fun l hl => Sh.lk (fo.tx.2.1 l hl).1 (fo.tx.2.1 l hl).2 (fo.lk l hl).1 (fo.lk l hl).2).tup
  have h3 := Sh.str fo.tx.2.2
  have a := fo.few
  have b := fo.lfew
  have := (ShL.cons h1 (ShL.cons h2 (ShL.cons (h3.mono (n' := 3) (by omega) (Nat.le_refl _)) (ShL.nil (w := 0))))).tup
  exact this.mono (by omega) (by omega)
theorem Sh.dd {d : Dd} (h : ∀ l, d = .send l → l < 8) (h2 : ∀ k, d = .hear k → k < 30) : Sh 1 20 (ddV d) := by
  have k1 : TxOk (Str.ofString "mark") := ⟨by decide +kernel, by decide +kernel⟩
  have k2 : TxOk (Str.ofString "send") := ⟨by decide +kernel, by decide +kernel⟩
  have k3 : TxOk (Str.ofString "hear") := ⟨by decide +kernel, by decide +kernel⟩
  cases d with
  | mark => exact (ShL.cons (Sh.str k1) (ShL.nil (w := 0))).tup.mono (by omega) (by omega)
  | send l =>
    have := h l rfl
    have i : Sh 0 5 (.int ((l : Nat) : Int)) := Sh.int (by have : (2 : Nat) ^ 5 = 32 := rfl; omega) (by decide)
    exact (ShL.cons (Sh.str k2) (ShL.cons i (ShL.nil (w := 0)))).tup.mono (by omega) (by omega)
  | hear k =>
    have := h2 k rfl
    have i : Sh 0 5 (.int ((k : Nat) : Int)) := Sh.int (by have : (2 : Nat) ^ 5 = 32 := rfl; omega) (by decide)
    exact (ShL.cons (Sh.str k3) (ShL.cons i (ShL.nil (w := 0)))).tup.mono (by omega) (by omega)
theorem Sh.hi {fl : Fl} {es : List Ev} (fo : FlOk fl) (hv : HV fl es) : Sh 5 5000 (hiV fl es) := by
  have l30 := hv.len
  have ev : ∀ e ∈ es, Sh 2 60 (evV e) := by
    intro e he
    obtain ⟨i, hi, rfl⟩ := List.getElem_of_mem he
    have g : es.getD i dEv = es[i] := by simp [List.getD, List.getElem?_eq_getElem hi]
    have ok := hv.ev i hi
    have nm := ok.name
    rw [g] at nm
    obtain ⟨h, hh, e1⟩ := List.mem_map.mp nm
    have tx : TxOk es[i].name := by rw [← e1]; exact fo.tx.1 h hh
    have st := ok.st.ok
    rw [g] at st
    have d := Sh.dd (d := es[i].deed) (fun l hl => by have := ok.send l (by rw [g]; exact hl); have := fo.lfew; omega) (fun k hk => by have := (ok.hear k (by rw [g]; exact hk)).1; omega)
    have := (ShL.cons ((Sh.str tx).mono (n' := 1) (by omega) (Nat.le_refl _)) (ShL.cons (Sh.fr st (by decide)) (ShL.cons d (ShL.nil (w := 0))))).tup
    exact this.mono (by omega) (by omega)
  have h2 := (ShL.map (f := evV) es ev).tup
  have := (ShL.cons (Sh.fl fo) (ShL.cons (h2.mono (n' := 4) (w' := 1900) (by omega) (by omega)) (ShL.nil (w := 0)))).tup
  exact this.mono (by omega) (by omega)

theorem Sh.repr {n w : Nat} {v : Val} (h : Sh n w v) (hn : n < 40) (hw : w ≤ 40000) : ∃ x : Str, ∀ S, gRepr [v] S = some (.str x, S) := by
  obtain ⟨d, h1, h2, h3, h4⟩ := h
  refine ⟨d.shown, fun S => ?_⟩
  unfold gRepr
  simp only [h4 S 40 hn]
  rw [if_pos ⟨h1, by omega, by omega⟩]
end K37
namespace KL
open PySem PySem.Spec PyProof.Rows L2 G Th AL K37 Fr

theorem lastAt_congr {es es' : List Ev} {n : Str} : ∀ i, (∀ j, j < i → (es'.getD j dEv).name = (es.getD j dEv).name) → lastAt es' i n = lastAt es i n
  | 0, _ => rfl
  | i + 1, h => by
    rw [lastAt, lastAt, h i (by omega), lastAt_congr i fun j hj => h j (by omega)]
theorem row_congr {fl : Fl} {es es' : List Ev} {i : Nat} (h : ∀ j, j ≤ i → es'.getD j dEv = es.getD j dEv) (hh : ∀ k, (es.getD i dEv).deed = .hear k → k < i) : row fl es' i = row fl es i := by
  unfold row movesInto
  rw [h i (Nat.le_refl _)]
  have e0 : lastAt es' i (es.getD i dEv).name = lastAt es i (es.getD i dEv).name := lastAt_congr i fun j hj => by rw [h j (by omega)]
  rw [e0]
  have e1 : mv1 fl es' (lastAt es i (es.getD i dEv).name) (es.getD i dEv) = mv1 fl es (lastAt es i (es.getD i dEv).name) (es.getD i dEv) := by
    unfold mv1
    cases hl : lastAt es i (es.getD i dEv).name with
    | none => rfl
    | some j =>
      have hj := h j (by have := lastAt_lt hl; omega)
      cases driftOf fl (es.getD i dEv).name with
      | none => rfl
      | some d => simp only [hj]
  have e2 : mv2 fl es' (es.getD i dEv).deed = mv2 fl es (es.getD i dEv).deed := by
    cases hd : (es.getD i dEv).deed with
    | mark => rfl
    | send l => rfl
    | hear k =>
      have := hh k hd
      simp only [mv2, linkAt, h k (by omega)]
  rw [e1, e2]
theorem pairs_congr {fl : Fl} {es es' : List Ev} : ∀ i, (∀ j, j < i → es'.getD j dEv = es.getD j dEv) → (∀ j k, j < i → (es.getD j dEv).deed = .hear k → k < j) → pairsUp fl es' i = pairsUp fl es i
  | 0, _, _ => rfl
  | i + 1, h, hh => by
    rw [pairsUp, pairsUp, pairs_congr i (fun j hj => h j (by omega)) (fun j k hj => hh j k (by omega)), row_congr (fun j hj => h j (by omega)) (fun k => hh i k (by omega)), h i (by omega)]

structure Mk (es es' : List Ev) (a : Nat) : Prop where
  len : es'.length = es.length
  hear : ∃ k, (es.getD a dEv).deed = .hear k
  at_ : es'.getD a dEv = ⟨(es.getD a dEv).name, (es.getD a dEv).stamp, .mark⟩
  off : ∀ j, j ≠ a → es'.getD j dEv = es.getD j dEv
section
variable {fl : Fl} {es es' : List Ev} {a : Nat}
theorem Mk.name (M : Mk es es' a) (j : Nat) : (es'.getD j dEv).name = (es.getD j dEv).name ∧ (es'.getD j dEv).stamp = (es.getD j dEv).stamp := by
  by_cases z : j = a
  · subst z
    rw [M.at_]
    exact ⟨rfl, rfl⟩
  · rw [M.off j z]
    exact ⟨rfl, rfl⟩
theorem Mk.send (M : Mk es es' a) {k l : Nat} (h : (es.getD k dEv).deed = .send l) : (es'.getD k dEv).deed = .send l := by
  rw [M.off k fun z => ?_]
  · exact h
  · obtain ⟨k', hk'⟩ := M.hear
    rw [z, hk'] at h
    cases h
theorem Mk.hv (M : Mk es es' a) (hv : HV fl es) : HV fl es' := by
  refine ⟨by rw [M.len]; exact hv.len, fun i hi => ?_⟩
  have e := hv.ev i (by rw [← M.len]; exact hi)
  obtain ⟨n1, n2⟩ := M.name i
  refine ⟨by rw [n1]; exact e.name, by rw [n2]; exact e.st, fun l hl => ?_, fun k hk => ?_⟩
  · by_cases z : i = a
    · rw [z, M.at_] at hl
      cases hl
    · rw [M.off i z] at hl
      exact e.send l hl
  · by_cases z : i = a
    · rw [z, M.at_] at hk
      cases hk
    · rw [M.off i z] at hk
      obtain ⟨h1, l, h2⟩ := e.hear k hk
      exact ⟨h1, l, M.send h2⟩
theorem Mk.row (M : Mk es es' a) (hv : HV fl es) {i : Nat} (hi : i < es.length) {m : Mv} (hm : m ∈ K37.row fl es' i) : m ∈ K37.row fl es i := by
  obtain ⟨n1, n2⟩ := M.name i
  unfold K37.row movesInto at hm ⊢
  rw [n1] at hm
  have e0 : lastAt es' i (es.getD i dEv).name = lastAt es i (es.getD i dEv).name := lastAt_congr i fun j hj => (M.name j).1
  rw [e0] at hm
  rcases List.mem_append.mp hm with hm | hm
  · refine List.mem_append_left _ ?_
    unfold mv1 at hm ⊢
    rw [n1] at hm
    cases hl : lastAt es i (es.getD i dEv).name with
    | none => rw [hl] at hm; simp at hm
    | some j =>
      rw [hl] at hm
      cases hd : driftOf fl (es.getD i dEv).name with
      | none => rw [hd] at hm; simp at hm
      | some d =>
        rw [hd] at hm
        simp only [n2, (M.name j).2] at hm
        exact hm
  · refine List.mem_append_right _ ?_
    by_cases z : i = a
    · rw [z, M.at_] at hm
      simp [mv2] at hm
    · rw [M.off i z] at hm
      cases hd : (es.getD i dEv).deed with
      | mark => rw [hd] at hm; simp [mv2] at hm
      | send l => rw [hd] at hm; simp [mv2] at hm
      | hear k =>
        rw [hd] at hm
        obtain ⟨h1, l, h2⟩ := (hv.ev i hi).hear k hd
        have h3 := M.send h2
        simp only [mv2, linkAt, h3] at hm
        simp only [mv2, linkAt, h2]
        exact hm
end
end KL
namespace KL
open PySem PySem.Spec PyProof.Rows L2 G Th AL K37 Fr
section
variable {S : Sto} {Q : Val → Sto → Prop} {x y : Val} {vs ws : List Val}
theorem vNeNil {a b : Nat} {ns : List Int} (hx : x = .ref a) (hy : y = .ref b) (h0 : S[a]? = some (.lst (ns.map .int))) (h1 : S[b]? = some (.lst [])) (q : Q (.bl (!ns.isEmpty)) S) : Wp (gNe x y S) Q := by
  subst hx hy
  exact ⟨_, _, ne_nil h0 h1, q⟩
end
end KL
namespace K08
open PySem PySem.Spec PyProof.Rows L2 G Th AL
open K37
end K08
namespace K08
open PySem PySem.Spec PyProof.Rows L2 G Th AL K37 KL Fr
theorem wm {a b : Int} (h : a.natAbs < 2 ^ 64) (h2 : b.natAbs < 2 ^ 64) : CMulW a b := wide_mul h h2 (by decide) (by decide) (by decide)
theorem wd {a b : Int} (h0 : 0 < b) (h : b < 2 ^ 60) : CDivW a b := by
  have h60 := p60
  have n64 : (2 : Nat) ^ 64 = 18446744073709551616 := by decide
  exact wide_div (b := 64) h0 (by omega) (by decide) (by decide)
theorem ws_cut {r : Res} {N N' : Rho → Sto → Prop} {R : Val → Sto → Prop} (h : Ws r N' R) (i : ∀ ρ S, N' ρ S → N ρ S) : Ws r N R := by
  obtain ⟨h⟩ := h
  constructor
  cases r with
  | nx ρ S => exact i ρ S h
  | rt v S => exact h
  | stuck => exact h
  | bk _ _ => exact h
  | ct _ _ => exact h
end K08
namespace K08
open PySem PySem.Spec PyProof.Rows L2 G Th AL K37 KL Fr
end K08
namespace K08
open PySem PySem.Spec PyProof.Rows L2 G Th AL K37 KL Fr
def pool8 : List Str := ["a", "ab", "b", "h", "hh", "x", "zz", "zzzzzzzz"]
def gaits : List (Fq × Fq) := [((1, 1), (1, 1)), ((1, 2), (2, 1)), ((3, 4), (5, 4)), ((1, 1), (3, 2)), ((1, 2), (1, 1))]
def gV (g : Fq × Fq) : Val := .tup [frV g.1, frV g.2]
def least8 : List Fq := [(0, 1), (1, 2), (1, 1), (3, 1)]
structure L8 (nm : List Str) (l : Lk) : Prop where
  fr : l.fr ∈ nm
  to : l.to ∈ nm
  ne : l.fr ≠ l.to
  least : l.least ∈ least8
  most : ∀ m, l.most = some m → m = l.least ∨ m = Fr.mk (l.least.1 + l.least.2) l.least.2 ∨ m = Fr.mk (l.least.1 + 9 * l.least.2) l.least.2
structure F8 (fl : Fl) : Prop where
  sub : (fl.hs.map Hs.name).Sublist pool8
  ne : 0 < fl.hs.length
  few : fl.hs.length ≤ 6
  gait : ∀ h ∈ fl.hs, (h.slow, h.fast) ∈ gaits
  one : ∀ h ∈ fl.hs, h.name = fl.src → h.slow = (1, 1) ∧ h.fast = (1, 1)
  src : fl.src ∈ fl.hs.map Hs.name
  lk : ∀ l ∈ fl.ls, L8 (fl.hs.map Hs.name) l
  lfew : fl.ls.length ≤ 8
end K08
namespace K08
open PySem PySem.Spec PyProof.Rows L2 G Th AL K37 KL Fr
def Fits (l : Lk) (s n : Fq) : Prop := q l.least ≤ q n - q s ∧ ∀ m, l.most = some m → q n - q s ≤ q m
def DdOk (fl : Fl) (es : List Ev) (ws : List Fq) (house : Str) (now : Fq) : Dd → Prop
  | .mark => True
  | .send l => ∃ lk, fl.ls[l]? = some lk ∧ lk.fr = house
  | .hear k => k < es.length ∧ ∃ l lk, (es.getD k dEv).deed = .send l ∧ fl.ls[l]? = some lk ∧ lk.to = house ∧ Fits lk (ws.getD k (0, 1)) now
end K08
namespace KL
open PySem PySem.Spec PyProof.Rows L2 G Th AL K37 Fr
def QN (N : Int) (M : Nat) (x : Fq) : Prop := ∃ k : Int, Is x k N ∧ k.natAbs ≤ M
section
variable {N : Int} {M M' : Nat} {x y : Fq}
theorem QN.mono (h : QN N M x) (hm : M ≤ M') : QN N M' x := by
  obtain ⟨k, h1, h2⟩ := h
  exact ⟨k, h1, by omega⟩
theorem QN.ok {n : Nat} (h : QN N M x) (hM : M < 2 ^ n) (hN : N.natAbs < 2 ^ n) : Fr.Ok n x := by
  obtain ⟨k, h1, h2⟩ := h
  rw [h1.1]
  exact mk_ok h1.2 (by omega) hN
theorem QN.add (h : QN N M x) (h' : QN N M' y) : QN N (M + M') (Fr.add x y) := by
  obtain ⟨k, h1, h2⟩ := h
  obtain ⟨k', h3, h4⟩ := h'
  have a := h1.add h3
  refine ⟨k + k', ⟨?_, h1.2⟩, by omega⟩
  rw [a.1]
  exact mk_eq a.2 h1.2 (by grind)
theorem QN.sub (h : QN N M x) (h' : QN N M' y) : QN N (M + M') (Fr.sub x y) := by
  obtain ⟨k, h1, h2⟩ := h
  obtain ⟨k', h3, h4⟩ := h'
  have a := h1.sub h3
  refine ⟨k - k', ⟨?_, h1.2⟩, by omega⟩
  rw [a.1]
  exact mk_eq a.2 h1.2 (by grind)
theorem QN.up {c : Int} (h : QN N M x) (hc : 0 < c) : QN (N * c) (M * c.natAbs) x := by
  obtain ⟨k, h1, h2⟩ := h
  refine ⟨k * c, ⟨?_, Int.mul_ne_zero h1.2 (by omega)⟩, ?_⟩
  · rw [h1.1]
    exact mk_eq h1.2 (Int.mul_ne_zero h1.2 (by omega)) (by grind)
  · rw [Int.natAbs_mul]
    exact Nat.mul_le_mul_right _ h2
theorem QN.mul {N' : Int} (h : QN N M x) (h' : QN N' M' y) : QN (N * N') (M * M') (Fr.mul x y) := by
  obtain ⟨k, h1, h2⟩ := h
  obtain ⟨k', h3, h4⟩ := h'
  refine ⟨k * k', h1.mul h3, ?_⟩
  rw [Int.natAbs_mul]
  exact Nat.mul_le_mul h2 h4
theorem QN.rate (h : QN 4 M x) {r : Fq} (hr : r ∈ slows ∨ r ∈ fasts) : QN 120 (M * 60) (Fr.div x r) := by
  obtain ⟨k, h1, h2⟩ := h
  have go : ∀ (a b c : Int), Is r a b → a ≠ 0 → c.natAbs ≤ 60 → 120 * b = c * (4 * a) → QN 120 (M * 60) (Fr.div x r) := by
    intro a b c hi ha hc e
    have d := h1.div hi ha
    refine ⟨k * c, ⟨?_, by decide⟩, ?_⟩
    · rw [d.1]
      refine mk_eq d.2 (by decide) ?_
      grind
    · rw [Int.natAbs_mul]
      exact Nat.mul_le_mul h2 hc
  simp only [slows, fasts, List.mem_cons, List.not_mem_nil, or_false] at hr
  rcases hr with (rfl | rfl | rfl) | (rfl | rfl | rfl | rfl)
  · exact go 1 1 30 ⟨by decide +kernel, by decide⟩ (by decide) (by decide) (by decide)
  · exact go 1 2 60 ⟨by decide +kernel, by decide⟩ (by decide) (by decide) (by decide)
  · exact go 3 4 40 ⟨by decide +kernel, by decide⟩ (by decide) (by decide) (by decide)
  · exact go 1 1 30 ⟨by decide +kernel, by decide⟩ (by decide) (by decide) (by decide)
  · exact go 5 4 24 ⟨by decide +kernel, by decide⟩ (by decide) (by decide) (by decide)
  · exact go 3 2 20 ⟨by decide +kernel, by decide⟩ (by decide) (by decide) (by decide)
  · exact go 2 1 15 ⟨by decide +kernel, by decide⟩ (by decide) (by decide) (by decide)
end

def Rise (es : List Ev) : Prop := ∀ j i, j < es.length → lastAt es j (es.getD j dEv).name = some i → q (es.getD i dEv).stamp ≤ q (es.getD j dEv).stamp
theorem Rise.nil : Rise [] := fun j i h => by simp at h
theorem Rise.snoc {es : List Ev} {e : Ev} (h : Rise es) (h1 : ∀ i, lastAt es es.length e.name = some i → q (es.getD i dEv).stamp ≤ q e.stamp) : Rise (es ++ [e]) := by
  intro j i hj hi
  by_cases z : j < es.length
  · rw [getD_l z] at hi ⊢
    rw [lastAt_app _ (by omega)] at hi
    have := lastAt_lt hi
    rw [getD_l (by omega)]
    exact h j i z hi
  · have : j = es.length := by simp at hj; omega
    subst this
    rw [getD_r] at hi ⊢
    rw [lastAt_app _ (Nat.le_refl _)] at hi
    have := lastAt_lt hi
    rw [getD_l (by omega)]
    exact h1 i hi
theorem Tru.rise {fl : Fl} {es : List Ev} {bg : Int} {hrs : List Int} (T : Tru fl es bg hrs) (fo : FlOk fl) (hv : HV fl es) : Rise es := by
  intro j i hj hi
  obtain ⟨h, hh, hm⟩ := drift_some (hv.ev j hj).name
  obtain ⟨t1, t2, t3⟩ := T.go j i h hj hi hh
  have nn : (0 : Rat) ≤ ((hrs.getD j 0 - hrs.getD i 0 : Int) : Rat) := Rat.intCast_nonneg.mpr (by omega)
  have := Rat.mul_nonneg (Rat.le_of_lt (slow_le (fo.rate h hm).1).2) nn
  grind
end KL
namespace K08
open PySem PySem.Spec PyProof.Rows L2 G Th AL K37 KL Fr
abbrev wAt (ws : List Fq) (i : Nat) : Fq := ws.getD i (0, 1)
structure Sc (fl : Fl) (es : List Ev) (ws : List Fq) : Prop where
  len : ws.length = es.length
  nm : ∀ i, i < es.length → (es.getD i dEv).name ∈ fl.hs.map Hs.name
  tm : ∀ i, i < es.length → QN 2 60 (wAt ws i) ∧ 0 ≤ q (wAt ws i)
  st : ∀ i, i < es.length → QN 8 (80 + 960 * (i + 1)) (es.getD i dEv).stamp
  rise : ∀ i j, i ≤ j → j < es.length → q (wAt ws i) ≤ q (wAt ws j)
  dd : ∀ i, i < es.length → DdOk fl (es.take i) ws (es.getD i dEv).name (wAt ws i) (es.getD i dEv).deed
  go : ∀ j i h, j < es.length → lastAt es j (es.getD j dEv).name = some i → driftOf fl (es.getD j dEv).name = some h →
    q h.slow * (q (wAt ws j) - q (wAt ws i)) ≤ q (es.getD j dEv).stamp - q (es.getD i dEv).stamp ∧ q (es.getD j dEv).stamp - q (es.getD i dEv).stamp ≤ q h.fast * (q (wAt ws j) - q (wAt ws i))
  src : ∀ i j, i < es.length → j < es.length → (es.getD i dEv).name = fl.src → (es.getD j dEv).name = fl.src → q (es.getD i dEv).stamp - q (wAt ws i) = q (es.getD j dEv).stamp - q (wAt ws j)
theorem wget_l {ws : List Fq} {x : Fq} {j : Nat} (h : j < ws.length) : wAt (ws ++ [x]) j = wAt ws j := by
  simp [wAt, List.getD, List.getElem?_append_left h]
theorem wget_r {ws : List Fq} {x : Fq} : wAt (ws ++ [x]) ws.length = x := by
  simp [wAt, List.getD]
theorem DdOk.ext {fl : Fl} {es es' : List Ev} {ws ws' : List Fq} {n : Str} {w : Fq} {d : Dd} (h : DdOk fl es ws n w d) (h1 : ∀ k, k < es.length → es'.getD k dEv = es.getD k dEv ∧ wAt ws' k = wAt ws k) (h2 : es.length ≤ es'.length) : DdOk fl es' ws' n w d := by
  cases d with
  | mark => trivial
  | send l => exact h
  | hear k =>
    obtain ⟨hk, l, lk, a, b, c, d⟩ := h
    obtain ⟨e1, e2⟩ := h1 k hk
    refine ⟨by omega, l, lk, by rw [e1]; exact a, b, c, ?_⟩
    show Fits lk (wAt ws' k) w
    rw [e2]
    exact d
theorem Sc.snoc {fl : Fl} {es : List Ev} {ws : List Fq} (H : Sc fl es ws) {e : Ev} {w : Fq} (nm : e.name ∈ fl.hs.map Hs.name) (tm : QN 2 60 w ∧ 0 ≤ q w) (st : QN 8 (80 + 960 * (es.length + 1)) e.stamp) (rise : ∀ i, i < es.length → q (wAt ws i) ≤ q w) (dd : DdOk fl es ws e.name w e.deed)
    (go : ∀ i h, lastAt es es.length e.name = some i → driftOf fl e.name = some h → q h.slow * (q w - q (wAt ws i)) ≤ q e.stamp - q (es.getD i dEv).stamp ∧ q e.stamp - q (es.getD i dEv).stamp ≤ q h.fast * (q w - q (wAt ws i)))
    (src : ∀ i, i < es.length → e.name = fl.src → (es.getD i dEv).name = fl.src → q (es.getD i dEv).stamp - q (wAt ws i) = q e.stamp - q w) : Sc fl (es ++ [e]) (ws ++ [w]) := by
  have hl := H.len
  have el : ∀ i, i < (es ++ [e]).length → i < es.length ∨ i = es.length := fun i hi => by simp at hi; omega
  have wr : wAt (ws ++ [w]) es.length = w := by rw [← hl]; exact wget_r
  have wl : ∀ i, i < es.length → wAt (ws ++ [w]) i = wAt ws i := fun i hi => wget_l (by omega)
  have gl : ∀ i, i < es.length → (es ++ [e]).getD i dEv = es.getD i dEv := fun i hi => getD_l hi
  have gr : (es ++ [e]).getD es.length dEv = e := getD_r
  refine ⟨by simp [hl], fun i hi => ?_, fun i hi => ?_, fun i hi => ?_, fun i j ij hj => ?_, fun i hi => ?_, fun j i h hj hi hd => ?_, fun i j hi hj ni nj => ?_⟩
  · rcases el i hi with z | rfl
    · rw [gl i z]; exact H.nm i z
    · rw [gr]; exact nm
  · rcases el i hi with z | rfl
    · rw [wl i z]; exact H.tm i z
    · rw [wr]; exact tm
  · rcases el i hi with z | rfl
    · rw [gl i z]; exact H.st i z
    · rw [gr]; exact st
  · rcases el j hj with z | rfl
    · rw [wl i (by omega), wl j z]; exact H.rise i j ij z
    · rcases Nat.lt_or_ge i es.length with z | z
      · rw [wl i z, wr]; exact rise i z
      · have : i = es.length := by omega
        subst this
        exact Rat.le_refl
  · rcases el i hi with z | rfl
    · rw [gl i z, wl i z, List.take_append_of_le_length (by omega)]
      refine (H.dd i z).ext (fun k hk => ⟨rfl, wl k ?_⟩) (Nat.le_refl _)
      rw [List.length_take] at hk
      omega
    · rw [gr, wr, List.take_append_of_le_length (Nat.le_refl _), List.take_length]
      exact dd.ext (fun k hk => ⟨rfl, wl k hk⟩) (Nat.le_refl _)
  · rcases el j hj with z | rfl
    · rw [gl j z] at hi hd ⊢
      rw [lastAt_app _ (by omega)] at hi
      have := lastAt_lt hi
      rw [wl j z, wl i (by omega), gl i (by omega)]
      exact H.go j i h z hi hd
    · rw [gr] at hi hd ⊢
      rw [lastAt_app _ (Nat.le_refl _)] at hi
      have := lastAt_lt hi
      rw [wr, wl i (by omega), gl i (by omega)]
      exact go i h hi hd
  · rcases el i hi with z | rfl
    · rw [gl i z] at ni ⊢
      rw [wl i z]
      rcases el j hj with z' | rfl
      · rw [gl j z'] at nj ⊢
        rw [wl j z']
        exact H.src i j z z' ni nj
      · rw [gr] at nj ⊢
        rw [wr]
        exact src i z nj ni
    · rw [gr] at ni ⊢
      rw [wr]
      rcases el j hj with z' | rfl
      · rw [gl j z'] at nj ⊢
        rw [wl j z']
        exact (src j z' ni nj).symm
      · rw [gr, wr]
theorem Sc.nil (fl : Fl) : Sc fl [] [] := ⟨rfl, fun i hi => by simp at hi, fun i hi => by simp at hi, fun i hi => by simp at hi, fun i j _ hi => by simp at hi, fun i hi => by simp at hi, fun j i h hi => by simp at hi, fun i j hi => by simp at hi⟩
def clk (es : List Ev) (ws : List Fq) (n : Str) : Option Val := (lastAt es es.length n).map fun j => .tup [frV (es.getD j dEv).stamp, frV (wAt ws j)]
end K08
namespace K08
open PySem PySem.Spec PyProof.Rows L2 G Th AL K37 KL Fr
end K08
namespace K08
open PySem PySem.Spec PyProof.Rows L2 G Th AL K37 KL Fr
structure Own (es : List Ev) (n : Str) (ks : List Nat) (i : Nat) : Prop where
  len : ks.length ≤ i
  is : ∀ k ∈ ks, k < i ∧ (es.getD k dEv).name = n
  all : ∀ k, k < i → (es.getD k dEv).name = n → k ∈ ks
theorem Own.nil {es : List Ev} {n : Str} : Own es n [] 0 := ⟨Nat.le_refl _, fun _ z => by simp at z, fun _ z => by omega⟩
end K08
namespace K57
open PySem PySem.Spec PyProof.Rows L2 G Th AL KL Fr
open K37 (fmod_lt small_pow pow18 at_ints p60)
open K08 (wm wd ws_cut)
def fd (i q n : Int) : List (Key × Val) := [(.inr "cells", .ref 2), (.inr "at", .int i), (.inr "left", .int q), (.inr "turn", .int n)]
structure Tf (S : Sto) (B : Int) : Prop where
  ex : ∃ (ns : List Int) (i q n : Int), S[2]? = some (.lst (ns.map .int)) ∧ S[0]? = some (.dic (fd i q n)) ∧ 0 ≤ i ∧ 0 ≤ q ∧ 0 ≤ n ∧ n ≤ B ∧ ns.length ≤ 63
theorem Tf.mono {S : Sto} {B B' : Int} (h : Tf S B) (hb : B ≤ B') : Tf S B' := by
  obtain ⟨ns, i, q, n, h0, h1, a, b, c, d, e⟩ := h.ex
  exact ⟨ns, i, q, n, h0, h1, a, b, c, by omega, e⟩
theorem Tf.fr {S T : Sto} {B : Int} (h : Tf S B) (k : Kn S T) : Tf T B := by
  obtain ⟨ns, i, q, n, h0, h1, r⟩ := h.ex
  exact ⟨ns, i, q, n, k _ _ h0, k _ _ h1, r⟩
theorem Tf.kx {S T : Sto} {B : Int} {n : Nat} (h : Tf S B) (k : Kx n S T) (hn : 3 ≤ n) : Tf T B := by
  obtain ⟨ns, i, q, m, h0, h1, r⟩ := h.ex
  exact ⟨ns, i, q, m, k _ _ (by omega) h0, k _ _ (by omega) h1, r⟩
end K57
namespace AL
open PySem PySem.Spec PyProof.Rows L2 G Th K37
structure Dt (S : Sto) (n w : Nat) (v : Val) (d : PyData) : Prop where
  ok : okD d = true
  wt : d.weight ≤ w
  dp : d.depth ≤ n
  td : ∀ k, n < k → toD S k v = some d
structure DtL (S : Sto) (n w : Nat) (vs : List Val) (ds : List PyData) : Prop where
  ok : okAll ds = true
  wt : PyData.weightAll ds ≤ w
  dp : PyData.depthAll ds ≤ n
  td : ∀ k, n < k → mapO (toD S k) vs = some ds
theorem Dt.of {n w : Nat} {v : Val} (h : Sh n w v) : ∃ d, ∀ S, Dt S n w v d := by
  obtain ⟨d, h1, h2, h3, h4⟩ := h
  exact ⟨d, fun S => ⟨h1, h2, h3, fun k hk => h4 S k hk⟩⟩
theorem DtL.nil {S : Sto} {n w : Nat} : DtL S n w [] [] := ⟨rfl, by simp [PyData.weightAll], by simp [PyData.depthAll], fun _ _ => rfl⟩
theorem DtL.cons {S : Sto} {n w w' : Nat} {v : Val} {vs : List Val} {d : PyData} {ds : List PyData} (h : Dt S n w v d) (g : DtL S n w' vs ds) : DtL S n (w + w' + 1) (v :: vs) (d :: ds) := by
  have h2 := h.wt
  have g2 := g.wt
  have h3 := h.dp
  have g3 := g.dp
  refine ⟨?_, ?_, ?_, fun k hk => ?_⟩
  · show (okD d && okAll ds) = true
    rw [h.ok, g.ok]
    rfl
  · show d.weight + 1 + PyData.weightAll ds ≤ _
    omega
  · simp only [PyData.depthAll]
    omega
  · unfold mapO
    rw [h.td k hk, g.td k hk]
    rfl
theorem Dt.mono {S : Sto} {n w n' w' : Nat} {v : Val} {d : PyData} (h : Dt S n w v d) (hn : n ≤ n') (hw : w ≤ w') : Dt S n' w' v d := ⟨h.ok, by have := h.wt; omega, by have := h.dp; omega, fun k hk => h.td k (by omega)⟩
theorem Dt.lst {S : Sto} {n w a : Nat} {vs : List Val} {ds : List PyData} (h : S[a]? = some (.lst vs)) (r : DtL S n w vs ds) : Dt S (n + 1) w (.ref a) (.list ds) := by
  refine ⟨r.ok, r.wt, by have := r.dp; simp only [PyData.depth]; omega, fun k hk => ?_⟩
  obtain ⟨k, rfl⟩ : ∃ j, k = j + 1 := ⟨k - 1, by omega⟩
  rw [toD]
  simp only [h]
  rw [r.td k (by omega)]
  rfl
theorem Dt.tup {S : Sto} {n w : Nat} {vs : List Val} {ds : List PyData} (r : DtL S n w vs ds) : Dt S (n + 1) w (.tup vs) (.tuple ds) := by
  refine ⟨r.ok, r.wt, by have := r.dp; simp only [PyData.depth]; omega, fun k hk => ?_⟩
  obtain ⟨k, rfl⟩ : ∃ j, k = j + 1 := ⟨k - 1, by omega⟩
  show (mapO (toD S k) vs).map PyData.tuple = _
  rw [r.td k (by omega)]
  rfl
theorem Dt.str {S : Sto} {x : Str} (h : TxOk x) : Dt S 0 8 (.str x) (.str x) := by
  refine ⟨h.1, by simp only [PyData.weight]; exact h.2, by simp [PyData.depth], fun k hk => ?_⟩
  obtain ⟨k, rfl⟩ : ∃ j, k = j + 1 := ⟨k - 1, by omega⟩
  rfl
theorem Dt.repr {S : Sto} {n w : Nat} {v : Val} {d : PyData} (h : Dt S n w v d) (hn : n < 40) (hw : w ≤ 40000) : gRepr [v] S = some (.str d.shown, S) := by
  have h2 := h.wt
  have h3 := h.dp
  unfold gRepr
  simp only [h.td 40 hn]
  rw [if_pos ⟨h.ok, by omega, by omega⟩]

end AL
namespace K57
open PySem PySem.Spec PyProof.Rows L2 G Th AL KL Fr
open K37 (fmod_lt p60)
open K08 (ws_cut)

def K2 (a b : Nat) (S T : Sto) : Prop := ∀ (k : Nat) (o : Ob), k ≠ a → k ≠ b → S[k]? = some o → T[k]? = some o
theorem K2.refl {a b : Nat} (S : Sto) : K2 a b S S := fun _ _ _ _ h => h
theorem K2.trans {a b : Nat} {S T U : Sto} (h : K2 a b S T) (g : K2 a b T U) : K2 a b S U := fun k o x y z => g k o x y (h k o x y z)
theorem K2.kn {a b : Nat} {S T : Sto} (h : Kn S T) : K2 a b S T := fun k o _ _ z => h k o z
theorem Tf.k2 {S T : Sto} {B : Int} {n : Nat} (h : Tf S B) (k : Kx n S T) (hn : 3 ≤ n) : Tf T B := h.kx k hn
end K57
namespace K57
open PySem PySem.Spec PyProof.Rows L2 G Th AL KL Fr Od
open K37 (fmod_lt p60 TxOk Sh ShL)
open K08 (ws_cut)
section
variable {S : Sto} {Q : Val → Sto → Prop} {x y : Val} {a b : Str}
theorem or_some {α : Type} {o p : Option α} {z : α} (h : o = some z) : o.or p = some z := by rw [h]; rfl
theorem vSortGT {n : Nat} {vs : List Val} (hx : x = .ref n) (h : S[n]? = some (.lst vs)) (hv : ∀ v ∈ vs, ∃ xs, v = .tup xs) (ok : okSort vs = true) (q : Nw S (.lst (sortT vs)) Q) : Wp (gSortedG [x] S) Q := by
  subst hx
  refine ⟨.ref S.length, S ++ [.lst (sortT vs)], ?_, q.use⟩
  cases vs with
  | nil =>
    refine or_some ?_
    have e : sortS [] = [] := List.Perm.eq_nil (List.mergeSort_perm [] leS)
    simp only [gSorted, h, strsOf, e]
    rfl
  | cons v l =>
    obtain ⟨xs, rfl⟩ := hv v List.mem_cons_self
    have e : gSorted [.ref n] S = none := by simp only [gSorted, h, strsOf]
    unfold gSortedG
    rw [e]
    simp only [gSortT, h, if_pos ok, Option.none_or]
end
abbrev tl (x : Str) : List Nat := x.cps.toList
def wireV (w : Str × Str) : Val := .tup [.str w.1, .str w.2]
def wr (o : List Str) (p : Nat × Nat) : Str × Str :=
  let a := o.getD p.1 ""; let b := o.getD p.2 ""
  (if tl b < tl a then b else a, if tl a < tl b then b else a)
structure Mb where
  name : Str
  pri : Int
  cls : Int
def mbV (m : Mb) : Val := .tup [.str m.name, .int m.pri, .int m.cls]
structure Net where
  ms : List Mb
  ws : List (Str × Str)
def netV (n : Net) : Val := .tup [.tup (n.ms.map mbV), .tup (n.ws.map wireV)]
def Net.names (n : Net) : List Str := n.ms.map Mb.name
def pool : List Str := ["a", "ab", "b", "c", "d", "yy", "z", "zzzzzzzz"]

def poolX : List Str := pool ++ [("e" : Str)]
structure WOk (ns : List Str) (ws : List (Str × Str)) : Prop where
  nd : ws.Nodup
  len : ws.length ≤ 12
  mem : ∀ w ∈ ws, w.1 ∈ ns ∧ w.2 ∈ ns ∧ tl w.1 < tl w.2
structure NOk (n : Net) : Prop where
  nd : n.names.Nodup
  pos : 0 < n.ms.length
  len : n.ms.length ≤ 8
  inp : ∀ x ∈ n.names, x ∈ poolX
  num : ∀ m ∈ n.ms, 0 ≤ m.pri ∧ m.pri < 4 ∧ 0 ≤ m.cls ∧ m.cls < 3
  w : WOk n.names n.ws
  srt : Srt (n.ws.map wireV)
  nsrt : sortS n.names = n.names

def NmOk (x : Str) : Prop := PyData.strOk x = true ∧ x.cps.size ≤ 8
theorem nm_pool {x : Str} (h : x ∈ pool) : NmOk x := by
  simp only [pool, List.mem_cons, List.not_mem_nil, or_false] at h
  rcases h with rfl | rfl | rfl | rfl | rfl | rfl | rfl | rfl <;> exact ⟨by decide +kernel, by decide +kernel⟩
theorem nm_poolX {x : Str} (h : x ∈ poolX) : NmOk x := by
  rcases List.mem_append.mp h with h | h
  · exact nm_pool h
  · rw [List.mem_singleton.mp h]
    exact ⟨by decide +kernel, by decide +kernel⟩
theorem NOk.nm {n : Net} (h : NOk n) {x : Str} (hx : x ∈ n.names) : NmOk x := nm_poolX (h.inp x hx)
theorem ok_sort {vs : List Val} (h1 : ∀ v ∈ vs, okV v = true ∧ hd1 (dV v) = true) (h2 : ∀ a ∈ vs, ∀ b ∈ vs, smV a b = true) (hl : vs.length < 1000000) : okSort vs = true := by
  unfold okSort
  simp only [Bool.and_eq_true, List.all_eq_true, decide_eq_true_eq]
  exact ⟨⟨⟨fun v hv => (h1 v hv).1, fun v hv => (h1 v hv).2⟩, h2⟩, hl⟩

end K57
namespace K57
open PySem PySem.Spec PyProof.Rows L2 G Th AL KL Fr Od
open K37 (fmod_lt p60 TxOk Sh ShL)
open K08 (ws_cut)

structure Pr (sz k j : Nat) (L : List (Nat × Nat)) : Prop where
  nd : L.Nodup
  lt : ∀ p ∈ L, p.1 < p.2 ∧ p.2 < sz ∧ (p.2 < k ∨ (p.2 = k ∧ p.1 < j))
  len : L.length ≤ 12
theorem Pr.next {sz k j : Nat} {L : List (Nat × Nat)} (h : Pr sz k j L) : Pr sz k (j + 1) L := ⟨h.nd, fun p hp => by have := h.lt p hp; omega, h.len⟩
theorem Pr.row {sz k : Nat} {L : List (Nat × Nat)} (h : Pr sz k k L) : Pr sz (k + 1) 0 L := ⟨h.nd, fun p hp => by have := h.lt p hp; omega, h.len⟩
theorem Pr.add {sz k j : Nat} {L : List (Nat × Nat)} (h : Pr sz k j L) (hj : j < k) (hk : k < sz) (hl : L.length < 12) : Pr sz k (j + 1) (L ++ [(j, k)]) := by
  refine ⟨?_, fun p hp => ?_, by rw [List.length_append, List.length_singleton]; omega⟩
  · rw [List.nodup_append]
    refine ⟨h.nd, by simp, fun a ha b hb e => ?_⟩
    have := h.lt a ha
    rw [List.mem_singleton.mp hb] at e
    rw [e] at this
    simp only at this
    omega
  · rcases List.mem_append.mp hp with hp | hp
    · have := h.lt p hp
      omega
    · rw [List.mem_singleton.mp hp]
      exact ⟨hj, hk, .inr ⟨rfl, Nat.lt_succ_self _⟩⟩
theorem WOk.names {ns ms : List Str} {ws : List (Str × Str)} (h : WOk ns ws) (e : ∀ x, x ∈ ns → x ∈ ms) : WOk ms ws := ⟨h.nd, h.len, fun w hw => by obtain ⟨a, b, c⟩ := h.mem w hw; exact ⟨e _ a, e _ b, c⟩⟩
section
variable {S : Sto} {B : Int} {a1 a2 a3 a4 a5 a13 : Option Val} {ro rf : Nat} {o : List Str} {sz wy : Nat}

end
end K57
namespace K57
open PySem PySem.Spec PyProof.Rows L2 G Th AL KL Fr Od
open K37 (fmod_lt p60 TxOk Sh ShL)
open K08 (ws_cut)
theorem sortS_pw (l : List Str) : (sortS l).Pairwise (fun a b => leS a b = true) := List.pairwise_mergeSort leS_trans leS_total l
end K57
namespace K57
open PySem PySem.Spec PyProof.Rows L2 G Th AL KL Fr Od
open K37 (fmod_lt p60 TxOk Sh ShL)
open K08 (ws_cut)
def endsL (ws : List (Str × Str)) (x : Str) : List Str := (ws.filter fun w => decide (w.2 = x)).map (·.1) ++ (ws.filter fun w => decide (w.1 = x)).map (·.2)
def ends (ws : List (Str × Str)) (x : Str) : List Str := sortS (endsL ws x)

def oes (ws : List (Str × Str)) (x : Str) : List Str := (ws.filter fun w => decide (x = w.1) || decide (x = w.2)).map fun w => if w.1 = x then w.2 else w.1
theorem tl_irr (x : Str) : ¬ tl x < tl x := fun h => by
  have := strKind.irrefl (tl x)
  rw [show strKind.blt (tl x) (tl x) = decide (tl x < tl x) from rfl, decide_eq_true h] at this
  cases this
theorem oes_perm {x : Str} : ∀ {ws : List (Str × Str)}, (∀ w ∈ ws, tl w.1 < tl w.2) → (oes ws x).Perm (endsL ws x)
  | [], _ => .refl _
  | w :: ws, h => by
    have ih := oes_perm (x := x) (ws := ws) fun u hu => h u (List.mem_cons_of_mem _ hu)
    have lt := h w List.mem_cons_self
    unfold oes endsL at ih ⊢
    by_cases a : w.1 = x
    · have b : ¬ w.2 = x := fun b => tl_irr x (by rw [a, b] at lt; exact lt)
      rw [List.filter_cons_of_pos (by simp [a]), List.filter_cons_of_neg (by simp [b]), List.filter_cons_of_pos (by simp [a]), List.map_cons, List.map_cons, if_pos a]
      exact (ih.cons _).trans List.perm_middle.symm
    · by_cases b : w.2 = x
      · rw [List.filter_cons_of_pos (by simp [b]), List.filter_cons_of_pos (by simp [b]), List.filter_cons_of_neg (by simp [a]), List.map_cons, List.map_cons, if_neg a]
        exact ih.cons _
      · have a' : ¬ x = w.1 := fun z => a z.symm
        have b' : ¬ x = w.2 := fun z => b z.symm
        rw [List.filter_cons_of_neg (by simp [a', b']), List.filter_cons_of_neg (by simp [b]), List.filter_cons_of_neg (by simp [a])]
        exact ih
theorem nd_len {α : Type} [DecidableEq α] : ∀ {xs ys : List α}, xs.Nodup → (∀ x ∈ xs, x ∈ ys) → xs.length ≤ ys.length
  | [], ys, _, _ => Nat.zero_le _
  | x :: xs, ys, nd, h => by
    obtain ⟨h1, h2⟩ := List.nodup_cons.mp nd
    have hx := h x List.mem_cons_self
    have := nd_len (xs := xs) (ys := ys.erase x) h2 fun z hz => (List.mem_erase_of_ne (fun e => h1 (by rw [← e]; exact hz))).mpr (h z (List.mem_cons_of_mem _ hz))
    rw [List.length_erase_of_mem hx] at this
    have := List.length_pos_of_mem hx
    simp only [List.length_cons]
    omega
section
variable {S : Sto} {B : Int}
def g1 : Val → Val
  | .tup [a, _] => a
  | _ => .non
def g2 : Val → Val
  | .tup [_, a] => a
  | _ => .non
end
end K57
namespace K57
open PySem PySem.Spec PyProof.Rows L2 G Th AL KL Fr Od
open K37 (fmod_lt p60 TxOk Sh ShL)
open K08 (ws_cut)
structure Ky where
  p : Int
  c : Int
  nm : Str
def keyV (k : Ky) : Val := .tup [.int k.p, .int k.c, .str k.nm]
structure Bs where
  key : Ky
  st : Int
  who : Str
def bsV (b : Bs) : Val := .tup [keyV b.key, .int b.st, .str b.who]
def boV : Option Bs → Val
  | none => .non
  | some b => bsV b
structure Hd where
  who : Str
  key : Ky
  st : Int
  old : Int
def hdV (h : Hd) : Val := .tup [.str h.who, keyV h.key, .int h.st, .int h.old]
structure Rw where
  name : Str
  best : Option Bs
  hs : List Hd
def rwV (r : Rw) : Val := .tup [.str r.name, boV r.best, .tup (r.hs.map hdV)]
def stV (s : List Rw) : Val := .tup (s.map rwV)
structure KyOk (k : Ky) : Prop where
  p0 : 0 ≤ k.p
  p1 : k.p < 4
  c0 : 0 ≤ k.c
  c1 : k.c < 3
  nm : NmOk k.nm
structure BsOk (ns : List Str) (b : Bs) : Prop where
  key : KyOk b.key
  s0 : 0 ≤ b.st
  s1 : b.st ≤ 9
  who : b.who ∈ ns
structure HdOk (ns : List Str) (h : Hd) : Prop where
  key : KyOk h.key
  s0 : 0 ≤ h.st
  s1 : h.st ≤ 9
  o0 : 0 ≤ h.old
  o1 : h.old ≤ 4
  who : h.who ∈ ns
structure RwOk (ns : List Str) (r : Rw) : Prop where
  best : ∀ b, r.best = some b → BsOk ns b
  hs : ∀ h ∈ r.hs, HdOk ns h
  nd : (r.hs.map Hd.who).Nodup
structure SOk (n : Net) (s : List Rw) : Prop where
  nm : s.map Rw.name = n.names
  row : ∀ r ∈ s, RwOk n.names r
theorem RwOk.len {n : Net} (hn : NOk n) {r : Rw} (h : RwOk n.names r) : r.hs.length ≤ 8 := by
  have := nd_len h.nd (ys := n.names) fun x hx => by
    obtain ⟨d, hd, rfl⟩ := List.mem_map.mp hx
    exact (h.hs d hd).who
  rw [List.length_map] at this
  have l := hn.len
  unfold Net.names at this
  rw [List.length_map] at this
  omega
section
variable {S : Sto} {B : Int} {n : Net}
def mkey (m : Mb) : Ky := ⟨m.pri, m.cls, m.name⟩
theorem WOk.filter {ns : List Str} {ws : List (Str × Str)} (h : WOk ns ws) (us : List (Str × Str)) (s : us.Sublist ws) : WOk ns us := ⟨h.nd.sublist s, Nat.le_trans s.length_le h.len, fun w hw => h.mem w (s.subset hw)⟩
theorem K2.len {a b : Nat} {S T : Sto} (h : K2 a b S T) (l : a + 1 < S.length ∧ b + 1 < S.length ∨ ∃ o, S[S.length - 1]? = some o ∧ S.length - 1 ≠ a ∧ S.length - 1 ≠ b) : S.length ≤ T.length := by
  have go : ∀ k : Nat, k ≠ a → k ≠ b → k < S.length → k < T.length := fun k ha hb hk => lt_of_at (h k _ ha hb (List.getElem?_eq_getElem hk))
  rcases l with ⟨l1, l2⟩ | ⟨o, h1, h2, h3⟩
  · have := go (S.length - 1) (by omega) (by omega) (by omega)
    omega
  · have := lt_of_at h1
    have := go (S.length - 1) h2 h3 (by omega)
    omega

end
end K57
namespace K57
open PySem PySem.Spec PyProof.Rows L2 G Th AL KL Fr Od
open K37 (fmod_lt p60 TxOk Sh ShL)
open K08 (ws_cut)
def bestOf (s : List Rw) (x : Str) : Option Bs := (s.find? fun r => decide (r.name = x)).bind (·.best)
def frs (s : List Rw) (es : List Str) : List Hd := es.filterMap fun e => (bestOf s e).map fun b => ⟨e, b.key, b.st, 0⟩
def kps (fr hs : List Hd) (age : Int) : List Hd := (hs.filter fun h => !decide (h.who ∈ fr.map Hd.who) && decide (h.old < age)).map fun h => ⟨h.who, h.key, h.st, h.old + 1⟩
def sortH (l : List Hd) : List Hd := l.mergeSort fun a b => leS a.who b.who
theorem sortH_perm (l : List Hd) : (sortH l).Perm l := List.mergeSort_perm _ _
theorem sortH_pw (l : List Hd) : (sortH l).Pairwise fun a b => leS a.who b.who = true := List.pairwise_mergeSort (le := fun a b : Hd => leS a.who b.who) (fun a b c => leS_trans _ _ _) (fun a b => leS_total _ _) l
theorem frs_who (s : List Rw) : ∀ es : List Str, ((frs s es).map Hd.who).Sublist es
  | [] => by simp [frs]
  | e :: es => by
    have ih := frs_who s es
    unfold frs at ih ⊢
    rw [List.filterMap_cons]
    cases bestOf s e with
    | none => exact ih.trans (List.sublist_cons_self _ _)
    | some b => exact ih.cons_cons e
theorem mem_frs {s : List Rw} {es : List Str} {h : Hd} : h ∈ frs s es ↔ ∃ b, h.who ∈ es ∧ bestOf s h.who = some b ∧ h = ⟨h.who, b.key, b.st, 0⟩ := by
  unfold frs
  rw [List.mem_filterMap]
  constructor
  · rintro ⟨e, he, h1⟩
    obtain ⟨b, hb, rfl⟩ := Option.map_eq_some_iff.mp h1
    exact ⟨b, he, hb, rfl⟩
  · rintro ⟨b, h1, h2, h3⟩
    exact ⟨h.who, h1, by rw [h2]; exact congrArg some h3.symm⟩
theorem mem_kps {fr hs : List Hd} {age : Int} {h : Hd} : h ∈ kps fr hs age ↔ ∃ g ∈ hs, g.who ∉ fr.map Hd.who ∧ g.old < age ∧ h = ⟨g.who, g.key, g.st, g.old + 1⟩ := by
  unfold kps
  simp only [List.mem_map, List.mem_filter, Bool.and_eq_true, Bool.not_eq_true', decide_eq_false_iff_not, decide_eq_true_eq]
  constructor
  · rintro ⟨g, ⟨h1, h2, h3⟩, rfl⟩
    exact ⟨g, h1, h2, h3, rfl⟩
  · rintro ⟨g, h1, h2, h3, rfl⟩
    exact ⟨g, ⟨h1, h2, h3⟩, rfl⟩
theorem kps_who (fr hs : List Hd) (age : Int) : ((kps fr hs age).map Hd.who).Sublist (hs.map Hd.who) := by
  unfold kps
  rw [List.map_map]
  exact (List.filter_sublist (l := hs)).map Hd.who
theorem both_nd {s : List Rw} {es : List Str} {hs : List Hd} {age : Int} (n1 : es.Nodup) (n2 : (hs.map Hd.who).Nodup) : ((frs s es ++ kps (frs s es) hs age).map Hd.who).Nodup := by
  rw [List.map_append, List.nodup_append]
  refine ⟨(frs_who s es).nodup n1, (kps_who _ _ _).nodup n2, fun a ha b hb e => ?_⟩
  obtain ⟨h, hh, rfl⟩ := List.mem_map.mp hb
  obtain ⟨g, _, h2, _, rfl⟩ := mem_kps.mp hh
  exact h2 (e ▸ ha)

theorem who_inj {l : List Hd} (nd : (l.map Hd.who).Nodup) : ∀ {a b : Hd}, a ∈ l → b ∈ l → a.who = b.who → a = b := by
  induction l with
  | nil => intro a b h; simp at h
  | cons x l ih =>
    rw [List.map_cons, List.nodup_cons] at nd
    intro a b ha hb e
    rcases List.mem_cons.mp ha with e1 | ha <;> rcases List.mem_cons.mp hb with e2 | hb
    · rw [e1, e2]
    · exact absurd (by rw [← e1, e]; exact List.mem_map_of_mem hb) nd.1
    · exact absurd (by rw [← e2, ← e]; exact List.mem_map_of_mem ha) nd.1
    · exact ih nd.2 ha hb e
theorem sortH_uniq {l m : List Hd} (nd : (m.map Hd.who).Nodup) (h : l.Pairwise fun a b => leS a.who b.who = true) (p : l.Perm m) : l = sortH m :=
  List.Perm.eq_of_pairwise (fun a b ha hb h1 h2 => who_inj nd (p.mem_iff.mp ha) ((sortH_perm m).mem_iff.mp hb) (leS_anti h1 h2)) h (sortH_pw m) (p.trans (sortH_perm m).symm)
theorem nd_perm {l m : List Hd} (h : ∀ x, x ∈ l ↔ x ∈ m) (n1 : (l.map Hd.who).Nodup) (n2 : (m.map Hd.who).Nodup) : l.Perm m := by
  have a : l.Nodup := (List.pairwise_map.mp n1).imp fun h e => h (by rw [e])
  have b : m.Nodup := (List.pairwise_map.mp n2).imp fun h e => h (by rw [e])
  exact (List.perm_ext_iff_of_nodup a b).mpr h
def own (m : Mb) : Bs := ⟨mkey m, 0, m.name⟩
section
variable {n : Net} {s : List Rw} {ws : List (Str × Str)} {most age : Int}
theorem SOk.len (so : SOk n s) : s.length = n.ms.length := by
  have := congrArg List.length so.nm
  unfold Net.names at this
  rwa [List.length_map, List.length_map] at this
theorem SOk.nd (hn : NOk n) (so : SOk n s) : (s.map Rw.name).Nodup := so.nm ▸ hn.nd
end
end K57
namespace K57
open PySem PySem.Spec PyProof.Rows L2 G Th AL KL Fr Od
open K37 (fmod_lt p60 TxOk Sh ShL valA_put putA_len)
open K08 (ws_cut)
section
variable {S : Sto} {Q : Val → Sto → Prop} {x : Str}
theorem own_wp {m : Mb} : Wp (own_best_ [mbV m] S) fun v U => v = bsV (own m) ∧ S = U := by
  refine AL.wf ?_; simp only [List.map_cons, List.map_nil, List.length_cons, List.length_nil, Nat.reduceAdd, Nat.reduceSub, List.replicate_succ, List.replicate_zero, List.cons_append, List.nil_append]; unfold own_best_B; array_get_dec
  exact ⟨rfl, rfl⟩
end
end K57
namespace K57
open PySem PySem.Spec PyProof.Rows L2 G Th AL KL Fr Od
open K37 (fmod_lt p60 TxOk Sh ShL valA_put putA_len)
open K08 (ws_cut)
section
variable {S : Sto} {n : Net} {s : List Rw} {ws : List (Str × Str)} {most age : Int}
theorem SOk.name (so : SOk n s) {i : Nat} (h1 : i < s.length) (h2 : i < n.ms.length) : s[i].name = n.ms[i].name := by
  have := so.nm
  have e : (s.map Rw.name)[i]? = (n.names)[i]? := by rw [this]
  unfold Net.names at e
  rw [List.getElem?_map, List.getElem?_map, List.getElem?_eq_getElem h1, List.getElem?_eq_getElem h2] at e
  exact Option.some.inj e
end
end K57
namespace K57
open PySem PySem.Spec PyProof.Rows L2 G Th AL KL Fr Od
open K37 (fmod_lt p60 TxOk Sh ShL valA_put putA_len)
open K08 (ws_cut)
section
variable {S : Sto} {Q : Val → Sto → Prop}
theorem Kn.up {S U V : Sto} {r : Nat} (h : Kn S U) (k : Kx r U V) (l : S.length ≤ r) : Kn S V := fun q o hq => k q o (by have := lt_of_at hq; omega) (h q o hq)
structure Kpt (s : List Rw) (D0 : List Hd) (es : List Str) (Ds : List Hd) : Prop where
  nd : (Ds.map Hd.who).Nodup
  mem : ∀ h, h ∈ Ds ↔ h ∈ frs s es ∨ (h ∈ D0 ∧ h.who ∉ (frs s es).map Hd.who)
  len : Ds.length ≤ D0.length + es.length
def kps0 (hs : List Hd) (age : Int) : List Hd := (hs.filter fun h => decide (h.old < age)).map fun h => ⟨h.who, h.key, h.st, h.old + 1⟩
theorem mem_kps0 {hs : List Hd} {age : Int} {h : Hd} : h ∈ kps0 hs age ↔ ∃ g ∈ hs, g.old < age ∧ h = ⟨g.who, g.key, g.st, g.old + 1⟩ := by
  unfold kps0
  simp only [List.mem_map, List.mem_filter, decide_eq_true_eq]
  constructor
  · rintro ⟨g, ⟨h1, h3⟩, rfl⟩
    exact ⟨g, h1, h3, rfl⟩
  · rintro ⟨g, h1, h3, rfl⟩
    exact ⟨g, ⟨h1, h3⟩, rfl⟩
theorem frs_iff {s : List Rw} {es es' : List Str} (h : ∀ x, x ∈ es ↔ x ∈ es') (z : Hd) : z ∈ frs s es ↔ z ∈ frs s es' := by
  rw [mem_frs, mem_frs]
  exact ⟨fun ⟨b, a, c⟩ => ⟨b, (h _).mp a, c⟩, fun ⟨b, a, c⟩ => ⟨b, (h _).mpr a, c⟩⟩

theorem Kpt.all {s : List Rw} {hs Ds : List Hd} {es es' : List Str} {age : Int} (h : Kpt s (kps0 hs age) es Ds) (e : ∀ x, x ∈ es ↔ x ∈ es') (nd' : es'.Nodup) (ndh : (hs.map Hd.who).Nodup) : sortH Ds = sortH (frs s es' ++ kps (frs s es') hs age) := by
  have fw : ∀ x, x ∈ (frs s es).map Hd.who ↔ x ∈ (frs s es').map Hd.who := fun x => by
    simp only [List.mem_map]
    exact ⟨fun ⟨a, b, c⟩ => ⟨a, (frs_iff e a).mp b, c⟩, fun ⟨a, b, c⟩ => ⟨a, (frs_iff e a).mpr b, c⟩⟩
  refine sortH_uniq (both_nd nd' ndh) (sortH_pw Ds) ((sortH_perm Ds).trans (nd_perm (fun x => ?_) h.nd (both_nd nd' ndh)))
  rw [h.mem, List.mem_append, frs_iff e, fw]
  refine or_congr Iff.rfl ?_
  rw [mem_kps0, mem_kps]
  constructor
  · rintro ⟨⟨g, h1, h2, rfl⟩, h3⟩
    exact ⟨g, h1, h3, h2, rfl⟩
  · rintro ⟨g, h1, h3, h2, rfl⟩
    exact ⟨⟨g, h1, h2, rfl⟩, h3⟩
end
end K57
namespace K57
open PySem PySem.Spec PyProof.Rows L2 G Th AL KL Fr Od
open K37 (fmod_lt p60 TxOk Sh ShL valA_put putA_len)
open K08 (ws_cut)
section
variable {S : Sto} {n : Net} {s : List Rw} {ws : List (Str × Str)} {most age : Int}
end
end K57
namespace K57
open PySem PySem.Spec PyProof.Rows L2 G Th AL KL Fr Od
open K37 (fmod_lt p60 TxOk Sh ShL valA_put putA_len)
open K08 (ws_cut)
section
variable {n : Net} {s : List Rw} {ws : List (Str × Str)} {most age : Int}
variable {S : Sto}
end
end K57
namespace AL
open PySem PySem.Spec PyProof.Rows L2 G Th
theorem kn_app {S : Sto} {o : Ob} : Kn S (S ++ [o]) := fun n x h => by
  have := (List.getElem?_eq_some_iff.mp h).1
  rw [List.getElem?_append_left this]
  exact h
end AL
namespace K56
open PySem PySem.Spec PyProof.Rows L2 G Th AL KL Fr Od
open K57 (own_best_ own_best_B)
open K57 (wireV Mb mbV Net netV WOk NOk NmOk keyV Ky KyOk Tf Rw rwV stV SOk RwOk BsOk HdOk Bs Hd hdV boV bsV K2 own own_wp mkey ends)
open K37 (fmod_lt p60 TxOk Sh ShL)
open K08 (ws_cut)
section
variable {n : Net} {s : List Rw} {S : Sto} {x : Str} {B : Int}
def fst (m : Mb) : Rw := ⟨m.name, some (own m), []⟩
def rowU (m : Mb) (r : Rw) (t : Bool) : Rw := if t = r.best.isSome then r else ⟨m.name, if t then some (own m) else none, []⟩
def fsV : Val → Val
  | .tup [.str x, .int p, .int c] => rwV (fst ⟨x, p, c⟩)
  | _ => .non
theorem fsV_mb (m : Mb) : fsV (mbV m) = rwV (fst m) := rfl
theorem first_wp (hl : n.ms.length ≤ 8) : Wp (first_state_ [netV n] S) fun v U => v = stV (n.ms.map fst) ∧ Kn S U := by
  refine AL.wf ?_; simp only [List.map_cons, List.map_nil, List.length_cons, List.length_nil, Nat.reduceAdd, Nat.reduceSub, List.replicate_succ, List.replicate_zero, List.cons_append, List.nil_append]; unfold first_state_B; array_get_dec
  refine .inl ⟨_, rfl, ?_⟩
  refine lc_pure (fun _ => true) fsV trivial (by rw [List.length_map]; omega) (fun v hv => ?_) ?_
  · obtain ⟨m, hm, rfl⟩ := List.mem_map.mp hv
    refine bn rfl ?_
    array_get_dec
    refine ⟨rfl, rfl, fun _ => ?_⟩
    array_get_dec
    refine own_wp.imp ?_
    rintro _ _ ⟨rfl, rfl⟩
    array_get_dec
    exact ⟨rfl, rfl⟩
  have e : (((n.ms.map mbV).filter fun _ => true).map fsV) = (n.ms.map fst).map rwV := by
    rw [List.filter_eq_self.mpr fun _ _ => rfl, List.map_map, List.map_map]
    exact List.map_congr_left fun m _ => fsV_mb m
  rw [e]
  intro U r e_r l_U g_r k_U
  array_get_dec
  exact ⟨rfl, k_U⟩
def upR (x : Str) (t : Bool) (p : Mb × Rw) : Rw := if p.2.name = x then rowU p.1 p.2 t else p.2
def up (n : Net) (s : List Rw) (x : Str) (t : Bool) : List Rw := (n.ms.zip s).map (upR x t)
def prV (p : Mb × Rw) : Val := .tup [mbV p.1, rwV p.2]
theorem lc_all {α : Type} {ok : Sto → Prop} {p : Pat} {t : BF} {f : EF} {ρ : Rho} {A : List Val → Sto → Prop} (hok : ok S) (L : List α) (k : α → Val) (g : α → Val) (hl : L.length < 900000)
    (h : ∀ a ∈ L, Bn (p.bind (k a) ρ) fun ρ1 => Wp (t ρ1 S) fun c T => c = true ∧ T = S ∧ Wp (f ρ1 S) fun y T => y = g a ∧ T = S) (q : A (L.map g) S) : Wp (lcR p t f ok ρ (L.map k) [] S) A := by
  refine lc_inv (fun i a V => a = (L.take i).map g ∧ V = S) (by rw [List.length_map]; omega) ⟨rfl, rfl⟩ (fun i a V _ ⟨_, e⟩ => e ▸ hok) (fun i a V ⟨e, _⟩ => by rw [e, List.length_map, List.length_take]; omega) ?_ ?_
  · rintro i v a V hv ⟨rfl, rfl⟩
    rw [List.getElem?_map] at hv
    obtain ⟨x, hx, rfl⟩ := Option.map_eq_some_iff.mp hv
    obtain ⟨lt, ex⟩ := List.getElem?_eq_some_iff.mp hx
    obtain ⟨ρ1, hb, z⟩ := h x (List.mem_of_getElem? hx)
    refine ⟨ρ1, hb, z.imp fun c T ⟨c1, c2, z2⟩ => ?_⟩
    subst c1 c2
    refine brT rfl (z2.imp fun y U ⟨y1, y2⟩ => ?_)
    rw [List.take_succ_eq_append_getElem lt, ex, List.map_append, y1]
    exact ⟨rfl, y2⟩
  · rintro a V ⟨rfl, rfl⟩
    rw [List.length_map, List.take_length]
    exact q
end
end K56
namespace K56
open PySem PySem.Spec PyProof.Rows L2 G Th AL KL Fr Od
open K57 (own_best_ own_best_B)
open K57 (wireV Mb mbV Net netV WOk NOk NmOk keyV Ky KyOk Tf Rw rwV stV SOk RwOk BsOk HdOk Bs Hd hdV boV bsV K2 own own_wp mkey ends)
open K37 (fmod_lt p60 TxOk Sh ShL)
open K08 (ws_cut)
section
variable {n : Net} {s s0 : List Rw} {S : Sto} {x : Str} {B : Int} {ns : List Int} {i : Nat}
end
end K56
namespace AL
open PySem PySem.Spec PyProof.Rows L2 G Th
variable [TT]
section
variable {X : Cx} {K : PySem.W.Frag}

end
section
variable {X : Cx} {K : PySem.W.Frag}
end
end AL
namespace K60
open PySem PySem.Spec PyProof.Rows L2 G Th AL
open K57 (own_best_ own_best_B)
end K60
namespace Od
open PySem PySem.Spec PyProof.Rows L2 SeqAt
end Od
namespace AL
open PySem PySem.Spec PyProof.Rows L2 G Th Od
variable [TT]
section
variable {X : Cx} {K : PySem.W.Frag}
end
end AL
namespace K62
open PySem PySem.Spec PyProof.Rows L2 G Th AL
open K57 (own_best_ own_best_B)

end K62
namespace K57
open PySem PySem.Spec PyProof.Rows L2 G Th AL KL Fr Od
open K37 (fmod_lt p60 TxOk Sh ShL valA_put putA_len)
open K08 (ws_cut)
end K57
namespace Bf
section
variable {α : Type} {nb : α → α → Prop} {s x y z : α}

inductive W (nb : α → α → Prop) (s : α) : Nat → α → Prop
  | nil : W nb s 0 s
  | snoc {n : Nat} {x y : α} : W nb s n x → nb x y → W nb s (n + 1) y
theorem W.trans {n : Nat} (h : W nb s n x) : ∀ {m : Nat} {y : α}, W nb x m y → W nb s (n + m) y := by
  intro m y g
  induction g with
  | nil => exact h
  | snoc _ e ih => exact ih.snoc e
theorem W.one (h : nb x y) : W nb x 1 y := .snoc .nil h
theorem W.symm (sy : ∀ a b, nb a b → nb b a) {n : Nat} (h : W nb s n x) : W nb x n s := by
  induction h with
  | nil => exact .nil
  | @snoc n x y _ e ih =>
    have := (W.one (sy _ _ e)).trans ih
    rwa [Nat.add_comm] at this
def Rc (nb : α → α → Prop) (s x : α) : Prop := ∃ n, W nb s n x
theorem Rc.refl : Rc nb s s := ⟨0, .nil⟩
theorem Rc.trans (h : Rc nb s x) (g : Rc nb x y) : Rc nb s y := let ⟨n, a⟩ := h; let ⟨m, b⟩ := g; ⟨n + m, a.trans b⟩
theorem Rc.symm (sy : ∀ a b, nb a b → nb b a) (h : Rc nb s x) : Rc nb x s := let ⟨n, a⟩ := h; ⟨n, a.symm sy⟩

structure BF (nb : α → α → Prop) (s : α) (D : List (α × Nat)) : Prop where
  nd : (D.map (·.1)).Nodup
  st : (s, 0) ∈ D
  wk : ∀ x d, (x, d) ∈ D → W nb s d x
  cl : ∀ x d y, (x, d) ∈ D → nb x y → ∃ e, e ≤ d + 1 ∧ (y, e) ∈ D
theorem at_uniq : ∀ {D : List (α × Nat)} {x : α} {d e : Nat}, (D.map (·.1)).Nodup → (x, d) ∈ D → (x, e) ∈ D → d = e
  | [], _, _, _, _, h, _ => nomatch h
  | p :: D, x, d, e, nd, h, g => by
    rw [List.map_cons, List.nodup_cons] at nd
    have out : ∀ {c : Nat}, (p.1, c) ∈ D → False := fun {c} g => nd.1 (List.mem_map_of_mem (f := (·.1)) g)
    rcases List.mem_cons.mp h with h1 | h1 <;> rcases List.mem_cons.mp g with g1 | g1
    · rw [← h1] at g1
      exact (congrArg Prod.snd g1).symm
    · exact (out (by rw [← h1]; exact g1)).elim
    · exact (out (by rw [← g1]; exact h1)).elim
    · exact at_uniq nd.2 h1 g1
theorem BF.all {D : List (α × Nat)} (h : BF nb s D) {n : Nat} (w : W nb s n x) : ∃ d, d ≤ n ∧ (x, d) ∈ D := by
  induction w with
  | nil => exact ⟨0, Nat.le_refl _, h.st⟩
  | snoc _ e ih =>
    obtain ⟨d, l, m⟩ := ih
    obtain ⟨d', l', m'⟩ := h.cl _ _ _ m e
    exact ⟨d', by omega, m'⟩
theorem BF.le {D : List (α × Nat)} (h : BF nb s D) {n d : Nat} (w : W nb s n x) (m : (x, d) ∈ D) : d ≤ n := by
  obtain ⟨d', l, m'⟩ := h.all w
  rw [at_uniq h.nd m m']
  exact l
theorem BF.mem {D : List (α × Nat)} (h : BF nb s D) : x ∈ D.map (·.1) ↔ Rc nb s x := by
  constructor
  · intro m
    obtain ⟨⟨y, d⟩, m', rfl⟩ := List.mem_map.mp m
    exact ⟨d, h.wk _ _ m'⟩
  · rintro ⟨n, w⟩
    obtain ⟨d, _, m⟩ := h.all w
    exact List.mem_map_of_mem (f := (·.1)) m

structure Qu (nb : α → α → Prop) (s : α) (D : List (α × Nat)) (p : Nat) : Prop where
  nd : (D.map (·.1)).Nodup
  st : (s, 0) ∈ D
  wk : ∀ x d, (x, d) ∈ D → W nb s d x
  so : D.Pairwise fun a b => a.2 ≤ b.2
  le : p ≤ D.length
  hi : ∀ q, D[p]? = some q → ∀ r ∈ D, r.2 ≤ q.2 + 1
  cl : ∀ i x d y, i < p → D[i]? = some (x, d) → nb x y → ∃ e, e ≤ d + 1 ∧ (y, e) ∈ D
theorem Qu.init : Qu nb s [(s, 0)] 0 := ⟨by simp, by simp, fun x d h => by
  rw [List.mem_singleton] at h
  cases h
  exact .nil, by simp, by simp, fun q hq r hr => by
    rw [List.mem_singleton] at hr
    subst hr
    exact Nat.zero_le _, fun i x d y h => absurd h (Nat.not_lt_zero _)⟩

structure Qi (nb : α → α → Prop) (s : α) (D : List (α × Nat)) (p : Nat) (x : α) (d : Nat) (ys : List α) : Prop where
  at_ : D[p]? = some (x, d)
  nd : (D.map (·.1)).Nodup
  st : (s, 0) ∈ D
  wk : ∀ x d, (x, d) ∈ D → W nb s d x
  so : D.Pairwise fun a b => a.2 ≤ b.2
  hi : ∀ r ∈ D, r.2 ≤ d + 1
  cl : ∀ i x d y, i < p → D[i]? = some (x, d) → nb x y → ∃ e, e ≤ d + 1 ∧ (y, e) ∈ D
  ys : ∀ y ∈ ys, ∃ e, e ≤ d + 1 ∧ (y, e) ∈ D
theorem Qi.old {D : List (α × Nat)} {p d : Nat} {ys : List α} (h : Qi nb s D p x d ys) (m : y ∈ D.map (·.1)) : Qi nb s D p x d (ys ++ [y]) := ⟨h.at_, h.nd, h.st, h.wk, h.so, h.hi, h.cl, fun z hz => by
  rcases List.mem_append.mp hz with hz | hz
  · exact h.ys z hz
  · rw [List.mem_singleton] at hz
    subst hz
    obtain ⟨⟨z, e⟩, m', rfl⟩ := List.mem_map.mp m
    exact ⟨e, h.hi _ m', m'⟩⟩
structure Lv (nb : α → α → Prop) (s : α) (D : List (α × Nat)) (E : List α) (m : Nat) : Prop where
  nd : (D.map (·.1)).Nodup
  st : (s, 0) ∈ D
  wk : ∀ x d, (x, d) ∈ D → W nb s d x
  hi : ∀ r ∈ D, r.2 ≤ m
  ed : ∀ x, x ∈ E ↔ (x, m) ∈ D
  cl : ∀ x d y, d < m → (x, d) ∈ D → nb x y → ∃ e, e ≤ d + 1 ∧ (y, e) ∈ D
theorem Lv.init : Lv nb s [(s, 0)] [s] 0 := ⟨by simp, by simp, fun x d h => by
  rw [List.mem_singleton] at h
  cases h
  exact .nil, by simp, by simp, fun x d y h => absurd h (Nat.not_lt_zero _)⟩

structure Li (nb : α → α → Prop) (s : α) (D : List (α × Nat)) (E : List α) (m : Nat) (M : List α) (xs : List α) (x : α) (ys : List α) : Prop where
  nd : (D.map (·.1)).Nodup
  st : (s, 0) ∈ D
  wk : ∀ x d, (x, d) ∈ D → W nb s d x
  hi : ∀ r ∈ D, r.2 ≤ m + 1
  ed : ∀ x, x ∈ E ↔ (x, m) ∈ D
  mo : ∀ x, x ∈ M ↔ (x, m + 1) ∈ D
  cl : ∀ x d y, d < m → (x, d) ∈ D → nb x y → ∃ e, e ≤ d + 1 ∧ (y, e) ∈ D
  xs : ∀ x ∈ xs, ∀ y, nb x y → y ∈ D.map (·.1)
  ys : ∀ y ∈ ys, nb x y → y ∈ D.map (·.1)
theorem Li.old {D : List (α × Nat)} {E M : List α} {m : Nat} {xs ys : List α} (h : Li nb s D E m M xs x ys) (q : nb x y → y ∈ D.map (·.1)) : Li nb s D E m M xs x (ys ++ [y]) := ⟨h.nd, h.st, h.wk, h.hi, h.ed, h.mo, h.cl, h.xs, fun z hz => by
  rcases List.mem_append.mp hz with hz | hz
  · exact h.ys z hz
  · rw [List.mem_singleton] at hz
    subst hz
    exact q⟩
theorem Li.next {D : List (α × Nat)} {E M : List α} {m : Nat} {xs ys : List α} (h : Li nb s D E m M xs x ys) (all : ∀ y, nb x y → y ∈ ys) (x' : α) : Li nb s D E m M (xs ++ [x]) x' [] := ⟨h.nd, h.st, h.wk, h.hi, h.ed, h.mo, h.cl, fun z hz u hu => by
  rcases List.mem_append.mp hz with hz | hz
  · exact h.xs z hz u hu
  · rw [List.mem_singleton] at hz
    subst hz
    exact h.ys u (all u hu) hu, fun _ h => nomatch h⟩
end
end Bf
namespace K13
open PySem PySem.Spec PyProof.Rows L2 G Th AL
open K37 (common_divisor_ common_divisor_B ratio_ ratio_B less_ less_B parted_ parted_B drift_of_ drift_of_B moves_into_ moves_into_B)

end K13
namespace K13
open PySem PySem.Spec PyProof.Rows L2 G Th AL K37 KL Fr
open K08 (F8 Sc wAt)
def Stp (es : List Ev) (a b : Nat) : Prop := (es.getD b dEv).deed = .hear a ∨ lastAt es b (es.getD b dEv).name = some a
inductive Rch (es : List Ev) (x : Nat) : Nat → Prop
  | refl : Rch es x x
  | step {a b : Nat} : Rch es x a → Stp es a b → Rch es x b
section
variable {fl : Fl} {es : List Ev} {ws : List Fq} {x a b k : Nat}
end
end K13
namespace K60
open PySem PySem.Spec PyProof.Rows L2 G Th AL KL Fr Od Bf
open K57 (own_best_ own_best_B)
open K57 (wireV Mb mbV Net netV pool WOk NOk NmOk endsL ends oes oes_perm keyV mkey own own_wp bsV nd_len tl sortS_pw)
open K37 (fmod_lt p60 TxOk Sh ShL valA_put putA_len)
open K08 (ws_cut)
def nbl (ws : List (Str × Str)) (up : List Str) (x : Str) : List Str := (oes ws x).filter fun y => decide (y ∈ up)
def Nb (ws : List (Str × Str)) (up : List Str) (x y : Str) : Prop := y ∈ up ∧ y ∈ endsL ws x

structure UOk (n : Net) (up : List Str) (ws : List (Str × Str)) : Prop where
  sub : up.Sublist n.names
  w : WOk n.names ws
section
variable {n : Net} {up : List Str} {ws : List (Str × Str)} {S : Sto} {x y s : Str}
theorem UOk.nd (hn : NOk n) (u : UOk n up ws) : up.Nodup := u.sub.nodup hn.nd
theorem UOk.len (hn : NOk n) (u : UOk n up ws) : up.length ≤ 8 := by
  have := u.sub.length_le
  have h := hn.len
  unfold Net.names at this
  rw [List.length_map] at this
  omega
theorem UOk.nm (hn : NOk n) (u : UOk n up ws) (h : x ∈ up) : NmOk x := hn.nm (u.sub.subset h)
theorem UOk.oes (u : UOk n up ws) (x : Str) : (oes ws x).Perm (endsL ws x) := oes_perm fun v hv => (u.w.mem v hv).2.2
structure Nr (S : Sto) (d : Nat) (ws : List (Str × Str)) (up : List Str) : Prop where
  dic : ∃ kvs, S[d]? = some (.dic kvs) ∧ ∀ x ∈ up, ∃ r, valA kvs (.inr x) = some (.ref r) ∧ S[r]? = some (.lst ((K60.nbl ws up x).map .str))
theorem Nr.kn {T : Sto} {d : Nat} (h : Nr S d ws up) (k : Kn S T) : Nr T d ws up := by
  obtain ⟨kvs, h1, h2⟩ := h.dic
  refine ⟨kvs, k _ _ h1, fun x hx => ?_⟩
  obtain ⟨r, e, g⟩ := h2 x hx
  exact ⟨r, e, k _ _ g⟩
end
end K60
namespace K47
open PySem PySem.Spec PyProof.Rows L2 G Th AL K37 KL Fr
def lowOk (p : Pr) (x : Fq) : Bool := match p.1 with
  | none => true
  | some l => !decide (x.1 * l.2 < l.1 * x.2)
def highOk (p : Pr) (x : Fq) : Bool := match p.2 with
  | none => true
  | some h => !decide (h.1 * x.2 < x.1 * h.2)
def isIn (p : Pr) (x : Fq) : Bool := lowOk p x && highOk p x
def count (ps : List Pr) (x : Fq) : Nat := (ps.filter fun p => isIn p x).length
def opens (b : Bool) (ps : List Pr) : Nat := (ps.filter fun p => (sel b p).isNone).length
def most (ps : List Pr) : Int := maxI (opens false ps : Nat) ((ps.filterMap (sel false)).map fun e => (count ps e : Int))
end K47
namespace K47
open PySem PySem.Spec PyProof.Rows L2 G Th AL K37 KL Fr
end K47
namespace K60
open PySem PySem.Spec PyProof.Rows L2 G Th AL KL Fr Od Bf
open K57 (own_best_ own_best_B)
open K57 (wireV Mb mbV Net netV pool WOk NOk NmOk endsL ends oes oes_perm keyV mkey own own_wp bsV nd_len tl sortS_pw K2)
open K37 (fmod_lt p60 TxOk Sh ShL valA_put putA_len)
open K08 (ws_cut)


def dK (D : List (Str × Nat)) : List (Key × Val) := D.map fun p => (.inr p.1, .int ((p.2 : Nat) : Int))
end K60
namespace K60
open PySem PySem.Spec PyProof.Rows L2 G Th AL KL Fr Od Bf
open K57 (own_best_ own_best_B)
open K57 (wireV Mb mbV Net netV pool WOk NOk NmOk endsL ends oes oes_perm keyV mkey own own_wp bsV nd_len tl sortS_pw K2 vSortGT ok_sort)
open K37 (fmod_lt p60 TxOk Sh ShL valA_put putA_len)
open K08 (ws_cut)
section
variable {n : Net} {up : List Str} {ws : List (Str × Str)} {S : Sto} {x y s : Str}
open Classical in
noncomputable def piece (ws : List (Str × Str)) (up : List Str) (x : Str) : List Str := up.filter fun y => decide (Rc (Nb ws up) x y)
theorem UOk.pw (hn : NOk n) (u : UOk n up ws) : up.Pairwise fun a b => leS a b = true := by
  have := sortS_pw n.names
  rw [hn.nsrt] at this
  exact this.sublist u.sub
theorem rc_up (hx : x ∈ up) (h : Rc (Nb ws up) x y) : y ∈ up := by
  obtain ⟨k, w⟩ := h
  cases w with
  | nil => exact hx
  | snoc _ e => exact e.1
end
end K60
namespace K60
open PySem PySem.Spec PyProof.Rows L2 G Th AL KL Fr Od Bf
open K57 (own_best_ own_best_B)
open K57 (wireV Mb mbV Net netV pool WOk NOk NmOk endsL ends oes oes_perm keyV mkey own own_wp bsV nd_len tl sortS_pw K2 vSortGT ok_sort Ky KyOk)
open K37 (fmod_lt p60 TxOk Sh ShL valA_put putA_len)
open K08 (ws_cut)
section
variable {n : Net} {up : List Str} {ws : List (Str × Str)} {S : Sto} {x y z s : Str}
def keyN (n : Net) (x : Str) : Ky := match n.ms.find? fun m => decide (m.name = x) with
  | some m => mkey m
  | none => ⟨0, 0, x⟩
def kyV (n : Net) (x : Str) : Val := keyV (keyN n x)
open Classical in
noncomputable def ldr (n : Net) (ws : List (Str × Str)) (up : List Str) (x : Str) : Str := if h : ∃ y ∈ piece ws up x, ∀ z ∈ piece ws up x, ltV (kyV n z) (kyV n y) = false then h.choose else x
def IsD (ws : List (Str × Str)) (up : List Str) (s x : Str) (d : Nat) : Prop := W (Nb ws up) s d x ∧ ∀ e, W (Nb ws up) s e x → d ≤ e
open Classical in
noncomputable def dst (ws : List (Str × Str)) (up : List Str) (s x : Str) : Nat := if h : ∃ d, IsD ws up s x d then h.choose else 0

noncomputable def nrs (n : Net) (ws : List (Str × Str)) (up : List Str) (x : Str) : List Str := (ends ws x).filter fun z => decide (z ∈ up) && decide (dst ws up (ldr n ws up x) z + 1 = dst ws up (ldr n ws up x) x)
noncomputable def who (n : Net) (ws : List (Str × Str)) (up : List Str) (x : Str) : Str := (nrs n ws up x).headD x
end
end K60
namespace K13
open PySem PySem.Spec PyProof.Rows L2 G Th AL K37 KL Fr
open K08 (F8 Sc wAt)
abbrev at_ (d : List (Key × Val)) (b : Nat) : Option Val := valA d (.inl (b : Int))
structure Cf (es : List Ev) (x i : Nat) (d : List (Key × Val)) : Prop where
  sz : d.length ≤ 1 + i
  self : at_ d x = some .non
  out : ∀ b v, b ≠ x → at_ d b = some v → ∃ a : Nat, v = .int (a : Int) ∧ Stp es a b ∧ (at_ d a).isSome ∧ b < i ∧ Rch es x b ∧ x < b
  inn : ∀ b, b < i → Rch es x b → (at_ d b).isSome
section
variable {fl : Fl} {es : List Ev} {ws : List Fq} {x i : Nat} {d : List (Key × Val)}
theorem Cf.nil : Cf es x 0 [(.inl (x : Int), .non)] := by
  have e : ∀ b : Nat, at_ [(.inl (x : Int), Val.non)] b = if b = x then some .non else none := fun b => by
    unfold at_ valA
    by_cases c : b = x
    · subst c
      simp
    · have : ¬ (x : Int) = b := by omega
      simp [c, this]
  refine ⟨by simp, by rw [e, if_pos rfl], fun b v hb hv => ?_, fun b hb => by omega⟩
  rw [e, if_neg hb] at hv
  cases hv
end
end K13
namespace K13
open PySem PySem.Spec PyProof.Rows L2 G Th AL K37 KL Fr
open K08 (F8 Sc wAt)
end K13
namespace K13
open PySem PySem.Spec PyProof.Rows L2 G Th AL K37 KL Fr
open K08 (F8 Sc wAt)
end K13
namespace K60
open PySem PySem.Spec PyProof.Rows L2 G Th AL KL Fr Od Bf
open K57 (own_best_ own_best_B)
open K57 (wireV Mb mbV Net netV pool WOk NOk NmOk endsL ends oes oes_perm keyV mkey own own_wp bsV nd_len tl sortS_pw K2 vSortGT ok_sort Ky KyOk)
open K37 (fmod_lt p60 TxOk Sh ShL valA_put putA_len)
open K08 (ws_cut)

end K60
namespace K60
open PySem PySem.Spec PyProof.Rows L2 G Th AL KL Fr Od Bf
open K57 (own_best_ own_best_B)
open K57 (wireV Mb mbV Net netV pool WOk NOk NmOk endsL ends oes oes_perm keyV mkey own own_wp bsV nd_len tl sortS_pw K2 vSortGT ok_sort Ky KyOk Tf)
open K37 (fmod_lt p60 TxOk Sh ShL valA_put putA_len)
open K08 (ws_cut)

end K60
namespace K62
open PySem PySem.Spec PyProof.Rows L2 G Th AL KL Fr Od Bf
open K57 (wireV Mb mbV Net netV WOk NOk NmOk endsL keyV mkey Ky KyOk tl)
open K60 (UOk piece kyV keyN Nb rc_up ldr dst IsD nrs who)
structure Tw where
  nm : Str
  k : Str
  d : Nat
  w : Str
section
variable {n : Net} {up : List Str} {ws : List (Str × Str)} {x y z s : Str} {T : List Tw}
structure TOk (n : Net) (up : List Str) (T : List Tw) : Prop where
  nm : T.map Tw.nm = up
  k : ∀ t ∈ T, t.k ∈ n.names
structure Good (n : Net) (ws : List (Str × Str)) (up : List Str) (T : List Tw) : Prop where
  key : ∀ t ∈ T, ltV (kyV n t.nm) (kyV n t.k) = false
  zero : ∀ t ∈ T, t.d = 0 → t.k = t.nm ∧ t.w = t.nm
  next : ∀ t ∈ T, 0 < t.d → Nb ws up t.nm t.w ∧ ∃ u ∈ T, u.nm = t.w ∧ u.k = t.k ∧ u.d + 1 = t.d
  far : ∀ t ∈ T, ∀ u ∈ T, Nb ws up t.nm u.nm → u.k = t.k ∧ u.d ≤ t.d + 1 ∧ t.d ≤ u.d + 1
theorem TOk.get (h : TOk n up T) (hx : x ∈ up) : ∃ t ∈ T, t.nm = x := by
  rw [← h.nm] at hx
  exact List.mem_map.mp hx
theorem TOk.mem (h : TOk n up T) {t : Tw} (ht : t ∈ T) : t.nm ∈ up := by
  rw [← h.nm]
  exact List.mem_map_of_mem ht
theorem nm_one : ∀ {T : List Tw}, (T.map Tw.nm).Nodup → ∀ {t u : Tw}, t ∈ T → u ∈ T → t.nm = u.nm → t = u
  | [], _, _, _, h, _, _ => nomatch h
  | a :: T, nd, t, u, ht, hu, e => by
    rw [List.map_cons, List.nodup_cons] at nd
    rcases List.mem_cons.mp ht with h1 | h1 <;> rcases List.mem_cons.mp hu with h2 | h2
    · rw [h1, h2]
    · exact absurd (by rw [← h1, e]; exact List.mem_map_of_mem h2) nd.1
    · exact absurd (by rw [← h2, ← e]; exact List.mem_map_of_mem h1) nd.1
    · exact nm_one nd.2 h1 h2 e
theorem TOk.one (hn : NOk n) (u : UOk n up ws) (h : TOk n up T) {t r : Tw} (ht : t ∈ T) (hr : r ∈ T) (e : t.nm = r.nm) : t = r := nm_one (by rw [h.nm]; exact u.nd hn) ht hr e
theorem Good.same (g : Good n ws up T) (ok : TOk n up T) {t : Tw} (ht : t ∈ T) {k : Nat} (w : W (Nb ws up) t.nm k y) : ∀ u ∈ T, u.nm = y → (hn : NOk n) → UOk n up ws → u.k = t.k := by
  induction w with
  | nil => exact fun u hu e hn uo => by rw [ok.one hn uo hu ht e]
  | @snoc k a b w e ih =>
    intro u hu eu hn uo
    obtain ⟨r, hr, er⟩ := ok.get (rc_up (ok.mem ht) ⟨k, w⟩)
    have := ih r hr er hn uo
    rw [← this]
    exact (g.far r hr u hu (by rw [er, eu]; exact e)).1
end
end K62
namespace K62
open PySem PySem.Spec PyProof.Rows L2 G Th AL KL Fr Od Bf
open K57 (own_best_ own_best_B)
open K57 (wireV Mb mbV Net netV WOk NOk NmOk endsL keyV mkey Ky KyOk tl nd_len)

open K60 (UOk piece kyV keyN Nb ldr dst nrs Nr nbl)
open K37 (fmod_lt p60 TxOk Sh ShL valA_put putA_len)
open K08 (ws_cut)
section
variable {n : Net} {up : List Str} {ws : List (Str × Str)} {x y z s : Str} {T : List Tw} {S : Sto}
def RowOk (n : Net) (ws : List (Str × Str)) (up : List Str) (T : List Tw) (t : Tw) : Prop :=
  ltV (kyV n t.nm) (kyV n t.k) = false ∧ (t.d = 0 → t.k = t.nm ∧ t.w = t.nm) ∧ (0 < t.d → Nb ws up t.nm t.w ∧ ∃ u ∈ T, u.nm = t.w ∧ u.k = t.k ∧ u.d + 1 = t.d)
end
end K62
namespace RO
open PySem PySem.Spec PyProof.Rows L2 G Th AL
section
variable {ρ : Rho} {S : Sto} {Q : Val → Sto → Prop} {N : Rho → Sto → Prop} {R : Val → Sto → Prop} {C f : Str} {g o v : EF} {ga gk : AF} {F : FA} {k : Nat}
theorem wMkK {n m : Nat} {gA : List Val → List Val → List Val} (z : Wp (ga ρ S) fun as T => Wp (gk ρ T) fun bs T2 => Sd (as.length = n ∧ bs.length = m) (Wp (F (gA (.ref T2.length :: as) bs) (T2 ++ [.obj C []])) fun x T3 => x = .non ∧ Q (.ref T2.length) T3)) : Wp (eMkK C F n m gA ga gk ρ S) Q := by
  obtain ⟨as, T, e, bs, T2, e2, hl, x, T3, e3, rfl, q⟩ := z
  exact ⟨_, T3, by unfold eMkK; rw [e]; simp only [Option.bind_some, e2, if_pos hl, e3], q⟩
theorem ws_fldS (z : Wp (v ρ S) fun y S1 => Wp (o ρ S1) fun x S2 => ∃ n fs, x = .ref n ∧ S2[n]? = some (.obj C fs) ∧ fs.length < 900 ∧ Pt S2 n (.obj C (putV f y fs)) (N ρ)) : Ws (sFldS C f o v ρ S) N R := by
  obtain ⟨y, S1, e, x, S2, e2, n, fs, rfl, h, hl, p⟩ := z
  refine ⟨?_⟩
  unfold sFldS
  rw [e]
  dsimp only
  rw [e2]
  dsimp only
  rw [objAt_of h]
  dsimp only
  rw [if_pos hl]
  exact p.use h
end
end RO
namespace K58
open PySem PySem.Spec PyProof.Rows L2 G Th AL KL Fr Od RO
open K57 (own_best_ own_best_B)
open K56 (first_state_ first_state_B)
open K57 (wireV Mb mbV Net netV WOk NOk NmOk keyV Ky KyOk Tf Rw rwV stV SOk RwOk BsOk HdOk Bs Hd hdV boV bsV K2 own mkey vSortGT ok_sort pool nm_pool)
open K56 (up upR rowU first_wp lc_all)

open K37 (fmod_lt p60 TxOk Sh ShL)
open K08 (ws_cut)
section
variable {n : Net} {s : List Rw} {ws W : List (Str × Str)} {S T : Sto} {x y : Str} {most age : Int} {r rt k : Nat} {Q : Val → Sto → Prop}
def rF (n : Net) (most age : Int) (s : List Rw) (ws : List (Str × Str)) (rt : Nat) : List (Str × Val) := [("net", netV n), ("most", .int most), ("age", .int age), ("state", stV s), ("wires_up", .tup (ws.map wireV)), ("turns", .ref rt)]
structure Rn (S : Sto) (r rt : Nat) (n : Net) (most age : Int) (s : List Rw) (ws : List (Str × Str)) (k : Nat) : Prop where
  ob : S[r]? = some (.obj "NetRun" (rF n most age s ws rt))
  tn : ∃ ts, S[rt]? = some (.lst ts) ∧ ts.length = k
  ne : r ≠ rt
theorem Rn.kn (h : Rn S r rt n most age s ws k) (j : Kn S T) : Rn T r rt n most age s ws k := ⟨j _ _ h.ob, h.tn.imp fun _ ⟨a, b⟩ => ⟨j _ _ a, b⟩, h.ne⟩
theorem Rn.kx {q : Nat} (h : Rn S r rt n most age s ws k) (j : Kx q S T) (h1 : r ≠ q) (h2 : rt ≠ q) : Rn T r rt n most age s ws k := ⟨j _ _ h1 h.ob, h.tn.imp fun _ ⟨a, b⟩ => ⟨j _ _ h2 a, b⟩, h.ne⟩
theorem init_wp (h : S[r]? = some (.obj "NetRun" [])) (l8 : n.ms.length ≤ 8) : Wp (NetRun_init_ [.ref r, netV n, .int most, .int age] S) fun v T => v = .non ∧ (∃ rt, Rn T r rt n most age (n.ms.map K56.fst) n.ws 0 ∧ S.length ≤ rt) ∧ Kx r S T ∧ S.length ≤ T.length := by
  have lr := lt_of_at h
  refine AL.wf ?_; simp only [List.map_cons, List.map_nil, List.length_cons, List.length_nil, Nat.reduceAdd, Nat.reduceSub, List.replicate_succ, List.replicate_zero, List.cons_append, List.nil_append]; unfold NetRun_init_B; array_get_dec
  refine ws_fldS (wv rfl (wv rfl ⟨_, _, rfl, h, by decide, ?_⟩))
  intro U1 l_U1 g_U1 k_U1
  refine ws_seq (ws_fldS (wv rfl (wv rfl ⟨_, _, rfl, g_U1, of_decide_eq_true rfl, ?_⟩)))
  intro U2 l_U2 g_U2 k_U2
  refine ws_seq (ws_fldS (wv rfl (wv rfl ⟨_, _, rfl, g_U2, of_decide_eq_true rfl, ?_⟩)))
  intro U3 l_U3 g_U3 k_U3
  refine ws_seq (ws_fldS ?_)
  array_get_dec
  refine (first_wp l8).imp ?_
  rintro _ U4 ⟨rfl, k4⟩
  refine wv rfl ⟨_, _, rfl, k4 _ _ g_U3, of_decide_eq_true rfl, ?_⟩
  intro U5 l_U5 g_U5 k_U5
  refine ws_seq (ws_fldS ?_)
  array_get_dec
  refine ⟨_, _, rfl, g_U5, of_decide_eq_true rfl, ?_⟩
  intro U6 l_U6 g_U6 k_U6
  refine ws_fldS ?_
  array_get_dec
  intro U7 rt e_rt l_U7 g_rt k_U7
  refine wv rfl ⟨_, _, rfl, k_U7 _ _ g_U6, of_decide_eq_true rfl, ?_⟩
  intro U8 l_U8 g_U8 k_U8
  have l4 := k4.len
  have kx : Kx r S U8 := fun q o hq e => k_U8 _ _ hq (k_U7 _ _ (k_U6 _ _ hq (k_U5 _ _ hq (k4 _ _ (k_U3 _ _ hq (k_U2 _ _ hq (k_U1 _ _ hq e)))))))
  exact ⟨trivial, ⟨rt, ⟨g_U8, ⟨[], k_U8 _ _ (by omega) g_rt, rfl⟩, by omega⟩, by omega⟩, kx, by omega⟩
instance kyDec : DecidableEq K57.Ky := fun a b => if h : a.p = b.p ∧ a.c = b.c ∧ a.nm = b.nm then isTrue (by
  obtain ⟨_, _, _⟩ := a
  obtain ⟨_, _, _⟩ := b
  obtain ⟨rfl, rfl, rfl⟩ := h
  rfl) else isFalse fun e => h (e ▸ ⟨rfl, rfl, rfl⟩)
instance bsDec : DecidableEq K57.Bs := fun a b => if h : a.key = b.key ∧ a.st = b.st ∧ a.who = b.who then isTrue (by
  obtain ⟨_, _, _⟩ := a
  obtain ⟨_, _, _⟩ := b
  obtain ⟨rfl, rfl, rfl⟩ := h
  rfl) else isFalse fun e => h (e ▸ ⟨rfl, rfl, rfl⟩)
end
end K58
namespace K58
open PySem PySem.Spec PyProof.Rows L2 G Th AL KL Fr Od RO
open K57 (own_best_ own_best_B)
open K56 (first_state_ first_state_B)
open K57 (wireV Mb mbV Net netV WOk NOk NmOk keyV Ky KyOk Tf Rw rwV stV SOk RwOk BsOk HdOk Bs Hd hdV boV bsV K2 own mkey vSortGT ok_sort pool nm_pool nd_len)
open K56 (up upR rowU first_wp lc_all)

open K37 (fmod_lt p60 TxOk Sh ShL)
open K08 (ws_cut)
section
variable {n : Net} {s : List Rw} {ws W : List (Str × Str)} {S T : Sto} {x y : Str} {most age : Int} {r rt k : Nat} {Q : Val → Sto → Prop}

theorem lc_fil {α : Type} {ok : Sto → Prop} {p : Pat} {t : BF} {f : EF} {ρ : Rho} {A : List Val → Sto → Prop} (hok : ok S) (L : List α) (k : α → Val) (b : α → Bool) (g : α → Val) (hl : L.length < 900000)
    (h : ∀ a ∈ L, Bn (p.bind (k a) ρ) fun ρ1 => Wp (t ρ1 S) fun c T => c = b a ∧ T = S ∧ (b a = true → Wp (f ρ1 S) fun y T => y = g a ∧ T = S)) (q : A ((L.filter b).map g) S) : Wp (lcR p t f ok ρ (L.map k) [] S) A := by
  refine lc_inv (fun i a V => a = ((L.take i).filter b).map g ∧ V = S) (by rw [List.length_map]; omega) ⟨rfl, rfl⟩ (fun i a V _ ⟨_, e⟩ => e ▸ hok) (fun i a V ⟨e, _⟩ => ?_) ?_ ?_
  · rw [e, List.length_map]
    have := List.length_filter_le b (L.take i)
    rw [List.length_take] at this
    omega
  · rintro i v a V hv ⟨rfl, rfl⟩
    rw [List.getElem?_map] at hv
    obtain ⟨x, hx, rfl⟩ := Option.map_eq_some_iff.mp hv
    obtain ⟨lt, ex⟩ := List.getElem?_eq_some_iff.mp hx
    obtain ⟨ρ1, hb, z⟩ := h x (List.mem_of_getElem? hx)
    refine ⟨ρ1, hb, z.imp fun c T ⟨c1, c2, z2⟩ => ?_⟩
    subst c1 c2
    have tk : L.take (i + 1) = L.take i ++ [x] := by rw [List.take_succ_eq_append_getElem lt, ex]
    rw [tk, List.filter_append, List.map_append]
    refine Br.of (fun c => ?_) (fun c => ?_)
    · refine (z2 c).imp fun y U ⟨y1, y2⟩ => ⟨?_, y2⟩
      rw [List.filter_cons_of_pos c, y1]
      rfl
    · rw [List.filter_cons_of_neg (by simpa using c)]
      exact ⟨by simp, rfl⟩
  · rintro a V ⟨rfl, rfl⟩
    rw [List.length_map, List.take_length]
    exact q

structure Wr (n : Net) (W ws : List (Str × Str)) : Prop where
  nd : W.Nodup
  sub : ∀ w ∈ W, w ∈ n.ws
  pm : ws.Perm W
  st : Srt (ws.map wireV)
def stepW (w : Str × Str) (t : Bool) (W : List (Str × Str)) : List (Str × Str) := (W.filter fun p => decide (p ≠ w)) ++ if t = true then [w] else []
theorem stepW_perm {w : Str × Str} {t : Bool} (p : ws.Perm W) : (stepW w t ws).Perm (stepW w t W) := (p.filter _).append_right _
theorem Wr.step {w : Str × Str} {t : Bool} {us : List (Str × Str)} (h : Wr n W ws) (hw : w ∈ n.ws) (p : us.Perm (stepW w t ws)) (st : Srt (us.map wireV)) : Wr n (stepW w t W) us := by
  refine ⟨?_, fun v hv => ?_, p.trans (stepW_perm h.pm), st⟩
  · unfold stepW
    rw [List.nodup_append]
    refine ⟨h.nd.filter _, by split <;> simp, fun a ha b hb e => ?_⟩
    subst e
    have := (List.mem_filter.mp ha).2
    simp only [decide_eq_true_eq] at this
    split at hb
    · exact this (List.mem_singleton.mp hb)
    · cases hb
  · rcases List.mem_append.mp hv with hv | hv
    · exact h.sub v (List.mem_filter.mp hv).1
    · split at hv
      · rw [List.mem_singleton.mp hv]
        exact hw
      · cases hv
end
end K58
namespace K76
open PySem PySem.Spec PyProof.Rows L2 G Th AL KL Fr Od
open K37 (Fq frV Bd Tp Hs Lk Fl Dd Ev Pr Mv oV prV hsV lkV flV ddV evV hiV dEv lastAt driftOf pairsUp movesInto mv1 mv2 keptOf endOf sel lastV LastOk HearOk MvOk RowOk HiOk row low_eq plusL_eq byL_eq is_lessL_eq fmod_lt p60 pow18 small_pow at_ints TxOk Sh ShL at_nat map_get getD_get addO least_mem greatest_mem)
open K08 (ws_cut wm wd)
theorem draw_wp {S : Sto} {B m : Int} (T : Tp S B) (m0 : 0 < m) (m1 : m < 2 ^ 60) (hB : B < 100000) : Wp (drawL_ [.ref 1, .int m] S) fun v S' => ∃ d, v = .int d ∧ 0 ≤ d ∧ d < m ∧ Tp S' (B + 1) ∧ Kx 1 S S' := by
  have h60 := p60
  have n64 : (2 : Nat) ^ 64 = 18446744073709551616 := by decide
  obtain ⟨ns, i, q, n, h0, h1, i0, q0, n0, nB, l63⟩ := T.ex
  have fm : ∀ a : Int, 0 ≤ a.fmod m ∧ a.fmod m < m := fun a => fmod_lt m0
  refine AL.wf ?_; simp only [List.map_cons, List.map_nil, List.length_cons, List.length_nil, Nat.reduceAdd, Nat.reduceSub, List.replicate_succ, List.replicate_zero, List.cons_append, List.nil_append]; unfold drawL_B; array_get_dec
  by_cases hq : 0 < q
  · refine brT (decide_eq_true hq) ?_
    array_get_dec
    · refine vPutL h1 (j := 2) rfl ?_
      intro S1 l_S1 g_S1 k_S1
      array_get_dec
      exact ⟨_, rfl, (fm q).1, (fm q).2, ⟨ns, i, q / m, n, k_S1 _ _ (by decide) h0, g_S1, i0, Int.ediv_nonneg q0 (by omega), n0, by omega, l63⟩, k_S1⟩
    · exact wd m0 m1
    · omega
  refine brF (decide_eq_false hq) ?_
  array_get_dec
  refine vPutL h1 (j := 1) rfl ?_
  intro S1 l_S1 g_S1 k_S1
  have h01 := k_S1 _ _ (by decide) h0
  have g1 : S1[1]? = some (.lst [.ref 0, .int (i + 1), .int q, .int n]) := g_S1
  array_get_dec
  refine vPutL g1 (j := 3) rfl ?_
  intro S2 l_S2 g_S2 k_S2
  have h02 := k_S2 _ _ (by decide) h01
  have g2 : S2[1]? = some (.lst [.ref 0, .int (i + 1), .int q, .int (n + 1)]) := g_S2
  have k2 : Kx 1 S S2 := k_S1.trans k_S2
  have tp2 : Tp S2 (B + 1) := ⟨ns, i + 1, q, n + 1, h02, g2, by omega, q0, by omega, by omega, l63⟩
  refine ws_seq (ws_cut (N' := fun ρ T => ∃ c : Int, ρ = [some (.ref 1), some (.int m), some (.int i), some (.int c), none, none] ∧ S2 = T) ?_ ?_)
  · array_get_dec
    rw [List.length_map]
    by_cases hl : 0 < ns.length
    · refine brT (decide_eq_true (by omega)) ?_
      array_get_dec
      · rw [List.length_map]
        obtain ⟨a, b⟩ := fmod_lt (a := i) (b := (ns.length : Int)) (by omega)
        obtain ⟨v, hv, _⟩ := at_ints (L := ns) a b
        refine vIxL rfl rfl h02 hv ?_
        array_get_dec
        exact ⟨_, rfl, rfl⟩
      · rw [List.length_map]
        omega
    · refine brF (decide_eq_false (by omega)) ?_
      array_get_dec
      exact ⟨_, rfl, rfl⟩
  rintro _ _ ⟨c, rfl, rfl⟩
  have cm := fmod_lt (a := c) (b := 1000003) (by decide)
  have p1 := small_pow (x := c.fmod 1000003 + 613 * (n + 1) + 17) (by omega) (by omega)
  have r1 := fmod_lt (a := (c.fmod 1000003 + 613 * (n + 1) + 17) ^ (5 : Int).toNat) (b := 2147483647) (by decide)
  have p2 := small_pow (x := ((c.fmod 1000003 + 613 * (n + 1) + 17) ^ (5 : Int).toNat).fmod 2147483647 + 4099 * (n + 1)) (by omega) (by omega)
  array_get_dec
  refine vPow rfl rfl ?_ pow18
  array_get_dec
  refine Br.of (fun c1 => ?_) (fun c1 => ?_)
  · array_get_dec
    refine Br.of (fun c2 => ?_) (fun c2 => ?_)
    · array_get_dec
      · refine vPutL g2 (j := 2) rfl ?_
        intro S3 l_S3 g_S3 k_S3
        have c1 : (10 : Int) ^ (18 : Int).toNat ≤ c := of_decide_eq_true c1
        have e18 : (10 : Int) ^ (18 : Int).toNat = 1000000000000000000 := by decide
        array_get_dec
        · exact ⟨_, rfl, (fm _).1, (fm _).2, ⟨ns, i + 1, c / m, n + 1, k_S3 _ _ (by decide) h02, g_S3, by omega, Int.ediv_nonneg (by omega) (by omega), by omega, by omega, l63⟩, k2.trans k_S3⟩
        · omega
      · exact wd m0 m1
    · array_get_dec
      all_goals first | refine vPow rfl rfl ?_ p1 | decide | exact wm (by omega) (by omega) | skip
      array_get_dec
      all_goals first | refine vPow rfl rfl ?_ p2 | decide | exact wm (by omega) (by omega) | skip
      array_get_dec
      all_goals first | exact ⟨_, rfl, (fm _).1, (fm _).2, tp2, k2⟩ | exact wd (by decide) (by decide) | omega | decide
  · array_get_dec
    all_goals first | refine vPow rfl rfl ?_ p1 | decide | exact wm (by omega) (by omega) | skip
    array_get_dec
    all_goals first | refine vPow rfl rfl ?_ p2 | decide | exact wm (by omega) (by omega) | skip
    array_get_dec
    all_goals first | exact ⟨_, rfl, (fm _).1, (fm _).2, tp2, k2⟩ | exact wd (by decide) (by decide) | omega | decide
end K76
namespace K76
open PySem PySem.Spec PyProof.Rows L2 G Th AL KL Fr Od
open K37 (Fq frV Bd Tp Hs Lk Fl Dd Ev Pr Mv oV prV hsV lkV flV ddV evV hiV dEv lastAt driftOf pairsUp movesInto mv1 mv2 keptOf endOf sel lastV LastOk HearOk MvOk RowOk HiOk row low_eq plusL_eq byL_eq is_lessL_eq fmod_lt p60 pow18 small_pow at_ints TxOk Sh ShL at_nat map_get getD_get addO least_mem greatest_mem)
open K08 (ws_cut wm wd)
open K56 (lc_all)
open K58 (lc_fil)
def nm4 : List Str := ["an", "bo", "zz", "s"]
def sl4 : List Fq := [(1, 1), (9, 10), (1, 2), (3, 4)]
def fa4 : List Fq := [(1, 1), (11, 10), (2, 1), (5, 4)]
def le4 : List Fq := [(0, 1), (1, 1), (1, 2), (3, 1)]
structure LkG (ns : List Str) (l : Lk) : Prop where
  fr : l.fr ∈ ns
  to : l.to ∈ ns
  ne : l.to ≠ l.fr
  le : l.least ∈ le4
  mo : ∀ m, l.most = some m → Fr.Ok 10 m ∧ q l.least ≤ q m
structure CF (fl : Fl) : Prop where
  nd : (fl.hs.map Hs.name).Nodup
  nm : ∀ x ∈ fl.hs.map Hs.name, x ∈ nm4
  src : fl.src = "s"
  has : ("s" : Str) ∈ fl.hs.map Hs.name
  few : fl.hs.length ≤ 4
  two : 2 ≤ fl.hs.length
  rate : ∀ h ∈ fl.hs, h.slow ∈ sl4 ∧ h.fast ∈ fa4
  one : ∀ h ∈ fl.hs, h.name = "s" → h.slow = (1, 1) ∧ h.fast = (1, 1)
  lk : ∀ l ∈ fl.ls, LkG (fl.hs.map Hs.name) l
  lfew : fl.ls.length ≤ 6
theorem le4_ok {x : Fq} (h : x ∈ le4) : Fr.Ok 4 x ∧ 0 ≤ x.1 := by
  simp only [le4, List.mem_cons, List.not_mem_nil, or_false] at h
  rcases h with rfl | rfl | rfl | rfl <;> exact ⟨⟨by decide, by decide, by decide, by decide⟩, by decide⟩
theorem sl4_ok {x : Fq} (h : x ∈ sl4) : Fr.Ok 4 x ∧ 0 < x.1 := by
  simp only [sl4, List.mem_cons, List.not_mem_nil, or_false] at h
  rcases h with rfl | rfl | rfl | rfl <;> exact ⟨⟨by decide, by decide, by decide, by decide⟩, by decide⟩
theorem fa4_ok {x : Fq} (h : x ∈ fa4) : Fr.Ok 4 x ∧ 0 < x.1 := by
  simp only [fa4, List.mem_cons, List.not_mem_nil, or_false] at h
  rcases h with rfl | rfl | rfl | rfl <;> exact ⟨⟨by decide, by decide, by decide, by decide⟩, by decide⟩
theorem nm4_ok {x : Str} (h : x ∈ nm4) : TxOk x := by
  simp only [nm4, List.mem_cons, List.not_mem_nil, or_false] at h
  rcases h with rfl | rfl | rfl | rfl <;> exact ⟨by decide +kernel, by decide +kernel⟩
theorem add_fr : addL_ = K37.plusL_ := rfl
theorem mul_fr : mulL_ = K37.byL_ := rfl
theorem frac_fr : fracL_ = K37.lowL_ := rfl
theorem part_fr : partL_ = K37.overL_ := rfl
theorem add_wp {x y : Fq} {S : Sto} (hx : Bd x) (hy : Bd y) : Wp (addL_ [frV x, frV y] S) fun v T => v = frV (Fr.add x y) ∧ S = T := by
  rw [add_fr]
  exact Wp.of (plusL_eq hx hy) ⟨rfl, rfl⟩
theorem mul_wp {x y : Fq} {S : Sto} (hx : Bd x) (hy : Bd y) : Wp (mulL_ [frV x, frV y] S) fun v T => v = frV (Fr.mul x y) ∧ S = T := by
  rw [mul_fr]
  exact Wp.of (byL_eq hx hy) ⟨rfl, rfl⟩
theorem frac_wp {a b : Int} {S : Sto} (hb : 0 < b) (hB : b.natAbs < 2 ^ 2000) : Wp (fracL_ [.int a, .int b] S) fun v T => v = frV (Fr.mk a b) ∧ S = T := by
  rw [frac_fr]
  exact Wp.of (low_eq hb hB) ⟨rfl, rfl⟩
theorem less_wp {x y : Fq} {S : Sto} (hx : Bd x) (hy : Bd y) : Wp (K37.is_lessL_ [frV x, frV y] S) fun v T => v = .bl (decide (x.1 * y.2 < y.1 * x.2)) ∧ S = T := Wp.of (is_lessL_eq hx hy) ⟨rfl, rfl⟩
theorem vSlL {S : Sto} {Q : Val → Sto → Prop} {x : Val} {n : Nat} {lo hi : Option Int} {vs : List Val} (hx : x = .ref n) (h : S[n]? = some (.lst vs)) (q : Nw S (.lst (cutL vs lo hi)) Q) : Wp (gSl x lo hi S) Q := by
  subst hx
  exact ⟨_, _, by simp only [gSl, h], q.use⟩
theorem pick {vs : List Val} {d : Int} (h0 : 0 ≤ d) (h1 : d < (vs.length : Nat)) : ∃ v, atI vs d = some v ∧ v ∈ vs := by
  obtain ⟨j, rfl⟩ := Int.eq_ofNat_of_zero_le h0
  have : j < vs.length := by omega
  exact ⟨vs[j], atI_nat (List.getElem?_eq_getElem this), List.getElem_mem this⟩
theorem field_wp {S : Sto} {B : Int} (T0 : Tp S B) (hB : B + 200 < 100000) : Wp (fieldL_ [.ref 1] S) fun v U => ∃ fl, v = flV fl ∧ CF fl ∧ Tp U (B + 60) ∧ Kx 1 S U := by
  have s2 := T0.two
  refine AL.wf ?_; simp only [List.map_cons, List.map_nil, List.length_cons, List.length_nil, Nat.reduceAdd, Nat.reduceSub, List.replicate_succ, List.replicate_zero, List.cons_append, List.nil_append]; unfold fieldL_B; array_get_dec
  intro S1 q1 e_q1 l_S1 g_q1 k_S1
  array_get_dec
  refine (draw_wp (T0.kx (k_S1.kx 2) (by omega)) (m := 3) (by omega) (by omega) (by omega)).imp ?_
  rintro _ S2 ⟨d, rfl, d0, d1, T2, k2⟩
  have g2 := k2 _ _ (by omega) g_q1
  array_get_dec
  refine vSlL rfl g2 ?_
  obtain ⟨ns, en, hns⟩ : ∃ ns : List Str, cutL [Val.str "an", .str "bo", .str "zz"] none (some (1 + d)) = ns.map .str ∧ (ns = (["an"] : List Str) ∨ ns = (["an", "bo"] : List Str) ∨ ns = (["an", "bo", "zz"] : List Str)) := by
    have : d = 0 ∨ d = 1 ∨ d = 2 := by omega
    rcases this with rfl | rfl | rfl
    · exact ⟨["an"], rfl, .inl rfl⟩
    · exact ⟨["an", "bo"], rfl, .inr (.inl rfl)⟩
    · exact ⟨["an", "bo", "zz"], rfl, .inr (.inr rfl)⟩
  rw [en]
  intro S3 q3 e_q3 l_S3 g_q3 k_S3
  have l2 : S1.length ≤ S2.length := k2.len (by omega)
  array_get_dec
  intro S4 q4 e_q4 l_S4 g_q4 k_S4
  array_get_dec
  intro S5 q5 e_q5 l_S5 g_q5 k_S5
  array_get_dec
  have g35 := k_S5 _ _ (k_S4 _ _ g_q3)
  have g45 := k_S5 _ _ g_q4
  have nl : ns.length ≤ 3 ∧ 1 ≤ ns.length := by rcases hns with rfl | rfl | rfl <;> exact ⟨by decide, by decide⟩
  have nn : ns.Nodup ∧ ("s" : Str) ∉ ns ∧ ∀ x ∈ ns, x ∈ nm4 := by rcases hns with rfl | rfl | rfl <;> exact ⟨by decide +kernel, by decide +kernel, by decide +kernel⟩
  have T5 : Tp S5 (B + 1) := ((T2.kx (k_S3.kx 2) (by omega)).kx (k_S4.kx 2) (by omega)).kx (k_S5.kx 2) (by omega)
  have k5 : Kx 1 S S5 := (k_S1.kx 1).trans (k2.trans ((k_S3.kx 1).trans ((k_S4.kx 1).trans (k_S5.kx 1))))
  refine .inr ⟨_, _, rfl, g35, ?_⟩
  refine lc_inv (fun i a V => ∃ hs : List Hs, a = hs.map hsV ∧ hs.map Hs.name = ns.take i ∧ (∀ h ∈ hs, h.slow ∈ sl4 ∧ h.fast ∈ fa4) ∧ i ≤ ns.length ∧ Tp V (B + 1 + 2 * (i : Nat)) ∧ Kx 1 S5 V) (by rw [List.length_map]; omega) ⟨[], rfl, rfl, (fun _ h => by cases h), by omega, by simpa using T5, .refl _ _⟩ (fun i a V _ ⟨_, _, _, _, _, _, k⟩ => k _ _ (by omega) g35) (fun i a V ⟨hs, e, e2, _⟩ => by
    have := congrArg List.length e2
    rw [List.length_map, List.length_take] at this
    rw [e, List.length_map]
    omega) ?_ ?_
  · rintro i v a V hv ⟨hs, rfl, e2, hr, li, TV, kV⟩
    rw [List.getElem?_map] at hv
    obtain ⟨x, hx, rfl⟩ := Option.map_eq_some_iff.mp hv
    have lt := (List.getElem?_eq_some_iff.mp hx).1
    refine bn rfl ?_
    array_get_dec
    refine (draw_wp TV (m := 4) (by omega) (by omega) (by omega)).imp ?_
    rintro _ V1 ⟨d, rfl, d0, d1, T1, j1⟩
    obtain ⟨v1, e1, m1⟩ := pick (vs := sl4.map frV) (d := d) d0 (by show d < 4; omega)
    array_get_dec
    refine vIxL rfl rfl (j1 _ _ (by omega) (kV _ _ (by omega) g45)) e1 ?_
    array_get_dec
    refine (draw_wp T1 (m := 4) (by omega) (by omega) (by omega)).imp ?_
    rintro _ V2 ⟨f, rfl, f0, f1, T2, j2⟩
    obtain ⟨v2, e2', m2⟩ := pick (vs := fa4.map frV) (d := f) f0 (by show f < 4; omega)
    array_get_dec
    refine vIxL rfl rfl (j2 _ _ (by omega) (j1 _ _ (by omega) (kV _ _ (by omega) g_q5))) e2' ?_
    array_get_dec
    obtain ⟨s, hs1, rfl⟩ := List.mem_map.mp m1
    obtain ⟨t, ht1, rfl⟩ := List.mem_map.mp m2
    refine ⟨hs ++ [⟨x, s, t⟩], by rw [List.map_append]; rfl, ?_, fun h hh => ?_, lt, T2.mono (by omega), kV.trans (j1.trans j2)⟩
    · have : ns.take (i + 1) = ns.take i ++ [x] := by
        rw [List.take_succ_eq_append_getElem lt]
        rw [List.getElem?_eq_getElem lt] at hx
        rw [Option.some.inj hx]
      rw [List.map_append, e2, this]
      rfl
    · rcases List.mem_append.mp hh with hh | hh
      · exact hr h hh
      · rw [List.mem_singleton.mp hh]
        exact ⟨hs1, ht1⟩
  rintro a V ⟨hs, rfl, e2, hr, _, TV, kV⟩
  rw [List.length_map] at e2 TV
  rw [List.take_length] at e2
  have l5 : S5.length ≤ V.length := kV.len (by omega)
  intro S6 q6 e_q6 l_S6 g_q6 k_S6
  array_get_dec
  intro S7 q7 e_q7 l_S7 g_q7 k_S7
  array_get_dec
  refine vCatL rfl rfl (k_S7 _ _ g_q6) g_q7 (by rw [List.length_map]; have := congrArg List.length e2; rw [List.length_map] at this; show hs.length + 1 ≤ 1000000; omega) ?_
  intro S8 q8 e_q8 l_S8 g_q8 k_S8
  array_get_dec
  intro S9 q9 e_q9 l_S9 g_q9 k_S9
  array_get_dec
  intro S10 q10 e_q10 l_S10 g_q10 k_S10
  array_get_dec
  have g310 : S10[q3]? = some (.lst (ns.map .str)) := k_S10 _ _ (k_S9 _ _ (k_S8 _ _ (k_S7 _ _ (k_S6 _ _ (kV _ _ (by omega) g35)))))
  refine vCatL rfl rfl g310 g_q10 (by rw [List.length_map]; show ns.length + 1 ≤ 1000000; omega) ?_
  intro S11 q11 e_q11 l_S11 g_q11 k_S11
  array_get_dec
  have fk : (ns.map Val.str) ++ [Val.str "s"] = (ns ++ [("s" : Str)]).map Val.str := by rw [List.map_append]; rfl
  rw [fk] at g_q11
  have T11 : Tp S11 (B + 10) := ((((((TV.kx (k_S6.kx 2) (by omega)).kx (k_S7.kx 2) (by omega)).kx (k_S8.kx 2) (by omega)).kx (k_S9.kx 2) (by omega)).kx (k_S10.kx 2) (by omega)).kx (k_S11.kx 2) (by omega)).mono (by omega)
  refine (draw_wp T11 (m := 5) (by omega) (by omega) (by omega)).imp ?_
  rintro _ S12 ⟨lk, rfl, lk0, lk1, T12, k12⟩
  array_get_dec
  refine ⟨_, rfl, ?_, by omega, by omega⟩
  have lr : (rangeV 0 (2 + lk).toNat).length ≤ 6 := by
    unfold rangeV
    rw [List.length_map, List.length_range]
    omega
  have g9 := k12 _ _ (by omega) (k_S11 _ _ (k_S10 _ _ g_q9))
  have g11 := k12 _ _ (by omega) g_q11
  have nd : (ns ++ [("s" : Str)]).Nodup := by
    rw [List.nodup_append]
    refine ⟨nn.1, by simp, fun a ha b hb e => ?_⟩
    rw [List.mem_singleton] at hb
    exact nn.2.1 (hb ▸ e ▸ ha)
  have ll : (ns ++ [("s" : Str)]).length = ns.length + 1 := by simp
  refine ws_loop (fun i ρ T => (∃ z3 z8 z9 z10 z11 z12, ρ = [some (.ref 1), some (.ref q3), some (.ref q8), z3, some (.ref q4), some (.ref q5), some (.ref q9), some (.ref q11), z8, z9, z10, z11, z12]) ∧ (∃ ls : List Lk, T[q9]? = some (.lst (ls.map lkV)) ∧ ls.length = i ∧ ∀ l ∈ ls, LkG (ns ++ [("s" : Str)]) l) ∧ Tp T (B + 11 + 5 * (i : Nat)) ∧ (∀ z o, z ≠ 1 → z ≠ q9 → S12[z]? = some o → T[z]? = some o)) ⟨⟨_, _, _, _, _, _, rfl⟩, ⟨[], g9, rfl, fun _ h => (by cases h)⟩, T12.mono (by omega), fun _ _ _ _ e => e⟩ (fun _ _ _ _ _ => trivial) ?_ ?_
  · rintro i v ρ T hv ⟨⟨z3, z8, z9, z10, z11, z12, rfl⟩, ⟨ls, gl, li, lok⟩, TT, kT⟩
    have lt := (List.getElem?_eq_some_iff.mp hv).1
    have gk := kT _ _ (by omega) (by omega) g11
    have lq9 := lt_of_at gl
    refine bn rfl ?_
    array_get_dec
    rw [List.length_map, ll]
    refine (draw_wp TT (m := ((ns.length + 1 : Nat) : Int)) (by omega) (by omega) (by omega)).imp ?_
    rintro _ U1 ⟨d, rfl, d0, d1, T1, j1⟩
    obtain ⟨v1, e1, m1⟩ := pick (vs := (ns ++ [("s" : Str)]).map Val.str) (d := d) d0 (by rw [List.length_map, ll]; exact d1)
    obtain ⟨x, hx, rfl⟩ := List.mem_map.mp m1
    have gk1 := j1 _ _ (by omega) gk
    refine vIxL rfl rfl gk1 e1 ?_
    refine bn rfl ?_
    array_get_dec
    refine .inr ⟨_, _, rfl, gk1, ?_⟩
    refine lc_fil gk1 (ns ++ [("s" : Str)]) Val.str (fun y => decide (y ≠ x)) Val.str (by omega) (fun y hy => ?_) ?_
    · refine bn rfl ?_
      array_get_dec
      refine ⟨?_, rfl, fun _ => by array_get_dec; exact ⟨rfl, rfl⟩⟩
      show (!decide (y = x)) = decide (y ≠ x)
      rw [decide_not]
    intro U2 p2 e_p2 l_U2 g_p2 k_U2
    have T2 := T1.kx (k_U2.kx 2) (by omega)
    have l1 := j1.len (by omega)
    array_get_dec
    intro U3 p3 e_p3 l_U3 g_p3 k_U3
    have T3 := T2.kx (k_U3.kx 2) (by omega)
    refine (draw_wp T3 (m := 4) (by omega) (by omega) (by omega)).imp ?_
    rintro _ U4 ⟨f, rfl, f0, f1, T4, j4⟩
    obtain ⟨v2, e2', m2⟩ := pick (vs := le4.map frV) (d := f) f0 (by show f < 4; omega)
    obtain ⟨le, hle, rfl⟩ := List.mem_map.mp m2
    array_get_dec
    refine vIxL rfl rfl (j4 _ _ (by omega) g_p3) e2' ?_
    have leo := le4_ok hle
    have bl : Bd le := K37.Bd.of leo.1 (by decide)
    array_get_dec
    refine (add_wp (x := le) (y := (1, 2)) bl ⟨by decide, by decide, by decide⟩).imp ?_
    rintro _ _ ⟨rfl, rfl⟩
    array_get_dec
    refine (add_wp (x := le) (y := (4, 1)) bl ⟨by decide, by decide, by decide⟩).imp ?_
    rintro _ _ ⟨rfl, rfl⟩
    array_get_dec
    intro U5 p5 e_p5 l_U5 g_p5 k_U5
    have l4 : U3.length ≤ U4.length := j4.len (by omega)
    have T5 := T4.kx (k_U5.kx 2) (by omega)
    refine (draw_wp T5 (m := 4) (by omega) (by omega) (by omega)).imp ?_
    rintro _ U6 ⟨g, rfl, g0, g1, T6, j6⟩
    have fok : ∀ y ∈ [none, some le, some (Fr.add le (1, 2)), some (Fr.add le (4, 1))], ∀ m, y = some m → Fr.Ok 10 m ∧ q le ≤ q m := by
      have qa : ∀ y : Fq, 0 < y.2 → 0 ≤ q y → q le ≤ q (Fr.add le y) := fun y hy h0 => by
        rw [q_add (by have := leo.1.pos; omega) (by omega)]
        grind
      intro y hy m hm
      simp only [List.mem_cons, List.not_mem_nil, or_false] at hy
      rcases hy with rfl | rfl | rfl | rfl
      · cases hm
      · cases hm
        exact ⟨leo.1.mono (by decide), Rat.le_refl⟩
      · cases hm
        exact ⟨(Fr.add_ok (m := 4) leo.1 ⟨by decide, by decide, by decide, by decide⟩).mono (by decide), qa _ (by decide) (by decide +kernel)⟩
      · cases hm
        exact ⟨(Fr.add_ok (m := 4) leo.1 ⟨by decide, by decide, by decide, by decide⟩).mono (by decide), qa _ (by decide) (by decide +kernel)⟩
    obtain ⟨v3, e3', m3⟩ := pick (vs := [none, some le, some (Fr.add le (1, 2)), some (Fr.add le (4, 1))].map oV) (d := g) g0 (by show g < 4; omega)
    obtain ⟨fo, hfo, rfl⟩ := List.mem_map.mp m3
    array_get_dec
    refine vIxL rfl rfl (j6 _ _ (by omega) g_p5) e3' ?_
    array_get_dec
    have fl0 : 0 < ((ns ++ [("s" : Str)]).filter fun y => decide (y ≠ x)).length := by
      have : 2 ≤ (ns ++ [("s" : Str)]).length := by omega
      rcases hns with rfl | rfl | rfl
      all_goals
        simp only [List.cons_append, List.nil_append, List.mem_cons, List.not_mem_nil, or_false] at hx
        rcases hx with rfl | rfl | rfl | rfl <;> decide +kernel
    have fl4 := List.length_filter_le (fun y => decide (y ≠ x)) (ns ++ [("s" : Str)])
    rw [List.length_map]
    refine (draw_wp T6 (m := ((((ns ++ [("s" : Str)]).filter fun y => decide (y ≠ x)).length : Nat) : Int)) (by omega) (by omega) (by omega)).imp ?_
    rintro _ U7 ⟨c, rfl, c0, c1, T7, j7⟩
    obtain ⟨v4, e4', m4⟩ := pick (vs := ((ns ++ [("s" : Str)]).filter fun y => decide (y ≠ x)).map Val.str) (d := c) c0 (by rw [List.length_map]; exact c1)
    obtain ⟨t, ht, rfl⟩ := List.mem_map.mp m4
    obtain ⟨ht1, ht2⟩ := List.mem_filter.mp ht
    have ht2 : t ≠ x := by simpa using ht2
    have l6 : U5.length ≤ U6.length := j6.len (by omega)
    have keep : ∀ {z : Nat} {o : Ob}, z ≠ 1 → T[z]? = some o → U7[z]? = some o := fun {z o} hz e => j7 _ _ hz (j6 _ _ hz (k_U5 _ _ (j4 _ _ hz (k_U3 _ _ (k_U2 _ _ (j1 _ _ hz e))))))
    refine vIxL rfl rfl (j7 _ _ (by omega) (j6 _ _ (by omega) (k_U5 _ _ (j4 _ _ (by omega) (k_U3 _ _ g_p2))))) e4' ?_
    array_get_dec
    have gl7 := keep (by omega) gl
    refine vApp rfl gl7 ?_ (small (by rw [List.length_map]; omega))
    intro U8 l_U8 g_U8 k_U8
    refine ⟨⟨_, _, _, _, _, _, rfl⟩, ⟨ls ++ [⟨x, t, le, fo⟩], by rw [g_U8, List.map_append]; rfl, by rw [List.length_append, li]; rfl, fun l hl => ?_⟩, (T7.kx k_U8 (by omega)).mono (by omega), fun z o h1 h2 e => k_U8 _ _ h2 (keep h1 (kT _ _ h1 h2 e))⟩
    rcases List.mem_append.mp hl with hl | hl
    · exact lok l hl
    · rw [List.mem_singleton.mp hl]
      exact ⟨hx, ht1, ht2, hle, fun m hm => fok fo hfo m hm⟩
  · rintro ρ T ⟨⟨z3, z8, z9, z10, z11, z12, rfl⟩, ⟨ls, gl, li, lok⟩, TT, kT⟩
    have g8 : T[q8]? = some (.lst ((hs ++ [(⟨"s", (1, 1), (1, 1)⟩ : Hs)]).map hsV)) := by
      rw [kT _ _ (by omega) (by omega) (k12 _ _ (by omega) (k_S11 _ _ (k_S10 _ _ (k_S9 _ _ g_q8)))), List.map_append]
      rfl
    have hL : ∀ h ∈ hs ++ [(⟨"s", (1, 1), (1, 1)⟩ : Hs)], h.name ∈ nm4 ∧ h.slow ∈ sl4 ∧ h.fast ∈ fa4 := fun h hh => by
      rcases List.mem_append.mp hh with hh | hh
      · have : h.name ∈ ns := e2 ▸ List.mem_map_of_mem hh
        exact ⟨nn.2.2 _ this, hr h hh⟩
      · rw [List.mem_singleton.mp hh]
        exact ⟨by decide +kernel, by decide, by decide⟩
    have nmL : (hs ++ [(⟨"s", (1, 1), (1, 1)⟩ : Hs)]).map Hs.name = ns ++ [("s" : Str)] := by rw [List.map_append, e2]; rfl
    have lenL : (hs ++ [(⟨"s", (1, 1), (1, 1)⟩ : Hs)]).length = ns.length + 1 := by
      have := congrArg List.length nmL
      rw [List.length_map, ll] at this
      exact this
    have ok : okSort ((hs ++ [(⟨"s", (1, 1), (1, 1)⟩ : Hs)]).map hsV) = true := K57.ok_sort (fun v hv => by
      obtain ⟨h, hh, rfl⟩ := List.mem_map.mp hv
      refine ⟨?_, rfl⟩
      have := (nm4_ok (hL h hh).1).1
      simp only [okV, hsV, frV, pureV, pureVs, dV, dVs, PyData.canLay0, PyData.canLayAll0, this, PyData.depth, PyData.depthAll, Bool.and_true, Bool.true_and]
      decide) (fun a ha b hb => by
      obtain ⟨h, hh, rfl⟩ := List.mem_map.mp ha
      obtain ⟨h', hh', rfl⟩ := List.mem_map.mp hb
      rfl) (by rw [List.length_map]; omega)
    array_get_dec
    refine K57.vSortGT rfl g8 (fun v hv => by obtain ⟨h, _, rfl⟩ := List.mem_map.mp hv; exact ⟨_, rfl⟩) ok ?_
    obtain ⟨hs', ph, eh⟩ := perm_up (f := hsV) (sortT_perm ((hs ++ [(⟨"s", (1, 1), (1, 1)⟩ : Hs)]).map hsV)) (hs ++ [(⟨"s", (1, 1), (1, 1)⟩ : Hs)]) rfl
    rw [← eh]
    intro V1 p1 e_p1 l_V1 g_p1 k_V1
    array_get_dec
    have pn := ph.map Hs.name
    rw [nmL] at pn
    refine ⟨⟨hs', ls, "s"⟩, rfl, ⟨pn.nodup_iff.mpr nd, fun x hx => ?_, rfl, pn.mem_iff.mpr (List.mem_append_right _ (List.mem_singleton.mpr rfl)), by show hs'.length ≤ 4; rw [ph.length_eq, lenL]; omega, by show 2 ≤ hs'.length; rw [ph.length_eq, lenL]; omega, fun h hh => (hL h (ph.mem_iff.mp hh)).2, fun h hh hn => ?_, fun l hl => ?_, by show ls.length ≤ 6; omega⟩, (TT.kx (k_V1.kx 2) (by omega)).mono (by omega), fun z o hz e => k_V1 _ _ (kT _ _ hz (by have := lt_of_at e; omega) (k12 _ _ hz (k_S11 _ _ (k_S10 _ _ (k_S9 _ _ (k_S8 _ _ (k_S7 _ _ (k_S6 _ _ (kV _ _ hz (k5 _ _ hz e))))))))))⟩
    · have := pn.mem_iff.mp hx
      rcases List.mem_append.mp this with h | h
      · exact nn.2.2 x h
      · rw [List.mem_singleton.mp h]
        decide +kernel
    · rcases List.mem_append.mp (ph.mem_iff.mp hh) with h1 | h1
      · have : h.name ∈ ns := e2 ▸ List.mem_map_of_mem h1
        exact absurd (hn ▸ this) nn.2.1
      · rw [List.mem_singleton.mp h1]
        exact ⟨rfl, rfl⟩
    · obtain ⟨a1, a2, a3, a4, a5⟩ := lok l hl
      exact ⟨pn.mem_iff.mpr a1, pn.mem_iff.mpr a2, a3, a4, a5⟩
end K76
namespace K76
open PySem PySem.Spec PyProof.Rows L2 G Th AL KL Fr Od
open K37 (Fq frV Bd Tp Hs Lk Fl Dd Ev Pr Mv oV prV hsV lkV flV ddV evV hiV dEv lastAt driftOf pairsUp movesInto mv1 mv2 keptOf endOf sel lastV LastOk HearOk MvOk RowOk HiOk row low_eq plusL_eq byL_eq is_lessL_eq fmod_lt p60 pow18 small_pow at_ints TxOk Sh ShL at_nat map_get getD_get addO least_mem greatest_mem)
open K08 (ws_cut wm wd)
open K56 (lc_all)
open K58 (lc_fil)

def CkOk (fl : Fl) (clk : Str → Int × Fq) : Prop := ∀ h ∈ fl.hs, 0 ≤ (clk h.name).1 ∧ (clk h.name).1 ≤ 8 ∧ ((clk h.name).2 = h.slow ∨ (clk h.name).2 = h.fast ∨ (clk h.name).2 = (1, 1))
def CkD (fl : Fl) (clk : Str → Int × Fq) (D : List (Key × Val)) : Prop := ∀ h ∈ fl.hs, valA D (.inr h.name) = some (.tup [frV ((clk h.name).1, 1), frV (clk h.name).2])
def r7 : List Fq := [(1, 1), (9, 10), (1, 2), (3, 4), (11, 10), (2, 1), (5, 4)]
theorem r7_ok {x : Fq} (h : x ∈ r7) : QN 20 40 x ∧ Fr.Ok 4 x ∧ 0 < x.1 := by
  simp only [r7, List.mem_cons, List.not_mem_nil, or_false] at h
  rcases h with rfl | rfl | rfl | rfl | rfl | rfl | rfl
  · exact ⟨⟨20, ⟨by decide +kernel, by decide⟩, by decide⟩, ⟨by decide, by decide, by decide, by decide⟩, by decide⟩
  · exact ⟨⟨18, ⟨by decide +kernel, by decide⟩, by decide⟩, ⟨by decide, by decide, by decide, by decide⟩, by decide⟩
  · exact ⟨⟨10, ⟨by decide +kernel, by decide⟩, by decide⟩, ⟨by decide, by decide, by decide, by decide⟩, by decide⟩
  · exact ⟨⟨15, ⟨by decide +kernel, by decide⟩, by decide⟩, ⟨by decide, by decide, by decide, by decide⟩, by decide⟩
  · exact ⟨⟨22, ⟨by decide +kernel, by decide⟩, by decide⟩, ⟨by decide, by decide, by decide, by decide⟩, by decide⟩
  · exact ⟨⟨40, ⟨by decide +kernel, by decide⟩, by decide⟩, ⟨by decide, by decide, by decide, by decide⟩, by decide⟩
  · exact ⟨⟨25, ⟨by decide +kernel, by decide⟩, by decide⟩, ⟨by decide, by decide, by decide, by decide⟩, by decide⟩
theorem sl_r7 {x : Fq} (h : x ∈ sl4) : x ∈ r7 := by
  simp only [sl4, List.mem_cons, List.not_mem_nil, or_false] at h
  rcases h with rfl | rfl | rfl | rfl <;> decide
theorem fa_r7 {x : Fq} (h : x ∈ fa4) : x ∈ r7 := by
  simp only [fa4, List.mem_cons, List.not_mem_nil, or_false] at h
  rcases h with rfl | rfl | rfl | rfl <;> decide
theorem ck_r7 {fl : Fl} {clk : Str → Int × Fq} (cf : CF fl) (ck : CkOk fl clk) {h : Hs} (hh : h ∈ fl.hs) : (clk h.name).2 ∈ r7 := by
  obtain ⟨_, _, e | e | e⟩ := ck h hh
  · rw [e]; exact sl_r7 (cf.rate h hh).1
  · rw [e]; exact fa_r7 (cf.rate h hh).2
  · rw [e]; decide
theorem qn_int {b : Int} (h0 : 0 ≤ b) (h1 : b ≤ 8) : QN 40 320 (b, 1) := ⟨40 * b, ⟨by
  show (b, 1) = Fr.mk (40 * b) 40
  rw [Fr.mk_eq (c := b) (d := 1) (by decide) (by decide) (by omega)]
  exact (Fr.mk_self (by decide) (by simp)).symm, by decide⟩, by omega⟩
def stampOf (clk : Str → Int × Fq) (x : Str) (t : Fq) : Fq := Fr.add ((clk x).1, 1) (Fr.mul (clk x).2 t)
theorem stamp_qn {fl : Fl} {clk : Str → Int × Fq} {t : Fq} (cf : CF fl) (ck : CkOk fl clk) {h : Hs} (hh : h ∈ fl.hs) (ht : QN 2 60 t) : QN 40 2720 (stampOf clk h.name t) := by
  have a := qn_int (ck h hh).1 (ck h hh).2.1
  have b := ((r7_ok (ck_r7 cf ck hh)).1.mul ht)
  exact (a.add b).mono (by decide)
section
variable {S : Sto} {B : Int} {fl : Fl} {clk : Str → Int × Fq} {es : List Ev} {ms : List Fq}
theorem clocks_wp (cf : CF fl) (T0 : Tp S B) (hB : B + 200 < 100000) : Wp (clocksL_ [.ref 1, flV fl] S) fun v U => ∃ clk qc D, v = .ref qc ∧ U[qc]? = some (.dic D) ∧ CkOk fl clk ∧ CkD fl clk D ∧ Tp U (B + 10) ∧ Kx 1 S U ∧ S.length ≤ qc := by
  have s2 := T0.two
  refine AL.wf ?_; simp only [List.map_cons, List.map_nil, List.length_cons, List.length_nil, Nat.reduceAdd, Nat.reduceSub, List.replicate_succ, List.replicate_zero, List.cons_append, List.nil_append]; unfold clocksL_B; array_get_dec
  intro S1 qc e_qc l_S1 g_qc k_S1
  refine bn rfl ?_
  array_get_dec
  refine .inl ⟨_, rfl, ?_⟩
  have few := cf.few
  refine ws_loop (fun i ρ T => (∃ z3 z4 z5 z6, ρ = [some (.ref 1), some (flV fl), some (.ref qc), z3, z4, z5, z6]) ∧ (∃ (clk : Str → Int × Fq) (D : List (Key × Val)), T[qc]? = some (.dic D) ∧ D.length ≤ i ∧ (∀ h ∈ fl.hs.take i, 0 ≤ (clk h.name).1 ∧ (clk h.name).1 ≤ 8 ∧ ((clk h.name).2 = h.slow ∨ (clk h.name).2 = h.fast ∨ (clk h.name).2 = (1, 1))) ∧ ∀ h ∈ fl.hs.take i, valA D (.inr h.name) = some (.tup [frV ((clk h.name).1, 1), frV (clk h.name).2])) ∧ Tp T (B + 2 * (i : Nat)) ∧ (∀ z o, z ≠ 1 → z ≠ qc → S1[z]? = some o → T[z]? = some o)) ⟨⟨_, _, _, _, rfl⟩, ⟨fun _ => (0, (1, 1)), [], g_qc, Nat.le_refl _, fun h hh => by simp at hh, fun h hh => by simp at hh⟩, (T0.kx (k_S1.kx 2) (by omega)).mono (by omega), fun _ _ _ _ e => e⟩ (fun _ _ _ _ _ => trivial) ?_ ?_
  · rintro i v ρ T hv ⟨⟨z3, z4, z5, z6, rfl⟩, ⟨clk, D, gD, lD, c1, c2⟩, TT, kT⟩
    rw [List.getElem?_map] at hv
    obtain ⟨h, hh, rfl⟩ := Option.map_eq_some_iff.mp hv
    have lt := (List.getElem?_eq_some_iff.mp hh).1
    have tk : fl.hs.take (i + 1) = fl.hs.take i ++ [h] := by
      rw [List.take_succ_eq_append_getElem lt]
      rw [List.getElem?_eq_getElem lt] at hh
      rw [Option.some.inj hh]
    have nin : ∀ g ∈ fl.hs.take i, g.name ≠ h.name := fun g hg e => by
      have nd := cf.nd
      have : (fl.hs.take (i + 1)).map Hs.name |>.Nodup := nd.sublist ((List.take_sublist _ _).map _)
      rw [tk, List.map_append, List.nodup_append] at this
      exact this.2.2 _ (List.mem_map_of_mem hg) _ (List.mem_map_of_mem (List.mem_singleton.mpr rfl)) e
    have lq := lt_of_at gD
    refine bn rfl ?_
    array_get_dec
    intro U1 p1 e_p1 l_U1 g_p1 k_U1
    array_get_dec
    refine (draw_wp (TT.kx (k_U1.kx 2) (by omega)) (m := 3) (by omega) (by omega) (by omega)).imp ?_
    rintro _ U2 ⟨d, rfl, d0, d1, T2, j2⟩
    obtain ⟨v2, e2, m2⟩ := pick (vs := [h.slow, h.fast, (1, 1)].map frV) (d := d) d0 (by show d < 3; omega)
    obtain ⟨r, hr, rfl⟩ := List.mem_map.mp m2
    array_get_dec
    refine vIxL rfl rfl (j2 _ _ (by omega) g_p1) e2 ?_
    array_get_dec
    refine (draw_wp T2 (m := 9) (by omega) (by omega) (by omega)).imp ?_
    rintro _ U3 ⟨b, rfl, b0, b1, T3, j3⟩
    have keep : ∀ {z : Nat} {o : Ob}, z ≠ 1 → T[z]? = some o → U3[z]? = some o := fun {z o} hz e => j3 _ _ hz (j2 _ _ hz (k_U1 _ _ e))
    array_get_dec
    refine vPut (keep (by omega) gD) rfl ?_ (small (by omega))
    intro U4 l_U4 g_U4 k_U4
    simp only [List.mem_cons, List.not_mem_nil, or_false] at hr
    refine ⟨⟨_, _, _, _, rfl⟩, ⟨fun y => if y = h.name then (b, r) else clk y, _, g_U4, by have := K37.putA_len (d := D) (k := .inr h.name) (v := .tup [.tup [.int b, .int 1], frV r]); omega, fun g hg => ?_, fun g hg => ?_⟩, (T3.kx k_U4 (by omega)).mono (by omega), fun z o h1 h2 e => k_U4 _ _ h2 (keep h1 (kT _ _ h1 h2 e))⟩
    · rw [tk] at hg
      rcases List.mem_append.mp hg with hg | hg
      · dsimp only
        rw [if_neg (nin g hg)]
        exact c1 g hg
      · rw [List.mem_singleton.mp hg]
        dsimp only
        rw [if_pos rfl]
        exact ⟨b0, by show b ≤ 8; omega, hr⟩
    · rw [tk] at hg
      rw [K37.valA_put]
      rcases List.mem_append.mp hg with hg | hg
      · dsimp only
        rw [if_neg (fun z => nin g hg (by injection z)), if_neg (nin g hg)]
        exact c2 g hg
      · rw [List.mem_singleton.mp hg]
        dsimp only
        rw [if_pos rfl, if_pos rfl]
        rfl
  · rintro ρ T ⟨⟨z3, z4, z5, z6, rfl⟩, ⟨clk, D, gD, lD, c1, c2⟩, TT, kT⟩
    rw [List.length_map] at c1 c2 TT
    rw [List.take_length] at c1 c2
    array_get_dec
    exact ⟨clk, qc, D, rfl, gD, c1, c2, TT.mono (by omega), fun z o hz e => kT _ _ hz (by have := lt_of_at e; omega) (k_S1 _ _ e), by omega⟩
theorem stamp_wp {qc : Nat} {D : List (Key × Val)} {t : Fq} (cf : CF fl) (ck : CkOk fl clk) (g : S[qc]? = some (.dic D)) (cd : CkD fl clk D) {h : Hs} (hh : h ∈ fl.hs) (ht : QN 2 60 t) : Wp (stampL_ [.ref qc, .str h.name, frV t] S) fun v T => v = frV (stampOf clk h.name t) ∧ S = T := by
  have r := (r7_ok (ck_r7 cf ck hh)).2.1
  have b := (qn_int (ck h hh).1 (ck h hh).2.1).ok (n := 12) (by decide) (by decide)
  have t12 := ht.ok (n := 12) (by decide) (by decide)
  have m12 := (((r7_ok (ck_r7 cf ck hh)).1.mul ht)).ok (n := 12) (by decide) (by decide)
  refine AL.wf ?_; simp only [List.map_cons, List.map_nil, List.length_cons, List.length_nil, Nat.reduceAdd, Nat.reduceSub, List.replicate_succ, List.replicate_zero, List.cons_append, List.nil_append]; unfold stampL_B; array_get_dec
  refine vIxD rfl g rfl (cd h hh) ?_
  refine bn rfl ?_
  array_get_dec
  refine (mul_wp (.of r (by decide)) (.of t12 (by decide))).imp ?_
  rintro _ _ ⟨rfl, rfl⟩
  array_get_dec
  refine (add_wp (.of b (by decide)) (.of m12 (by decide))).imp ?_
  rintro _ _ ⟨rfl, rfl⟩
  exact ⟨rfl, rfl⟩
end
end K76
namespace K43
open PySem PySem.Spec PyProof.Rows L2 G Th AL
open K37 hiding POk
structure FlW (fl : Fl) : Prop where
  rate : ∀ h ∈ fl.hs, h.slow ∈ slows ∧ h.fast ∈ fasts
  lk : ∀ l ∈ fl.ls, Fr.Ok 4 l.least ∧ ∀ m, l.most = some m → Fr.Ok 10 m
section
variable {fl : Fl} {es : List Ev}
theorem gone_ok (fo : FlW fl) (hv : HV fl es) {i j : Nat} (hi : i < es.length) (hj : j < es.length) : Fr.Ok 21 (Fr.sub (es.getD i dEv).stamp (es.getD j dEv).stamp) := Fr.sub_ok (hv.ev i hi).st.ok (hv.ev j hj).st.ok
theorem rows_ok (fo : FlW fl) (hv : HV fl es) (i : Nat) (hi : i < es.length) : RowOk fl es i := by
  refine ⟨fun j hj => ?_, fun k hk => ?_⟩
  · have lt := lastAt_lt hj
    obtain ⟨x, hx, hm⟩ := drift_some (hv.ev i hi).name
    obtain ⟨r1, r2⟩ := fo.rate x hm
    exact ⟨by omega, ⟨x, hx, (fast_ok r2).2, (slow_ok r1).2, .of (fast_ok r2).1 (by decide), .of (slow_ok r1).1 (by decide)⟩, .of (hv.ev i hi).st.ok (by decide), .of (hv.ev j (by omega)).st.ok (by decide), .of (gone_ok fo hv hi (by omega)) (by decide)⟩
  · obtain ⟨lt, l, hl⟩ := (hv.ev i hi).hear k hk
    have lk := (hv.ev k (by omega)).send l hl
    exact ⟨⟨by omega, l, fl.ls[l], hl, List.getElem?_eq_getElem lk⟩, lt⟩

theorem row_mem (fo : FlW fl) (hv : HV fl es) {i : Nat} (hi : i < es.length) {m : Mv} (hm : m ∈ row fl es i) : m.x < i ∧ Fr.Ok 24 m.lo ∧ ∀ q, m.hi = some q → Fr.Ok 24 q := by
  unfold row movesInto at hm
  rcases List.mem_append.mp hm with hm | hm
  · unfold mv1 at hm
    split at hm
    · next j h hj hh =>
      simp only [List.mem_cons, List.not_mem_nil, or_false] at hm
      subst hm
      have lt := lastAt_lt hj
      have hmem : h ∈ fl.hs := List.mem_of_find?_eq_some hh
      obtain ⟨r1, r2⟩ := fo.rate h hmem
      have g := gone_ok fo hv hi (show j < es.length by omega)
      refine ⟨lt, Fr.div_ok g (fast_ok r2).1 (by have := (fast_ok r2).2; omega), fun q hq => ?_⟩
      cases hq
      exact Fr.div_ok g (slow_ok r1).1 (by have := (slow_ok r1).2; omega)
    · simp at hm
  · unfold mv2 at hm
    split at hm
    · next k hk =>
      split at hm
      · next l hl =>
        simp only [List.mem_cons, List.not_mem_nil, or_false] at hm
        subst hm
        have lt := ((hv.ev i hi).hear k hk).1
        have lm : l ∈ fl.ls := by
          unfold linkAt at hl
          split at hl
          · exact List.mem_of_getElem? hl
          · cases hl
        obtain ⟨o1, o2⟩ := fo.lk l lm
        exact ⟨lt, o1.mono (by decide), fun q hq => (o2 q hq).mono (by decide)⟩
      · simp at hm
    · simp at hm
def POk (n : Nat) (p : Pr) : Prop := ∀ b x, sel b p = some x → Fr.Ok n x
theorem end_ok (fo : FlW fl) (hv : HV fl es) {i : Nat} (hi : i < es.length) (hp : ∀ j, j < i → POk (30 * (j + 1)) ((pairsUp fl es i).getD j (none, none))) {m : Mv} (hm : m ∈ row fl es i) (b : Bool) (x : Fq) (hx : endOf (pairsUp fl es i) b m = some x) : Fr.Ok (30 * (i + 1)) x := by
  obtain ⟨lt, o1, o2⟩ := row_mem fo hv hi hm
  unfold endOf at hx
  have pj := hp m.x lt b
  cases e1 : sel b ((pairsUp fl es i).getD m.x (none, none)) with
  | none => rw [e1] at hx; simp [addO] at hx
  | some a =>
    cases e2 : sel b (some m.lo, m.hi) with
    | none => rw [e1, e2] at hx; simp [addO] at hx
    | some c =>
      rw [e1, e2] at hx
      simp only [addO, Option.some.injEq] at hx
      subst hx
      have oc : Fr.Ok 24 c := by
        cases b with
        | true => exact o2 c (by simpa [sel] using e2)
        | false =>
          simp only [sel, Bool.false_eq_true, if_false, Option.some.injEq] at e2
          subst e2
          exact o1
      exact (Fr.add_ok (pj a e1) oc).mono (by omega)
theorem pairs_ok (fo : FlW fl) (hv : HV fl es) : ∀ i, i ≤ es.length → ∀ j, j < i → POk (30 * (j + 1)) ((pairsUp fl es i).getD j (none, none))
  | 0, _, j, h => by omega
  | i + 1, hi, j, hj => by
    have ih := pairs_ok fo hv i (by omega)
    rw [pairsUp]
    by_cases e : j < i
    · rw [getD_app (by rw [pairsUp_len]; exact e)]
      exact ih j e
    · have e : j = i := by omega
      subst e
      have := getD_end (ps := pairsUp fl es j) (p := keptOf fl (es.getD j dEv) (row fl es j) (pairsUp fl es j))
      rw [pairsUp_len] at this
      rw [this]
      intro b x hx
      unfold keptOf at hx
      split at hx
      · have : x = (es.getD j dEv).stamp := by cases b <;> simpa [sel, eq_comm] using hx
        subst this
        exact (hv.ev j (by omega)).st.ok.mono (by omega)
      · cases b with
        | true =>
          simp only [sel, if_true] at hx
          rcases least_mem _ _ _ hx with m | m
          · obtain ⟨mv, hm, he⟩ := List.mem_filterMap.mp m
            exact end_ok fo hv (by omega) ih hm _ _ he
          · cases m
        | false =>
          simp only [sel, Bool.false_eq_true, if_false] at hx
          rcases greatest_mem _ _ _ hx with m | m
          · obtain ⟨mv, hm, he⟩ := List.mem_filterMap.mp m
            exact end_ok fo hv (by omega) ih hm _ _ he
          · cases m
theorem hi_ok (fo : FlW fl) (hv : HV fl es) : HiOk fl es := by
  have l30 := hv.len
  refine ⟨hv.len, rows_ok fo hv, fun i hi m hm => ?_, fun i hi b q hq => ?_, fun i hi p hp b x hx => ?_⟩
  · obtain ⟨lt, o1, o2⟩ := row_mem fo hv hi hm
    refine ⟨by rw [pairsUp_len]; exact lt, fun b x hx => ?_, fun b x hx => ?_⟩
    · exact .of (pairs_ok fo hv i (by omega) m.x lt b x hx) (by omega)
    · cases b with
      | true => exact .of (o2 x (by simpa [sel] using hx)) (by decide)
      | false =>
        simp only [sel, Bool.false_eq_true, if_false, Option.some.injEq] at hx
        subst hx
        exact .of o1 (by decide)
  · obtain ⟨mv, hm, he⟩ := List.mem_filterMap.mp hq
    exact .of (end_ok fo hv hi (pairs_ok fo hv i (by omega)) hm _ _ he) (by omega)
  · obtain ⟨j, hj⟩ := List.getElem?_of_mem hp
    have lj := (List.getElem?_eq_some_iff.mp hj).1
    rw [pairsUp_len] at lj
    have e : (pairsUp fl es i).getD j (none, none) = p := by simp [List.getD, hj]
    exact .of (pairs_ok fo hv i hi j lj b x (by rw [e]; exact hx)) (by omega)
end
end K43
namespace K43
open PySem PySem.Spec PyProof.Rows L2 G Th AL KL Fr
open K37 hiding POk
open K08 (ws_cut)
section
variable {ρ : Rho} {S : Sto} {Q : Val → Sto → Prop} {N : Rho → Sto → Prop} {R : Val → Sto → Prop} {C f : Str} {g o v : EF} {ga : AF} {F : FA} {k : Nat}
theorem wFld (z : Wp (g ρ S) fun x T => ∃ n fs v, x = .ref n ∧ T[n]? = some (.obj C fs) ∧ fs.lookup f = some v ∧ Q v T) : Wp (eFld C f g ρ S) Q := by
  obtain ⟨x, T, e, n, fs, v, rfl, h1, h2, q⟩ := z
  exact ⟨v, T, by unfold eFld; rw [e]; simp only [Option.bind_some, objAt_of h1, h2, Option.map_some], q⟩
theorem wMe {m : Str} (z : Wp (o ρ S) fun x T => ∃ n fs, x = .ref n ∧ T[n]? = some (.obj C fs) ∧ fs.lookup m = none ∧ Wp (ga ρ T) fun vs T2 => Sd (vs.length + 1 = k) (Wp (F (.ref n :: vs) T2) Q)) : Wp (eMe C m F k o ga ρ S) Q := by
  obtain ⟨x, T, e, n, fs, rfl, h1, h2, vs, T2, e2, ⟨hl, y, T3, e3, q⟩⟩ := z
  exact ⟨y, T3, by unfold eMe; rw [e]; simp only [Option.bind_some, objAt_of h1, h2, if_true, e2, if_pos hl, e3], q⟩
theorem wMk (z : Wp (ga ρ S) fun vs T => Sd (vs.length + 1 = k) (Wp (F (.ref T.length :: vs) (T ++ [.obj C []])) fun x T2 => x = .non ∧ Q (.ref T.length) T2)) : Wp (eMk C F k ga ρ S) Q := by
  obtain ⟨vs, T, e, hl, x, T2, e2, rfl, q⟩ := z
  exact ⟨_, T2, by unfold eMk; rw [e]; simp only [Option.bind_some, if_pos hl, e2], q⟩
end
theorem _root_.AL.Kn.upx {S U V : Sto} {r : Nat} (h : Kn S U) (k : Kx r U V) (l : S.length ≤ r) : Kn S V := fun q o hq => k q o (by have := lt_of_at hq; omega) (h q o hq)
theorem into_wp {fl : Fl} {es : List Ev} {last : Option Nat} {e : Ev} {E : Nat} {S : Sto} (hE : S[E]? = some (.lst (es.map evV))) (hl : ∀ j, last = some j → LastOk fl es e j) (hd : ∀ k, e.deed = .hear k → HearOk fl es k) :
    Wp (moves_into_ [flV fl, .ref E, lastV last, evV e] S) fun v T => ∃ r, v = .ref r ∧ T[r]? = some (.lst ((movesInto fl es last e).map mvV)) ∧ Kn S T := by
  refine AL.wf ?_; simp only [List.map_cons, List.map_nil, List.length_cons, List.length_nil, Nat.reduceAdd, Nat.reduceSub, List.replicate_succ, List.replicate_zero, List.cons_append, List.nil_append]; unfold moves_into_B; array_get_dec
  intro S1 r e_r l_S1 g_r k_S1
  refine bn rfl (ws_seq (ws_cut (N' := fun ρ T => ∃ y8 y10 y11, ρ = [some (flV fl), some (.ref E), some (lastV last), some (evV e), some (.ref r), some (.str e.name), some (frV e.stamp), some (ddV e.deed), y8, none, y10, y11] ∧ T[r]? = some (.lst ((mv1 fl es last e).map mvV)) ∧ Kx r S1 T) ?_ ?_))
  · cases hlast : last with
    | none =>
      array_get_dec
      exact ⟨_, _, _, rfl, g_r, .refl _ _⟩
    | some j =>
      obtain ⟨lt, ⟨h, hh, f0, s0, bf, bs⟩, st, so, go⟩ := hl j hlast
      have dr := fun U => drift_eq (fl := fl) (n := e.name) (S := U)
      rw [hh] at dr
      have lE := lt_of_at hE
      array_get_dec
      refine Wp.of (dr _) ?_
      array_get_dec
      refine vIxL rfl rfl (by array_mem_dec) (at_nat (map_get (getD_get lt))) ?_
      array_get_dec
      refine Wp.of (less_eq st so) ?_
      array_get_dec
      refine Wp.of (parted_eq go bf (by omega)) ?_
      array_get_dec
      refine Wp.of (parted_eq go bs (by omega)) ?_
      array_get_dec
      refine vApp rfl g_r ?_ (small (by simp))
      intro T l_T g_T k_T
      exact ⟨_, _, _, rfl, by unfold mv1; rw [hh]; exact g_T, k_T⟩
  · rintro ρ T ⟨y8, y10, y11, rfl, gT, kT⟩
    have lE := lt_of_at hE
    have kST : Kn S T := k_S1.upx kT (by omega)
    have hET := kST _ _ hE
    have l1 : (mv1 fl es last e).length ≤ 1 := by unfold mv1; split <;> simp
    have e0 : movesInto fl es last e = mv1 fl es last e ++ mv2 fl es e.deed := rfl
    cases hdd : e.deed with
    | mark =>
      array_get_dec
      exact ⟨r, rfl, by rw [e0, hdd]; simpa [mv2] using gT, kST⟩
    | send l =>
      array_get_dec
      exact ⟨r, rfl, by rw [e0, hdd]; simpa [mv2] using gT, kST⟩
    | hear k =>
      obtain ⟨lt, l, lk, h1, h2⟩ := hd k hdd
      have la : linkAt fl es k = some lk := by simp only [linkAt, h1, h2]
      array_get_dec
      refine vIxL rfl rfl hET (at_nat (map_get (getD_get lt))) ?_
      array_get_dec
      rw [h1]
      array_get_dec
      refine vIxT rfl rfl (at_nat (map_get h2)) ?_
      array_get_dec
      refine Wp.of sl_lk ?_
      array_get_dec
      refine vApp rfl gT ?_ (small (by rw [List.length_map]; omega))
      intro T1 l_T1 g_T1 k_T1
      array_get_dec
      exact ⟨r, rfl, by rw [e0, hdd]; simp only [mv2, la]; rw [g_T1]; simp [mvV], kST.upx k_T1 (by omega)⟩
def kF (F : Val) (e p d : Nat) : List (Str × Val) := [("at_field", F), ("events", .ref e), ("pairs", .ref p), ("last_at", .ref d)]
theorem k_at {F : Val} {e p d : Nat} : (kF F e p d).lookup ("at_field" : Str) = some F := rfl
theorem k_ev {F : Val} {e p d : Nat} : (kF F e p d).lookup ("events" : Str) = some (.ref e) := rfl
theorem k_pr {F : Val} {e p d : Nat} : (kF F e p d).lookup ("pairs" : Str) = some (.ref p) := rfl
theorem k_la {F : Val} {e p d : Nat} : (kF F e p d).lookup ("last_at" : Str) = some (.ref d) := rfl
structure Kpr (S : Sto) (n e p d : Nat) (fl : Fl) (es : List Ev) : Prop where
  ob : S[n]? = some (.obj "Keeper" (kF (flV fl) e p d))
  ev : S[e]? = some (.lst (es.map evV))
  pr : S[p]? = some (.lst ((pairsUp fl es es.length).map prV))
  di : ∃ D, S[d]? = some (.dic D) ∧ (∀ x, valA D (.inr x) = (lastAt es es.length x).map fun j => .int (j : Nat)) ∧ D.length ≤ es.length
  ne : e ≠ p
section
variable {S T : Sto} {n e p d : Nat} {fl : Fl} {es : List Ev} {ev : Ev}
theorem Kpr.kn (h : Kpr S n e p d fl es) (k : Kn S T) : Kpr T n e p d fl es := ⟨k _ _ h.ob, k _ _ h.ev, k _ _ h.pr, h.di.imp fun D ⟨a, b⟩ => ⟨k _ _ a, b⟩, h.ne⟩
theorem Kpr.la (h : Kpr S n e p d fl es) (x : Str) : ∃ D, S[d]? = some (.dic D) ∧ (valA D (.inr x)).getD .non = lastV (lastAt es es.length x) := by
  obtain ⟨D, a, b, _⟩ := h.di
  exact ⟨D, a, by rw [b]; cases lastAt es es.length x <;> rfl⟩

structure NextOk (fl : Fl) (es : List Ev) (ev : Ev) : Prop where
  l : ∀ j, lastAt es es.length ev.name = some j → LastOk fl es ev j
  d : ∀ k, ev.deed = .hear k → HearOk fl es k
  mv : ∀ m ∈ movesInto fl es (lastAt es es.length ev.name) ev, MvOk (pairsUp fl es es.length) m
  bd : ∀ b, ∀ q ∈ (movesInto fl es (lastAt es es.length ev.name) ev).filterMap (endOf (pairsUp fl es es.length) b), Bd q
def nextOf (fl : Fl) (es : List Ev) (ev : Ev) : Pr := keptOf fl ev (movesInto fl es (lastAt es es.length ev.name) ev) (pairsUp fl es es.length)
theorem moves_snoc (hk : ∀ k, ev.deed = .hear k → k < es.length) : K37.row fl (es ++ [ev]) es.length = movesInto fl es (lastAt es es.length ev.name) ev := by
  unfold K37.row movesInto
  rw [getD_r, lastAt_app _ (Nat.le_refl _)]
  congr 1
  · unfold mv1
    cases hl : lastAt es es.length ev.name with
    | none => rfl
    | some j =>
      have := lastAt_lt hl
      cases driftOf fl ev.name with
      | none => rfl
      | some x => simp only [getD_l this]
  · cases hd : ev.deed with
    | mark => rfl
    | send l => rfl
    | hear k => simp only [mv2, linkAt, getD_l (hk k hd)]
theorem pairs_snoc (hv : HV fl (es ++ [ev])) : pairsUp fl (es ++ [ev]) es.length = pairsUp fl es es.length := by
  refine pairs_congr _ (fun j hj => getD_l hj) fun j k hj hd => ?_
  have := (hv.ev j (by simp; omega)).hear k (by rw [getD_l hj]; exact hd)
  exact this.1
theorem hear_lt (hv : HV fl (es ++ [ev])) {k : Nat} (h : ev.deed = .hear k) : k < es.length := ((hv.ev es.length (by simp)).hear k (by rw [getD_r]; exact h)).1
theorem pairs_next (hv : HV fl (es ++ [ev])) : pairsUp fl (es ++ [ev]) (es ++ [ev]).length = pairsUp fl es es.length ++ [nextOf fl es ev] := by
  rw [List.length_append, List.length_singleton, pairsUp, pairs_snoc hv, getD_r, moves_snoc fun k => hear_lt hv]
  rfl
theorem next_ok (fo : FlW fl) (hv : HV fl (es ++ [ev])) : NextOk fl es ev := by
  have H := hi_ok fo hv
  have hi : es.length < (es ++ [ev]).length := by simp
  have R := H.rows es.length hi
  have e1 := moves_snoc (fl := fl) (fun k => hear_lt hv (k := k))
  have e2 := pairs_snoc hv
  refine ⟨fun j hj => ?_, fun k hk => ?_, fun m hm => ?_, fun b q hq => ?_⟩
  · have lt := lastAt_lt hj
    obtain ⟨a, b, c, d, g⟩ := R.l j (by rw [getD_r, lastAt_app _ (Nat.le_refl _)]; exact hj)
    rw [getD_r] at b c g
    rw [getD_l lt] at d g
    exact ⟨lt, b, c, d, g⟩
  · obtain ⟨⟨a, l, lk, b, c⟩, g⟩ := R.d k (by rw [getD_r]; exact hk)
    rw [getD_l g] at b
    exact ⟨g, l, lk, b, c⟩
  · have := H.mv es.length hi m (by rw [e1]; exact hm)
    rw [e2] at this
    exact this
  · exact H.bd es.length hi b q (by rw [e1, e2]; exact hq)
variable {ρ : Rho} {Q : Val → Sto → Prop} {i : Nat}
theorem fAt (K : Kpr S n e p d fl es) (h : ρ[i]? = some (some (.ref n))) (q : Q (flV fl) S) : Wp (eFld "Keeper" "at_field" (eV i) ρ S) Q := wFld (wv h ⟨_, _, _, rfl, K.ob, k_at, q⟩)
theorem fEv (K : Kpr S n e p d fl es) (h : ρ[i]? = some (some (.ref n))) (q : Q (.ref e) S) : Wp (eFld "Keeper" "events" (eV i) ρ S) Q := wFld (wv h ⟨_, _, _, rfl, K.ob, k_ev, q⟩)
theorem fPr (K : Kpr S n e p d fl es) (h : ρ[i]? = some (some (.ref n))) (q : Q (.ref p) S) : Wp (eFld "Keeper" "pairs" (eV i) ρ S) Q := wFld (wv h ⟨_, _, _, rfl, K.ob, k_pr, q⟩)
theorem fLa (K : Kpr S n e p d fl es) (h : ρ[i]? = some (some (.ref n))) (q : Q (.ref d) S) : Wp (eFld "Keeper" "last_at" (eV i) ρ S) Q := wFld (wv h ⟨_, _, _, rfl, K.ob, k_la, q⟩)

theorem pair_next_wp (K : Kpr S n e p d fl es) (ok : NextOk fl es ev) : Wp (Keeper_pair_next_ [.ref n, evV ev] S) fun v T => v = prV (nextOf fl es ev) ∧ Kn S T := by
  obtain ⟨D, gD, eD⟩ := K.la ev.name
  have le := lt_of_at K.ev
  have lp := lt_of_at K.pr
  refine AL.wf ?_; simp only [List.map_cons, List.map_nil, List.length_cons, List.length_nil, Nat.reduceAdd, Nat.reduceSub, List.replicate_succ, List.replicate_zero, List.cons_append, List.nil_append]; unfold Keeper_pair_next_B; array_get_dec
  refine fAt K rfl ?_
  array_get_dec
  refine fEv K rfl ?_
  array_get_dec
  refine fLa K rfl ⟨_, _, rfl, gD, ?_⟩
  array_get_dec
  refine ⟨_, _, gD, rfl, ?_⟩
  rw [eD]
  array_get_dec
  refine (into_wp K.ev ok.l ok.d).imp ?_
  rintro _ T ⟨r, rfl, gr, kT⟩
  array_get_dec
  refine fAt (K.kn kT) rfl ?_
  array_get_dec
  refine fPr (K.kn kT) rfl ?_
  array_get_dec
  obtain ⟨T2, e2, k2⟩ := kept_pair_eq (e := ev) gr (kT _ _ K.pr) (by unfold movesInto; rw [List.length_append]; have h1 : (mv1 fl es (lastAt es es.length ev.name) ev).length ≤ 1 := (by unfold mv1; split <;> simp); have h2 : (mv2 fl es ev.deed).length ≤ 1 := (by unfold mv2; split <;> (try split) <;> simp); omega) ok.mv ok.bd
  refine Wp.of e2 ?_
  array_get_dec
  exact ⟨rfl, kT.trans k2⟩
inductive Di where
  | mark | send (l : Int) | hear (k : Int)
def diV : Di → Val
  | .mark => .tup [.str "mark"]
  | .send l => .tup [.str "send", .int l]
  | .hear k => .tup [.str "hear", .int k]
abbrev Bar := Option (Str × List Val)
def bar1 (fl : Fl) (es : List Ev) (x : Str) (st : Fq) : Bar := match driftOf fl x with
  | none => some ("NoHouse", [.str x])
  | some _ => match lastAt es es.length x with
    | none => none
    | some j => if st.1 * (es.getD j dEv).stamp.2 < (es.getD j dEv).stamp.1 * st.2 then some ("NoEvent", [.str "falls", .int (j : Nat)]) else none
def dLk : Lk := ⟨"a", "a", (0, 1), none⟩
def bar2 (fl : Fl) (es : List Ev) (x : Str) : Di → Bar
  | .mark => none
  | .send l => if 0 ≤ l ∧ l < fl.ls.length then (if (fl.ls.getD l.toNat dLk).fr ≠ x then some ("NoEvent", [.str "from", .int l]) else none) else some ("NoLink", [.int l])
  | .hear k => if 0 ≤ k ∧ k < es.length then (match (es.getD k.toNat dEv).deed with
      | .send l => if (fl.ls.getD l dLk).to ≠ x then some ("NoEvent", [.str "to", .int k]) else none
      | _ => some ("NoEvent", [.str "send", .int k])) else some ("NoNumber", [.int k])

def Says (S : Sto) (b : Bar) (v : Val) (T : Sto) : Prop := T = S ∧ match b with
  | none => v = .non
  | some (c, vs) => v = xv c vs
theorem Says.no {b : Bar} (h : b = none) : Says S b .non S := ⟨rfl, by rw [h]⟩
theorem Says.yes {b : Bar} {c : Str} {vs : List Val} (h : b = some (c, vs)) : Says S b (xv c vs) S := ⟨rfl, by rw [h]⟩
theorem bar_place_wp (K : Kpr S n e p d fl es) {x : Str} {st : Fq} (hs : Bd st) (he : ∀ j, j < es.length → Bd (es.getD j dEv).stamp) : Wp (Keeper_bar_place_ [.ref n, .str x, frV st] S) (Says S (bar1 fl es x st)) := by
  obtain ⟨D, gD, eD⟩ := K.la x
  refine AL.wf ?_; simp only [List.map_cons, List.map_nil, List.length_cons, List.length_nil, Nat.reduceAdd, Nat.reduceSub, List.replicate_succ, List.replicate_zero, List.cons_append, List.nil_append]; unfold Keeper_bar_place_B; array_get_dec
  refine fAt K rfl ?_
  array_get_dec
  refine Wp.of drift_eq ?_
  unfold bar1
  cases hd : driftOf fl x with
  | none =>
    array_get_dec
    refine ws_raise ?_
    array_get_dec
    exact .yes rfl
  | some h =>
    array_get_dec
    refine fLa K rfl ⟨_, _, rfl, gD, ?_⟩
    array_get_dec
    refine ⟨_, _, gD, rfl, ?_⟩
    rw [eD]
    cases hl : lastAt es es.length x with
    | none =>
      array_get_dec
      exact .no rfl
    | some j =>
      have lt := lastAt_lt hl
      array_get_dec
      refine fEv K rfl ?_
      array_get_dec
      refine vIxL rfl rfl K.ev (at_nat (map_get (getD_get lt))) ?_
      array_get_dec
      refine Wp.of (is_below_eq hs (he j lt)) ?_
      by_cases hb : st.1 * (es.getD j dEv).stamp.2 < (es.getD j dEv).stamp.1 * st.2
      · rw [decide_eq_true hb]
        array_get_dec
        refine ws_raise ?_
        array_get_dec
        exact .yes (if_pos hb)
      · rw [decide_eq_false hb]
        array_get_dec
        exact .no (if_neg hb)
theorem bar_number_wp (K : Kpr S n e p d fl es) {k : Int} : Wp (Keeper_bar_number_ [.ref n, .int k] S) (Says S (if 0 ≤ k ∧ k < es.length then none else some ("NoNumber", [.int k]))) := by
  refine AL.wf ?_; simp only [List.map_cons, List.map_nil, List.length_cons, List.length_nil, Nat.reduceAdd, Nat.reduceSub, List.replicate_succ, List.replicate_zero, List.cons_append, List.nil_append]; unfold Keeper_bar_number_B; array_get_dec
  by_cases h0 : 0 ≤ k
  · rw [decide_eq_true h0]
    array_get_dec
    refine fEv K rfl ?_
    array_get_dec
    refine vLenL rfl K.ev ?_
    rw [List.length_map]
    array_get_dec
    by_cases h1 : k < (es.length : Int)
    · rw [decide_eq_true h1]
      array_get_dec
      exact .no (if_pos ⟨h0, h1⟩)
    · rw [decide_eq_false h1]
      array_get_dec
      refine ws_raise ?_
      array_get_dec
      exact .yes (if_neg fun h => h1 h.2)
  · rw [decide_eq_false h0]
    array_get_dec
    refine ws_raise ?_
    array_get_dec
    exact .yes (if_neg fun h => h0 h.1)
theorem lk_get {l : Int} (h0 : 0 ≤ l) (h1 : l < fl.ls.length) : atI (fl.ls.map lkV) l = some (lkV (fl.ls.getD l.toNat dLk)) := by
  obtain ⟨k, rfl⟩ := Int.eq_ofNat_of_zero_le h0
  refine at_nat (map_get ?_)
  have : k < fl.ls.length := by omega
  simp [List.getD, List.getElem?_eq_getElem this]
theorem ev_get {k : Int} (h0 : 0 ≤ k) (h1 : k < es.length) : atI (es.map evV) k = some (evV (es.getD k.toNat dEv)) := by
  obtain ⟨k, rfl⟩ := Int.eq_ofNat_of_zero_le h0
  refine at_nat (map_get ?_)
  have : k < es.length := by omega
  simp [List.getD, List.getElem?_eq_getElem this]
theorem bar_send_wp (K : Kpr S n e p d fl es) {x : Str} {l : Int} : Wp (Keeper_bar_send_ [.ref n, .str x, .int l] S) (Says S (bar2 fl es x (.send l))) := by
  refine AL.wf ?_; simp only [List.map_cons, List.map_nil, List.length_cons, List.length_nil, Nat.reduceAdd, Nat.reduceSub, List.replicate_succ, List.replicate_zero, List.cons_append, List.nil_append]; unfold Keeper_bar_send_B; array_get_dec
  refine fAt K rfl ?_
  array_get_dec
  by_cases h0 : 0 ≤ l
  · rw [decide_eq_true h0]
    array_get_dec
    rw [List.length_map]
    by_cases h1 : l < (fl.ls.length : Int)
    · rw [decide_eq_true h1]
      array_get_dec
      refine vIxT rfl rfl (lk_get h0 h1) ?_
      array_get_dec
      by_cases h2 : (fl.ls.getD l.toNat dLk).fr = x
      · rw [decide_eq_true h2]
        array_get_dec
        exact .no ((if_pos ⟨h0, h1⟩).trans (if_neg fun h => h h2))
      · rw [decide_eq_false h2]
        array_get_dec
        refine ws_raise ?_
        array_get_dec
        exact .yes ((if_pos ⟨h0, h1⟩).trans (if_pos h2))
    · rw [decide_eq_false h1]
      array_get_dec
      refine ws_raise ?_
      array_get_dec
      exact .yes (if_neg fun h => h1 h.2)
  · rw [decide_eq_false h0]
    array_get_dec
    refine ws_raise ?_
    array_get_dec
    exact .yes (if_neg fun h => h0 h.1)
theorem bar_hear_wp (K : Kpr S n e p d fl es) {x : Str} {k : Int} (snd : ∀ j l, j < es.length → (es.getD j dEv).deed = .send l → l < fl.ls.length) : Wp (Keeper_bar_hear_ [.ref n, .str x, .int k] S) (Says S (bar2 fl es x (.hear k))) := by
  refine AL.wf ?_; simp only [List.map_cons, List.map_nil, List.length_cons, List.length_nil, Nat.reduceAdd, Nat.reduceSub, List.replicate_succ, List.replicate_zero, List.cons_append, List.nil_append]; unfold Keeper_bar_hear_B; array_get_dec
  refine ws_exprX (wMe (wv rfl ⟨_, _, rfl, K.ob, rfl, ?_⟩))
  array_get_dec
  refine (bar_number_wp K).imp ?_
  rintro v T ⟨rfl, hv⟩
  by_cases h0 : 0 ≤ k ∧ k < es.length
  · rw [if_pos h0] at hv
    subst hv
    refine Xs.no rfl ?_
    array_get_dec
    refine fEv K rfl ?_
    array_get_dec
    refine vIxL rfl rfl K.ev (ev_get h0.1 h0.2) ?_
    array_get_dec
    have e2 : bar2 fl es x (.hear k) = match (es.getD k.toNat dEv).deed with
      | .send l => if (fl.ls.getD l dLk).to ≠ x then some ("NoEvent", [.str "to", .int k]) else none
      | _ => some ("NoEvent", [.str "send", .int k]) := if_pos h0
    have sn := snd k.toNat
    cases hd : (es.getD k.toNat dEv).deed with
    | mark =>
      rw [hd] at e2
      array_get_dec
      refine ws_raise ?_
      array_get_dec
      exact .yes e2
    | hear j =>
      rw [hd] at e2
      array_get_dec
      refine ws_raise ?_
      array_get_dec
      exact .yes e2
    | send l =>
      rw [hd] at e2
      have ll := sn l (by omega) hd
      array_get_dec
      refine fAt K rfl ?_
      array_get_dec
      refine vIxT rfl rfl (lk_get (l := (l : Nat)) (by omega) (by omega)) ?_
      array_get_dec
      rw [Int.toNat_natCast]
      by_cases h2 : (fl.ls.getD l dLk).to = x
      · rw [decide_eq_true h2]
        array_get_dec
        exact .no (e2.trans (if_neg fun h => h h2))
      · rw [decide_eq_false h2]
        array_get_dec
        refine ws_raise ?_
        array_get_dec
        exact .yes (e2.trans (if_pos h2))
  · rw [if_neg h0] at hv
    subst hv
    refine Xs.yes rfl ?_
    array_get_dec
    exact .yes (if_neg h0)
theorem says_x {b : Bar} {f : EF} {N : Rho → Sto → Prop} {R : Val → Sto → Prop} (h : Wp (f ρ S) (Says S b)) (h1 : b = none → N ρ S) (h2 : ∀ c vs, b = some (c, vs) → R (xv c vs) S) : Ws (sExprX f ρ S) N R := by
  refine ws_exprX (h.imp ?_)
  rintro v T ⟨rfl, hv⟩
  cases b with
  | none =>
    subst hv
    exact Xs.no rfl (h1 rfl)
  | some q =>
    subst hv
    exact Xs.yes rfl (h2 _ _ rfl)
theorem bar_deed_wp (K : Kpr S n e p d fl es) {x : Str} {b : Di} (snd : ∀ j l, j < es.length → (es.getD j dEv).deed = .send l → l < fl.ls.length) : Wp (Keeper_bar_deed_ [.ref n, .str x, diV b] S) (Says S (bar2 fl es x b)) := by
  refine AL.wf ?_; simp only [List.map_cons, List.map_nil, List.length_cons, List.length_nil, Nat.reduceAdd, Nat.reduceSub, List.replicate_succ, List.replicate_zero, List.cons_append, List.nil_append]; unfold Keeper_bar_deed_B; array_get_dec
  cases b with
  | mark =>
    array_get_dec
    exact .no rfl
  | send l =>
    array_get_dec
    refine says_x (b := bar2 fl es x (.send l)) (wMe (wv rfl ⟨_, _, rfl, K.ob, rfl, ?_⟩)) (fun h => ?_) fun c vs h => ?_
    · array_get_dec
      exact bar_send_wp K
    · array_get_dec
      exact .no h
    · exact .yes h
  | hear k =>
    array_get_dec
    refine says_x (b := bar2 fl es x (.hear k)) (wMe (wv rfl ⟨_, _, rfl, K.ob, rfl, ?_⟩)) (fun h => ?_) fun c vs h => ?_
    · array_get_dec
      exact bar_hear_wp K snd
    · exact .no h
    · exact .yes h
def ddOf : Di → Dd
  | .mark => .mark
  | .send l => .send l.toNat
  | .hear k => .hear k.toNat
theorem dd_of {x : Str} {b : Di} (h : bar2 fl es x b = none) : ddV (ddOf b) = diV b := by
  cases b with
  | mark => rfl
  | send l =>
    have h0 : 0 ≤ l := Decidable.byContradiction fun z => by
      rw [bar2, if_neg (fun h => z h.1)] at h
      cases h
    simp only [ddOf, ddV, diV, Int.toNat_of_nonneg h0]
  | hear k =>
    have h0 : 0 ≤ k := Decidable.byContradiction fun z => by
      rw [bar2, if_neg (fun h => z h.1)] at h
      cases h
    simp only [ddOf, ddV, diV, Int.toNat_of_nonneg h0]
def Kx3 (e p d : Nat) (S T : Sto) : Prop := ∀ i o, i ≠ e → i ≠ p → i ≠ d → S[i]? = some o → T[i]? = some o
def bars (fl : Fl) (es : List Ev) (x : Str) (st : Fq) (b : Di) : Bar := match bar1 fl es x st with
  | some q => some q
  | none => bar2 fl es x b
def Noted (S : Sto) (n e p d : Nat) (fl : Fl) (es : List Ev) (x : Str) (st : Fq) (b : Di) (v : Val) (T : Sto) : Prop := match bars fl es x st b with
  | some (c, vs) => v = xv c vs ∧ T = S
  | none => v = .int es.length ∧ Kpr T n e p d fl (es ++ [⟨x, st, ddOf b⟩]) ∧ Kx3 e p d S T
theorem note_wp (K : Kpr S n e p d fl es) (fo : FlW fl) (l30 : es.length < 30) {x : Str} {st : Fq} {b : Di} (hs : Bd st) (he : ∀ j, j < es.length → Bd (es.getD j dEv).stamp) (snd : ∀ j l, j < es.length → (es.getD j dEv).deed = .send l → l < fl.ls.length) (ok : bars fl es x st b = none → HV fl (es ++ [⟨x, st, ddOf b⟩])) :
    Wp (Keeper_note_ [.ref n, .str x, frV st, diV b] S) (Noted S n e p d fl es x st b) := by
  have ne := K.ne
  have nd : d ≠ e := fun z => by obtain ⟨D, gD, _⟩ := K.di; rw [z, K.ev] at gD; cases gD
  have nd2 : d ≠ p := fun z => by obtain ⟨D, gD, _⟩ := K.di; rw [z, K.pr] at gD; cases gD
  have n1 : n ≠ e := fun z => by have := K.ob; rw [z, K.ev] at this; cases this
  have n2 : n ≠ p := fun z => by have := K.ob; rw [z, K.pr] at this; cases this
  have n3 : n ≠ d := fun z => by obtain ⟨D, gD, _⟩ := K.di; have := K.ob; rw [z, gD] at this; cases this
  refine AL.wf ?_; simp only [List.map_cons, List.map_nil, List.length_cons, List.length_nil, Nat.reduceAdd, Nat.reduceSub, List.replicate_succ, List.replicate_zero, List.cons_append, List.nil_append]; unfold Keeper_note_B; array_get_dec
  refine says_x (b := bar1 fl es x st) (wMe (wv rfl ⟨_, _, rfl, K.ob, rfl, ?_⟩)) (fun h1 => ?_) fun c vs h1 => ?_
  · array_get_dec
    exact bar_place_wp K hs he
  rotate_left
  · show Noted _ _ _ _ _ _ _ _ _ _ _ _
    unfold Noted bars
    rw [h1]
    exact ⟨rfl, rfl⟩
  have eb : bars fl es x st b = bar2 fl es x b := by unfold bars; rw [h1]
  array_get_dec
  refine says_x (b := bar2 fl es x b) (wMe (wv rfl ⟨_, _, rfl, K.ob, rfl, ?_⟩)) (fun h2 => ?_) fun c vs h2 => ?_
  · array_get_dec
    exact bar_deed_wp K snd
  rotate_left
  · show Noted _ _ _ _ _ _ _ _ _ _ _ _
    unfold Noted
    rw [eb, h2]
    exact ⟨rfl, rfl⟩
  rw [h2] at eb
  have hv := ok eb
  have ee : Val.tup [.str x, frV st, diV b] = evV ⟨x, st, ddOf b⟩ := by unfold evV; rw [dd_of h2]
  array_get_dec
  refine fEv K rfl ?_
  array_get_dec
  refine vLenL rfl K.ev ?_
  rw [List.length_map]
  array_get_dec
  rw [ee]
  have nx := next_ok fo hv
  refine fPr K rfl ?_
  array_get_dec
  have lp := lt_of_at K.pr
  have hp : S[p]? = some (.lst ((pairsUp fl es es.length).map prV)) := K.pr
  refine sd (isL_of hp) ?_
  array_get_dec
  refine wMe (wv rfl ⟨_, _, rfl, K.ob, rfl, ?_⟩)
  array_get_dec
  refine (pair_next_wp K nx).imp ?_
  rintro _ T1 ⟨rfl, k1⟩
  have K1 := K.kn k1
  array_get_dec
  refine vApp rfl K1.pr ?_ (small (by rw [List.length_map, pairsUp_len]; omega))
  intro T2 l_T2 g_T2 k_T2
  array_get_dec
  refine wFld (wv rfl ⟨_, _, _, rfl, k_T2 _ _ n2 K1.ob, k_ev, ?_⟩)
  have h2e := k_T2 _ _ ne K1.ev
  array_get_dec
  array_get_dec
  refine vApp rfl h2e ?_ (small (by rw [List.length_map]; omega))
  intro T3 l_T3 g_T3 k_T3
  array_get_dec
  obtain ⟨D, gD, vD, lD⟩ := K1.di
  have h3o := k_T3 _ _ n1 (k_T2 _ _ n2 K1.ob)
  have h3d := k_T3 _ _ nd (k_T2 _ _ nd2 gD)
  refine wFld (wv rfl ⟨_, _, _, rfl, h3o, k_la, ?_⟩)
  array_get_dec
  refine vPut h3d rfl ?_ (small (by omega))
  intro T4 l_T4 g_T4 k_T4
  refine ws_retN ?_
  array_get_dec
  unfold Noted
  rw [eb]
  refine ⟨rfl, ⟨k_T4 _ _ n3 h3o, ?_, ?_, ⟨_, g_T4, fun y => ?_, ?_⟩, ne⟩, fun i o ie ip id h => k_T4 _ _ id (k_T3 _ _ ie (k_T2 _ _ ip (k1 _ _ h)))⟩
  · rw [List.map_append]
    exact k_T4 _ _ nd.symm g_T3
  · rw [pairs_next hv, List.map_append]
    exact k_T4 _ _ nd2.symm (k_T3 _ _ ne.symm g_T2)
  · rw [valA_put, lastAt_snoc, vD]
    by_cases h : y = x
    · subst h
      rw [if_pos rfl, if_pos rfl]
      rfl
    · rw [if_neg (fun z => h (by injection z)), if_neg (fun z => h z.symm)]
  · have := putA_len (d := D) (k := .inr x) (v := Val.int (es.length : Nat))
    rw [List.length_append, List.length_singleton]
    omega
end
end K43
namespace K43
open PySem PySem.Spec PyProof.Rows L2 G Th AL KL Fr
open K37 hiding POk
open K08 (ws_cut)
section
variable {S T : Sto} {n e p d : Nat} {fl : Fl} {es : List Ev} {ev : Ev} {ρ : Rho} {Q : Val → Sto → Prop} {i : Nat}
theorem isX_pr (q : Pr) : isX (prV q) = none := by
  obtain ⟨a, b⟩ := q
  cases a <;> rfl
end
end K43
namespace K43
open PySem PySem.Spec PyProof.Rows L2 G Th AL KL Fr
open K37 hiding POk
open K08 (ws_cut)
theorem reprL {k w : Nat} {vs : List Val} (h : ShL k w vs) (hk : k < 38) (hw : w ≤ 40000) : ∃ x : Str, ∀ (S : Sto) (a : Nat), S[a]? = some (.lst vs) → gRepr [.ref a] S = some (.str x, S) := by
  obtain ⟨ds, o1, o2, o3, o4⟩ := h
  refine ⟨(PyData.list ds).shown, fun S a ha => ?_⟩
  have D : Dt S (k + 1) w (.ref a) (.list ds) := Dt.lst ha ⟨o1, o2, o3, fun j hj => o4 S j hj⟩
  exact D.repr (by omega) hw
section
variable {S T : Sto} {n e p d : Nat} {fl : Fl} {es : List Ev} {ρ : Rho} {Q : Val → Sto → Prop} {N : Rho → Sto → Prop} {R : Val → Sto → Prop}
theorem ws_fldS {C f : Str} {o v : EF} (z : Wp (v ρ S) fun y S1 => Wp (o ρ S1) fun x S2 => ∃ n fs, x = .ref n ∧ S2[n]? = some (.obj C fs) ∧ fs.length < 900 ∧ Pt S2 n (.obj C (putV f y fs)) (N ρ)) : Ws (sFldS C f o v ρ S) N R := by
  obtain ⟨y, S1, e1, x, S2, e2, n, fs, rfl, h, hl, q⟩ := z
  refine ⟨?_⟩
  unfold sFldS
  simp only [e1, e2, objAt_of h, if_pos hl]
  exact q.use h
theorem make_wp {ga : AF} (h : Wp (ga ρ S) fun vs T => vs = [flV fl] ∧ ∀ U n e p d, Kpr U n e p d fl [] → Kn T U → T.length ≤ e ∧ T.length ≤ p ∧ T.length ≤ d → Q (.ref n) U) : Wp (eMk "Keeper" Keeper_init_ 2 ga ρ S) Q := by
  refine wMk (h.imp ?_)
  rintro vs T ⟨rfl, q⟩
  refine sd rfl ?_
  have g0 : (T ++ [Ob.obj "Keeper" []])[T.length]? = some (.obj "Keeper" []) := by simp
  have k0 : Kn T (T ++ [Ob.obj "Keeper" []]) := Kn.app _ _
  have l0 : (T ++ [Ob.obj "Keeper" []]).length = T.length + 1 := by simp
  generalize T ++ [Ob.obj "Keeper" []] = U0 at g0 k0 l0
  refine AL.wf ?_; simp only [List.map_cons, List.map_nil, List.length_cons, List.length_nil, Nat.reduceAdd, Nat.reduceSub, List.replicate_succ, List.replicate_zero, List.cons_append, List.nil_append]; unfold Keeper_init_B; array_get_dec
  refine ws_fldS (wv rfl (wv rfl ⟨_, _, rfl, g0, by decide, ?_⟩))
  intro U1 l_U1 g_U1 k_U1
  refine ws_seq (ws_fldS (wLst (wa0 (sd (by decide) ?_))))
  intro U2 e e_e l_U2 g_e k_U2
  refine wv rfl ⟨_, _, rfl, k_U2 _ _ g_U1, of_decide_eq_true rfl, ?_⟩
  intro U3 l_U3 g_U3 k_U3
  refine ws_seq (ws_fldS (wLst (wa0 (sd (by decide) ?_))))
  intro U4 p e_p l_U4 g_p k_U4
  refine wv rfl ⟨_, _, rfl, k_U4 _ _ g_U3, of_decide_eq_true rfl, ?_⟩
  intro U5 l_U5 g_U5 k_U5
  refine ws_fldS (wDic ?_)
  intro U6 d e_d l_U6 g_d k_U6
  refine wv rfl ⟨_, _, rfl, k_U6 _ _ g_U5, of_decide_eq_true rfl, ?_⟩
  intro U7 l_U7 g_U7 k_U7
  refine ⟨trivial, q U7 T.length e p d ⟨g_U7, ?_, ?_, ⟨[], ?_, fun _ => rfl, Nat.le_refl _⟩, ?_⟩ (fun i o hi => ?_) ⟨by omega, by omega, by omega⟩⟩
  · exact k_U7 _ _ (by omega) (k_U6 _ _ (k_U5 _ _ (by omega) (k_U4 _ _ (k_U3 _ _ (by omega) g_e))))
  · exact k_U7 _ _ (by omega) (k_U6 _ _ (k_U5 _ _ (by omega) g_p))
  · exact k_U7 _ _ (by omega) g_d
  · omega
  · have := lt_of_at hi
    exact k_U7 _ _ (by omega) (k_U6 _ _ (k_U5 _ _ (by omega) (k_U4 _ _ (k_U3 _ _ (by omega) (k_U2 _ _ (k_U1 _ _ (by omega) (k0 _ _ hi)))))))
end
def F0 : Fl := ⟨[⟨"ann", (1, 2), (2, 1)⟩, ⟨"bo", (1, 1), (3, 2)⟩, ⟨"src", (1, 1), (1, 1)⟩], [⟨"src", "ann", (1, 1), some (2, 1)⟩, ⟨"ann", "bo", (0, 1), none⟩, ⟨"bo", "src", (1, 2), some (1, 1)⟩], "src"⟩
def E4 (far : Int) : List Ev := [⟨"src", (far, 1), .send 0⟩, ⟨"ann", (3, 1), .hear 0⟩, ⟨"ann", (4, 1), .send 1⟩, ⟨"bo", (7, 2), .hear 2⟩]
theorem f0 : FlW F0 := by
  refine ⟨?_, ?_⟩
  · intro h hh
    simp only [F0, List.mem_cons, List.not_mem_nil, or_false] at hh
    rcases hh with rfl | rfl | rfl <;> exact ⟨by decide +kernel, by decide +kernel⟩
  · intro l hl
    have hl : l ∈ ([⟨"src", "ann", (1, 1), some (2, 1)⟩, ⟨"ann", "bo", (0, 1), none⟩, ⟨"bo", "src", (1, 2), some (1, 1)⟩] : List Lk) := hl
    simp only [List.mem_cons, List.not_mem_nil, or_false] at hl
    rcases hl with rfl | rfl | rfl
    · exact ⟨⟨by decide, by decide, by decide, by decide⟩, fun m hm => by cases hm; exact ⟨by decide, by decide, by decide, by decide⟩⟩
    · exact ⟨⟨by decide, by decide, by decide, by decide⟩, fun m hm => by cases hm⟩
    · exact ⟨⟨by decide, by decide, by decide, by decide⟩, fun m hm => by cases hm; exact ⟨by decide, by decide, by decide, by decide⟩⟩
theorem hv_nil {fl : Fl} : HV fl [] := ⟨by decide, fun i hi => by simp at hi⟩
theorem hv_snoc {fl : Fl} {es : List Ev} {ev : Ev} (hv : HV fl es) (l : es.length < 30) (nm : ev.name ∈ fl.hs.map Hs.name) (st : StOk ev.stamp) (snd : ∀ l, ev.deed = .send l → l < fl.ls.length) (hr : ∀ k, ev.deed = .hear k → k < es.length ∧ ∃ l, (es.getD k dEv).deed = .send l) : HV fl (es ++ [ev]) := by
  refine ⟨by rw [List.length_append, List.length_singleton]; omega, fun i hi => ?_⟩
  rw [List.length_append, List.length_singleton] at hi
  by_cases h : i < es.length
  · obtain ⟨a, b, c, d⟩ := hv.ev i h
    refine ⟨by rw [getD_l h]; exact a, by rw [getD_l h]; exact b, by rw [getD_l h]; exact c, fun k hk => ?_⟩
    rw [getD_l h] at hk
    obtain ⟨lt, l, hl⟩ := d k hk
    exact ⟨lt, l, by rw [getD_l (by omega)]; exact hl⟩
  · have e : i = es.length := by omega
    subst e
    refine ⟨by rw [getD_r]; exact nm, by rw [getD_r]; exact st, by rw [getD_r]; exact snd, fun k hk => ?_⟩
    rw [getD_r] at hk
    obtain ⟨lt, l, hl⟩ := hr k hk
    exact ⟨lt, l, by rw [getD_l lt]; exact hl⟩
theorem st_int {x : Int} (h0 : 0 ≤ x) (h1 : x ≤ 100) : StOk (x, 1) := ⟨x * 4, (mk_int x).symm, by omega⟩
section
variable {S T : Sto} {n e p d : Nat} {fl : Fl} {es : List Ev}
theorem st_bd {x : Fq} (h : StOk x) : Bd x := .of h.ok (by decide)
theorem note_none (K : Kpr S n e p d fl es) (fo : FlW fl) {x : Str} {st : Fq} {b : Di} (hb : bars fl es x st b = none) (hv : HV fl (es ++ [⟨x, st, ddOf b⟩])) (hv0 : HV fl es) (hs : StOk st) :
    Wp (Keeper_note_ [.ref n, .str x, frV st, diV b] S) fun v T => v = .int es.length ∧ Kpr T n e p d fl (es ++ [⟨x, st, ddOf b⟩]) ∧ Kx3 e p d S T := by
  have l := hv.len
  rw [List.length_append, List.length_singleton] at l
  refine (note_wp K fo (by omega) (st_bd hs) (fun j hj => st_bd (hv0.ev j hj).st) (fun j l hj => (hv0.ev j hj).send l) fun _ => hv).imp ?_
  intro v T h
  unfold Noted at h
  rw [hb] at h
  exact h
end
def far5 (far : Int) : Prop := far = 1 ∨ far = 2 ∨ far = 3 ∨ far = 4 ∨ far = 5
section
variable {far : Int}
theorem far5.st (h : far5 far) : StOk (far, 1) := by
  unfold far5 at h
  exact st_int (by omega) (by omega)
theorem hv1 (h : far5 far) : HV F0 [⟨"src", (far, 1), .send 0⟩] := hv_snoc (es := []) hv_nil (by decide) (show ("src" : Str) ∈ F0.hs.map Hs.name by decide +kernel) h.st (fun l e => by cases e; decide) fun k e => by cases e
theorem hv2 (h : far5 far) : HV F0 [⟨"src", (far, 1), .send 0⟩, ⟨"ann", (3, 1), .hear 0⟩] := hv_snoc (es := [_]) (hv1 h) (by simp) (by decide +kernel) (st_int (by decide) (by decide)) (fun l e => by cases e) fun k e => by cases e; exact ⟨by simp, _, rfl⟩
theorem hv3 (h : far5 far) : HV F0 [⟨"src", (far, 1), .send 0⟩, ⟨"ann", (3, 1), .hear 0⟩, ⟨"ann", (4, 1), .send 1⟩] := hv_snoc (es := [_, _]) (hv2 h) (by simp) (by decide +kernel) (st_int (by decide) (by decide)) (fun l e => by cases e; decide) fun k e => by cases e
theorem b0 : bars F0 [] "src" (far, 1) (.send 0) = none := rfl
theorem b1 : bars F0 [⟨"src", (far, 1), .send 0⟩] "ann" (3, 1) (.hear 0) = none := rfl
theorem b2 : bars F0 [⟨"src", (far, 1), .send 0⟩, ⟨"ann", (3, 1), .hear 0⟩] "ann" (4, 1) (.send 1) = none := rfl
theorem b3 : bars F0 [⟨"src", (far, 1), .send 0⟩, ⟨"ann", (3, 1), .hear 0⟩, ⟨"ann", (4, 1), .send 1⟩] "bo" (7, 2) (.hear 2) = none := rfl
theorem Kx3.kn {S T U : Sto} {e p d : Nat} (k : Kn S T) (x : Kx3 e p d T U) (h : S.length ≤ e ∧ S.length ≤ p ∧ S.length ≤ d) : Kn S U := fun i o hi => by
  have := lt_of_at hi
  exact x i o (by omega) (by omega) (by omega) (k i o hi)
end
end K43
namespace K37
open PySem PySem.Spec PyProof.Rows L2 G Th AL
section
variable {fl : Fl} {es : List Ev} {T : Sto} {a0 a1 a2 a3 a5 a6 y7 y8 y9 y10 : Option Val}
end
end K37
namespace K37
open PySem PySem.Spec PyProof.Rows L2 G Th AL
theorem lst_eq {ga : AF} {ρ : Rho} {S S' : Sto} {vs : List Val} (h : ga ρ S = some (vs, S')) (hl : vs.length ≤ 1000000) : eLst ga ρ S = some (.ref S'.length, S' ++ [.lst vs]) := by
  unfold eLst
  rw [h]
  exact if_pos hl
theorem tape_eq (ns : List Int) (h : ns.length ≤ 63) : ∃ S, tapeL_ [.scr ns] [] = some (.ref 1, S) ∧ Tp S 0 := by
  have sl1 : eSl gSl (eV 0) oN (oS (eC (.int 63))) [some (.scr ns)] [] = some (.ref 0, [.lst (cutL (ns.map Val.int) none (some 63))]) := rfl
  refine ⟨[.lst (cutL (ns.map Val.int) none (some 63)), .lst [.ref 0, .int 0, .int 0, .int 0]], run_rt ?_, ?_⟩
  · show tapeL_B [some (.scr ns)] [] = _
    unfold tapeL_B sRet
    rw [lst_eq (aC_eq sl1 (xs := [.int 0, .int 0, .int 0]) (S2 := [.lst (cutL (ns.map Val.int) none (some 63))]) rfl) (by simp)]
    rfl
  · refine ⟨(ns.drop (HT.sIx ns.length 0 none)).take (HT.sIx ns.length ns.length (some 63) - HT.sIx ns.length 0 none), 0, 0, 0, ?_, rfl, by omega, by omega, by omega, by omega, ?_⟩
    · show some (Ob.lst (cutL (ns.map Val.int) none (some 63))) = _
      unfold cutL
      rw [List.length_map, ← List.map_drop, ← List.map_take]
    · rw [List.length_take, List.length_drop]
      omega
end K37
namespace K43
open PySem PySem.Spec PyProof.Rows L2 G Th AL KL Fr
open K37 hiding POk
open K08 (ws_cut)
section
variable {S T : Sto} {n e p d : Nat} {fl : Fl} {es : List Ev} {far : Int}
theorem noted (K : Kpr S n e p d fl es) (fo : FlW fl) {x : Str} {st : Fq} {b : Di} (hb : bars fl es x st b = none) (hv : HV fl (es ++ [⟨x, st, ddOf b⟩])) (hv0 : HV fl es) (hs : StOk st) :
    Wp (noX Keeper_note_ [.ref n, .str x, frV st, diV b] S) fun v T => v = .int es.length ∧ Kpr T n e p d fl (es ++ [⟨x, st, ddOf b⟩]) ∧ Kx3 e p d S T := by
  refine wnoX ((note_none K fo hb hv hv0 hs).imp ?_)
  rintro v T ⟨rfl, a, b⟩
  exact ⟨rfl, rfl, a, b⟩
theorem s0 (h : far5 far) (K : Kpr S n e p d F0 []) : Wp (noX Keeper_note_ [.ref n, .str "src", .tup [.int far, .int 1], .tup [.str "send", .int 0]] S) fun v T => v = .int 0 ∧ Kpr T n e p d F0 [⟨"src", (far, 1), .send 0⟩] ∧ Kx3 e p d S T :=
  noted (x := "src") (st := (far, 1)) (b := .send 0) K f0 b0 (hv1 h) hv_nil h.st
theorem s1 (h : far5 far) (K : Kpr S n e p d F0 [⟨"src", (far, 1), .send 0⟩]) : Wp (noX Keeper_note_ [.ref n, .str "ann", .tup [.int 3, .int 1], .tup [.str "hear", .int 0]] S) fun v T => v = .int 1 ∧ Kpr T n e p d F0 [⟨"src", (far, 1), .send 0⟩, ⟨"ann", (3, 1), .hear 0⟩] ∧ Kx3 e p d S T :=
  noted (x := "ann") (st := (3, 1)) (b := .hear 0) K f0 b1 (hv2 h) (hv1 h) (st_int (by decide) (by decide))
theorem s2 (h : far5 far) (K : Kpr S n e p d F0 [⟨"src", (far, 1), .send 0⟩, ⟨"ann", (3, 1), .hear 0⟩]) : Wp (noX Keeper_note_ [.ref n, .str "ann", .tup [.int 4, .int 1], .tup [.str "send", .int 1]] S) fun v T => v = .int 2 ∧ Kpr T n e p d F0 [⟨"src", (far, 1), .send 0⟩, ⟨"ann", (3, 1), .hear 0⟩, ⟨"ann", (4, 1), .send 1⟩] ∧ Kx3 e p d S T :=
  noted (x := "ann") (st := (4, 1)) (b := .send 1) K f0 b2 (hv3 h) (hv2 h) (st_int (by decide) (by decide))
def hisV (fl : Fl) (es : List Ev) : Val := .tup [flV fl, .tup (es.map evV)]
theorem history_wp (K : Kpr S n e p d fl es) : Wp (Keeper_history_ [.ref n] S) fun v T => v = hisV fl es ∧ T = S := by
  refine AL.wf ?_; simp only [List.map_cons, List.map_nil, List.length_cons, List.length_nil, Nat.reduceAdd, Nat.reduceSub, List.replicate_succ, List.replicate_zero, List.cons_append, List.nil_append]; unfold Keeper_history_B; array_get_dec
  refine fAt K rfl ?_
  array_get_dec
  refine fEv K rfl ?_
  array_get_dec
  refine vTupL rfl K.ev ?_
  array_get_dec
  exact ⟨rfl, rfl⟩
end
theorem Kpr.kx {S T : Sto} {n e p d r : Nat} {fl : Fl} {es : List Ev} (h : Kpr S n e p d fl es) (k : Kx r S T) (hn : n ≠ r) (he : e ≠ r) (hp : p ≠ r) (hd : d ≠ r) : Kpr T n e p d fl es := ⟨k _ _ hn h.ob, k _ _ he h.ev, k _ _ hp h.pr, h.di.imp fun D ⟨a, b⟩ => ⟨k _ _ hd a, b⟩, h.ne⟩
theorem Kpr.lt {S : Sto} {n e p d : Nat} {fl : Fl} {es : List Ev} (h : Kpr S n e p d fl es) : n < S.length ∧ e < S.length ∧ p < S.length ∧ d < S.length := by
  obtain ⟨D, g, _⟩ := h.di
  exact ⟨lt_of_at h.ob, lt_of_at h.ev, lt_of_at h.pr, lt_of_at g⟩
end K43
namespace K76
open PySem PySem.Spec PyProof.Rows L2 G Th AL KL Fr Od
open K37 (Fq frV Bd Tp Hs Lk Fl Dd Ev Pr Mv oV prV hsV lkV flV ddV evV hiV dEv lastAt driftOf pairsUp movesInto mv1 mv2 keptOf endOf sel lastV LastOk HearOk MvOk RowOk HiOk row low_eq plusL_eq byL_eq is_lessL_eq fmod_lt p60 pow18 small_pow at_ints TxOk Sh ShL at_nat map_get getD_get addO least_mem greatest_mem)
open K08 (ws_cut wm wd)
open K56 (lc_all)
open K58 (lc_fil)
open K37 (getD_app getD_end pairsUp_len lastAt_lt getD_l getD_r drift_some linkAt mvV)
open K37 (common_divisor_ common_divisor_B ratio_ ratio_B added_ added_B added_told_ added_told_B less_ less_B parted_ parted_B is_below_ is_below_B least_of_ least_of_B greatest_of_ greatest_of_B drift_of_ drift_of_B moves_into_ moves_into_B moved_end_ moved_end_B ends_told_ ends_told_B kept_pair_ kept_pair_B is_lessL_ is_lessL_B)
open K43 (Keeper_init_ Keeper_init_B Keeper_bar_place_ Keeper_bar_place_B Keeper_bar_send_ Keeper_bar_send_B Keeper_bar_number_ Keeper_bar_number_B Keeper_bar_hear_ Keeper_bar_hear_B Keeper_bar_deed_ Keeper_bar_deed_B Keeper_pair_next_ Keeper_pair_next_B Keeper_note_ Keeper_note_B Keeper_history_ Keeper_history_B Keeper_now_ Keeper_now_B Keeper_pair_ Keeper_pair_B)
open K57 (own_best_ own_best_B)
open K56 (first_state_ first_state_B)
open K58 (NetRun_init_ NetRun_init_B)
open K43 (bar1 bar2 bars Bar dLk Di diV ddOf dd_of Kpr Kx3 NextOk nextOf says_x bar_place_wp bar_deed_wp pair_next_wp fAt fEv fPr fLa k_ev k_la wMe wMk wFld moves_snoc Noted isX_pr history_wp make_wp hisV)
structure FlG (fl : Fl) : Prop where
  rate : ∀ h ∈ fl.hs, (Fr.Ok 4 h.slow ∧ 0 < h.slow.1) ∧ (Fr.Ok 4 h.fast ∧ 0 < h.fast.1)
  lk : ∀ l ∈ fl.ls, Fr.Ok 10 l.least ∧ ∀ m, l.most = some m → Fr.Ok 10 m
structure EvG (fl : Fl) (es : List Ev) (i : Nat) : Prop where
  name : (es.getD i dEv).name ∈ fl.hs.map Hs.name
  st : Fr.Ok 12 (es.getD i dEv).stamp
  send : ∀ l, (es.getD i dEv).deed = .send l → l < fl.ls.length
  hear : ∀ k, (es.getD i dEv).deed = .hear k → k < i ∧ ∃ l, (es.getD k dEv).deed = .send l
structure HG (fl : Fl) (es : List Ev) : Prop where
  len : es.length ≤ 30
  ev : ∀ i, i < es.length → EvG fl es i
section
variable {fl : Fl} {es : List Ev} {ev : Ev}
theorem gone_ok (fo : FlG fl) (hv : HG fl es) {i j : Nat} (hi : i < es.length) (hj : j < es.length) : Fr.Ok 25 (Fr.sub (es.getD i dEv).stamp (es.getD j dEv).stamp) := Fr.sub_ok (hv.ev i hi).st (hv.ev j hj).st
theorem rows_ok (fo : FlG fl) (hv : HG fl es) (i : Nat) (hi : i < es.length) : RowOk fl es i := by
  refine ⟨fun j hj => ?_, fun k hk => ?_⟩
  · have lt := lastAt_lt hj
    obtain ⟨x, hx, hm⟩ := drift_some (hv.ev i hi).name
    obtain ⟨r1, r2⟩ := fo.rate x hm
    exact ⟨by omega, ⟨x, hx, r2.2, r1.2, .of r2.1 (by decide), .of r1.1 (by decide)⟩, .of (hv.ev i hi).st (by decide), .of (hv.ev j (by omega)).st (by decide), .of (gone_ok fo hv hi (by omega)) (by decide)⟩
  · obtain ⟨lt, l, hl⟩ := (hv.ev i hi).hear k hk
    have lk := (hv.ev k (by omega)).send l hl
    exact ⟨⟨by omega, l, fl.ls[l], hl, List.getElem?_eq_getElem lk⟩, lt⟩
theorem row_mem (fo : FlG fl) (hv : HG fl es) {i : Nat} (hi : i < es.length) {m : Mv} (hm : m ∈ row fl es i) : m.x < i ∧ Fr.Ok 29 m.lo ∧ ∀ q, m.hi = some q → Fr.Ok 29 q := by
  unfold row movesInto at hm
  rcases List.mem_append.mp hm with hm | hm
  · unfold mv1 at hm
    split at hm
    · next j h hj hh =>
      simp only [List.mem_cons, List.not_mem_nil, or_false] at hm
      subst hm
      have lt := lastAt_lt hj
      have hmem : h ∈ fl.hs := List.mem_of_find?_eq_some hh
      obtain ⟨r1, r2⟩ := fo.rate h hmem
      have g := gone_ok fo hv hi (show j < es.length by omega)
      refine ⟨lt, Fr.div_ok g r2.1 (by have := r2.2; omega), fun q hq => ?_⟩
      cases hq
      exact Fr.div_ok g r1.1 (by have := r1.2; omega)
    · simp at hm
  · unfold mv2 at hm
    split at hm
    · next k hk =>
      split at hm
      · next l hl =>
        simp only [List.mem_cons, List.not_mem_nil, or_false] at hm
        subst hm
        have lt := ((hv.ev i hi).hear k hk).1
        have lm : l ∈ fl.ls := by
          unfold linkAt at hl
          split at hl
          · exact List.mem_of_getElem? hl
          · cases hl
        obtain ⟨o1, o2⟩ := fo.lk l lm
        exact ⟨lt, o1.mono (by decide), fun q hq => (o2 q hq).mono (by decide)⟩
      · simp at hm
    · simp at hm
def POk (n : Nat) (p : Pr) : Prop := ∀ b x, sel b p = some x → Fr.Ok n x
theorem end_ok (fo : FlG fl) (hv : HG fl es) {i : Nat} (hi : i < es.length) (hp : ∀ j, j < i → POk (30 * (j + 1)) ((pairsUp fl es i).getD j (none, none))) {m : Mv} (hm : m ∈ row fl es i) (b : Bool) (x : Fq) (hx : endOf (pairsUp fl es i) b m = some x) : Fr.Ok (30 * (i + 1)) x := by
  obtain ⟨lt, o1, o2⟩ := row_mem fo hv hi hm
  unfold endOf at hx
  have pj := hp m.x lt b
  cases e1 : sel b ((pairsUp fl es i).getD m.x (none, none)) with
  | none => rw [e1] at hx; simp [addO] at hx
  | some a =>
    cases e2 : sel b (some m.lo, m.hi) with
    | none => rw [e1, e2] at hx; simp [addO] at hx
    | some c =>
      rw [e1, e2] at hx
      simp only [addO, Option.some.injEq] at hx
      subst hx
      have oc : Fr.Ok 29 c := by
        cases b with
        | true => exact o2 c (by simpa [sel] using e2)
        | false =>
          simp only [sel, Bool.false_eq_true, if_false, Option.some.injEq] at e2
          subst e2
          exact o1
      exact (Fr.add_ok (pj a e1) oc).mono (by omega)
theorem pairs_ok (fo : FlG fl) (hv : HG fl es) : ∀ i, i ≤ es.length → ∀ j, j < i → POk (30 * (j + 1)) ((pairsUp fl es i).getD j (none, none))
  | 0, _, j, h => by omega
  | i + 1, hi, j, hj => by
    have ih := pairs_ok fo hv i (by omega)
    rw [pairsUp]
    by_cases e : j < i
    · rw [getD_app (by rw [pairsUp_len]; exact e)]
      exact ih j e
    · have e : j = i := by omega
      subst e
      have := getD_end (ps := pairsUp fl es j) (p := keptOf fl (es.getD j dEv) (row fl es j) (pairsUp fl es j))
      rw [pairsUp_len] at this
      rw [this]
      intro b x hx
      unfold keptOf at hx
      split at hx
      · have : x = (es.getD j dEv).stamp := by cases b <;> simpa [sel, eq_comm] using hx
        subst this
        exact (hv.ev j (by omega)).st.mono (by omega)
      · cases b with
        | true =>
          simp only [sel, if_true] at hx
          rcases least_mem _ _ _ hx with m | m
          · obtain ⟨mv, hm, he⟩ := List.mem_filterMap.mp m
            exact end_ok fo hv (by omega) ih hm _ _ he
          · cases m
        | false =>
          simp only [sel, Bool.false_eq_true, if_false] at hx
          rcases greatest_mem _ _ _ hx with m | m
          · obtain ⟨mv, hm, he⟩ := List.mem_filterMap.mp m
            exact end_ok fo hv (by omega) ih hm _ _ he
          · cases m
theorem hi_ok (fo : FlG fl) (hv : HG fl es) : HiOk fl es := by
  have l30 := hv.len
  refine ⟨hv.len, rows_ok fo hv, fun i hi m hm => ?_, fun i hi b q hq => ?_, fun i hi p hp b x hx => ?_⟩
  · obtain ⟨lt, o1, o2⟩ := row_mem fo hv hi hm
    refine ⟨by rw [pairsUp_len]; exact lt, fun b x hx => ?_, fun b x hx => ?_⟩
    · exact .of (pairs_ok fo hv i (by omega) m.x lt b x hx) (by omega)
    · cases b with
      | true => exact .of (o2 x (by simpa [sel] using hx)) (by decide)
      | false =>
        simp only [sel, Bool.false_eq_true, if_false, Option.some.injEq] at hx
        subst hx
        exact .of o1 (by decide)
  · obtain ⟨mv, hm, he⟩ := List.mem_filterMap.mp hq
    exact .of (end_ok fo hv hi (pairs_ok fo hv i (by omega)) hm _ _ he) (by omega)
  · obtain ⟨j, hj⟩ := List.getElem?_of_mem hp
    have lj := (List.getElem?_eq_some_iff.mp hj).1
    rw [pairsUp_len] at lj
    have e : (pairsUp fl es i).getD j (none, none) = p := by simp [List.getD, hj]
    exact .of (pairs_ok fo hv i hi j lj b x (by rw [e]; exact hx)) (by omega)
theorem pairs_snoc (hv : HG fl (es ++ [ev])) : pairsUp fl (es ++ [ev]) es.length = pairsUp fl es es.length := by
  refine pairs_congr _ (fun j hj => getD_l hj) fun j k hj hd => ?_
  have := (hv.ev j (by simp; omega)).hear k (by rw [getD_l hj]; exact hd)
  exact this.1
theorem hear_lt (hv : HG fl (es ++ [ev])) {k : Nat} (h : ev.deed = .hear k) : k < es.length := ((hv.ev es.length (by simp)).hear k (by rw [getD_r]; exact h)).1
theorem pairs_next (hv : HG fl (es ++ [ev])) : pairsUp fl (es ++ [ev]) (es ++ [ev]).length = pairsUp fl es es.length ++ [nextOf fl es ev] := by
  rw [List.length_append, List.length_singleton, pairsUp, pairs_snoc hv, getD_r, moves_snoc fun k => hear_lt hv]
  rfl
theorem next_ok (fo : FlG fl) (hv : HG fl (es ++ [ev])) : NextOk fl es ev := by
  have H := hi_ok fo hv
  have hi : es.length < (es ++ [ev]).length := by simp
  have R := H.rows es.length hi
  have e1 := moves_snoc (fl := fl) (fun k => hear_lt hv (k := k))
  have e2 := pairs_snoc hv
  refine ⟨fun j hj => ?_, fun k hk => ?_, fun m hm => ?_, fun b q hq => ?_⟩
  · have lt := lastAt_lt hj
    obtain ⟨a, b, c, d, g⟩ := R.l j (by rw [getD_r, lastAt_app _ (Nat.le_refl _)]; exact hj)
    rw [getD_r] at b c g
    rw [getD_l lt] at d g
    exact ⟨lt, b, c, d, g⟩
  · obtain ⟨⟨a, l, lk, b, c⟩, g⟩ := R.d k (by rw [getD_r]; exact hk)
    rw [getD_l g] at b
    exact ⟨g, l, lk, b, c⟩
  · have := H.mv es.length hi m (by rw [e1]; exact hm)
    rw [e2] at this
    exact this
  · exact H.bd es.length hi b q (by rw [e1, e2]; exact hq)
end
section
variable {ρ : Rho} {S T : Sto} {n e p d : Nat} {fl : Fl} {es : List Ev} {ev : Ev} {Q : Val → Sto → Prop} {i : Nat}
theorem noteG_wp (K : Kpr S n e p d fl es) (l30 : es.length < 30) {x : Str} {st : Fq} {b : Di} (hs : Bd st) (he : ∀ j, j < es.length → Bd (es.getD j dEv).stamp) (snd : ∀ j l, j < es.length → (es.getD j dEv).deed = .send l → l < fl.ls.length) (ok : bars fl es x st b = none → NextOk fl es (⟨x, st, ddOf b⟩ : Ev) ∧ pairsUp fl (es ++ [(⟨x, st, ddOf b⟩ : Ev)]) (es ++ [(⟨x, st, ddOf b⟩ : Ev)]).length = pairsUp fl es es.length ++ [nextOf fl es (⟨x, st, ddOf b⟩ : Ev)]) :
    Wp (Keeper_note_ [.ref n, .str x, frV st, diV b] S) (Noted S n e p d fl es x st b) := by
  have ne := K.ne
  have nd : d ≠ e := fun z => by obtain ⟨D, gD, _⟩ := K.di; rw [z, K.ev] at gD; cases gD
  have nd2 : d ≠ p := fun z => by obtain ⟨D, gD, _⟩ := K.di; rw [z, K.pr] at gD; cases gD
  have n1 : n ≠ e := fun z => by have := K.ob; rw [z, K.ev] at this; cases this
  have n2 : n ≠ p := fun z => by have := K.ob; rw [z, K.pr] at this; cases this
  have n3 : n ≠ d := fun z => by obtain ⟨D, gD, _⟩ := K.di; have := K.ob; rw [z, gD] at this; cases this
  refine AL.wf ?_; simp only [List.map_cons, List.map_nil, List.length_cons, List.length_nil, Nat.reduceAdd, Nat.reduceSub, List.replicate_succ, List.replicate_zero, List.cons_append, List.nil_append]; unfold Keeper_note_B; array_get_dec
  refine says_x (b := bar1 fl es x st) (wMe (wv rfl ⟨_, _, rfl, K.ob, rfl, ?_⟩)) (fun h1 => ?_) fun c vs h1 => ?_
  · array_get_dec
    exact bar_place_wp K hs he
  rotate_left
  · show Noted _ _ _ _ _ _ _ _ _ _ _ _
    unfold Noted bars
    rw [h1]
    exact ⟨rfl, rfl⟩
  have eb : bars fl es x st b = bar2 fl es x b := by unfold bars; rw [h1]
  array_get_dec
  refine says_x (b := bar2 fl es x b) (wMe (wv rfl ⟨_, _, rfl, K.ob, rfl, ?_⟩)) (fun h2 => ?_) fun c vs h2 => ?_
  · array_get_dec
    exact bar_deed_wp K snd
  rotate_left
  · show Noted _ _ _ _ _ _ _ _ _ _ _ _
    unfold Noted
    rw [eb, h2]
    exact ⟨rfl, rfl⟩
  rw [h2] at eb
  obtain ⟨nx, pn⟩ := ok eb
  have ee : Val.tup [.str x, frV st, diV b] = evV (⟨x, st, ddOf b⟩ : Ev) := by unfold evV; rw [dd_of h2]
  array_get_dec
  refine fEv K rfl ?_
  array_get_dec
  refine vLenL rfl K.ev ?_
  rw [List.length_map]
  array_get_dec
  rw [ee]
  refine fPr K rfl ?_
  array_get_dec
  have lp := lt_of_at K.pr
  have hp : S[p]? = some (.lst ((pairsUp fl es es.length).map prV)) := K.pr
  refine sd (isL_of hp) ?_
  array_get_dec
  refine wMe (wv rfl ⟨_, _, rfl, K.ob, rfl, ?_⟩)
  array_get_dec
  refine (pair_next_wp K nx).imp ?_
  rintro _ T1 ⟨rfl, k1⟩
  have K1 := K.kn k1
  array_get_dec
  refine vApp rfl K1.pr ?_ (small (by rw [List.length_map, K37.pairsUp_len]; omega))
  intro T2 l_T2 g_T2 k_T2
  array_get_dec
  refine wFld (wv rfl ⟨_, _, _, rfl, k_T2 _ _ n2 K1.ob, k_ev, ?_⟩)
  have h2e := k_T2 _ _ ne K1.ev
  array_get_dec
  array_get_dec
  refine vApp rfl h2e ?_ (small (by rw [List.length_map]; omega))
  intro T3 l_T3 g_T3 k_T3
  array_get_dec
  obtain ⟨D, gD, vD, lD⟩ := K1.di
  have h3o := k_T3 _ _ n1 (k_T2 _ _ n2 K1.ob)
  have h3d := k_T3 _ _ nd (k_T2 _ _ nd2 gD)
  refine wFld (wv rfl ⟨_, _, _, rfl, h3o, k_la, ?_⟩)
  array_get_dec
  refine vPut h3d rfl ?_ (small (by omega))
  intro T4 l_T4 g_T4 k_T4
  refine ws_retN ?_
  array_get_dec
  unfold Noted
  rw [eb]
  refine ⟨rfl, ⟨k_T4 _ _ n3 h3o, ?_, ?_, ⟨_, g_T4, fun y => ?_, ?_⟩, ne⟩, fun i o ie ip id h => k_T4 _ _ id (k_T3 _ _ ie (k_T2 _ _ ip (k1 _ _ h)))⟩
  · rw [List.map_append]
    exact k_T4 _ _ nd.symm g_T3
  · rw [pn, List.map_append]
    exact k_T4 _ _ nd2.symm (k_T3 _ _ ne.symm g_T2)
  · rw [K37.valA_put, lastAt_snoc, vD]
    by_cases h : y = x
    · subst h
      rw [if_pos rfl, if_pos rfl]
      rfl
    · rw [if_neg (fun z => h (by injection z)), if_neg (fun z => h z.symm)]
  · have := K37.putA_len (d := D) (k := .inr x) (v := Val.int (es.length : Nat))
    rw [List.length_append, List.length_singleton]
    omega
end
end K76
namespace K76
open PySem PySem.Spec PyProof.Rows L2 G Th AL KL Fr Od
open K37 (Fq frV Bd Tp Hs Lk Fl Dd Ev Pr Mv oV prV hsV lkV flV ddV evV hiV dEv lastAt driftOf pairsUp movesInto mv1 mv2 keptOf endOf sel lastV LastOk HearOk MvOk RowOk HiOk row low_eq plusL_eq byL_eq is_lessL_eq fmod_lt p60 pow18 small_pow at_ints TxOk Sh ShL at_nat map_get getD_get addO least_mem greatest_mem)
open K08 (ws_cut wm wd)
open K56 (lc_all)
open K58 (lc_fil)
open K37 (getD_app getD_end pairsUp_len lastAt_lt getD_l getD_r drift_some linkAt mvV leastO greatestO)
open K37 (common_divisor_ common_divisor_B ratio_ ratio_B added_ added_B added_told_ added_told_B less_ less_B parted_ parted_B is_below_ is_below_B least_of_ least_of_B greatest_of_ greatest_of_B drift_of_ drift_of_B moves_into_ moves_into_B moved_end_ moved_end_B ends_told_ ends_told_B kept_pair_ kept_pair_B is_lessL_ is_lessL_B)
open K43 (Keeper_init_ Keeper_init_B Keeper_bar_place_ Keeper_bar_place_B Keeper_bar_send_ Keeper_bar_send_B Keeper_bar_number_ Keeper_bar_number_B Keeper_bar_hear_ Keeper_bar_hear_B Keeper_bar_deed_ Keeper_bar_deed_B Keeper_pair_next_ Keeper_pair_next_B Keeper_note_ Keeper_note_B Keeper_history_ Keeper_history_B Keeper_now_ Keeper_now_B Keeper_pair_ Keeper_pair_B)
open K57 (own_best_ own_best_B)
open K56 (first_state_ first_state_B)
open K58 (NetRun_init_ NetRun_init_B)
open K43 (bar1 bar2 bars Bar dLk Di diV ddOf dd_of Kpr Kx3 NextOk nextOf says_x bar_place_wp bar_deed_wp pair_next_wp fAt fEv fPr fLa k_ev k_la wMe wMk wFld moves_snoc Noted isX_pr history_wp make_wp hisV reprL ws_fldS)
def diOf : Dd → Di
  | .mark => .mark
  | .send l => .send (l : Nat)
  | .hear k => .hear (k : Nat)
theorem diV_of (d : Dd) : diV (diOf d) = ddV d := by cases d <;> rfl
theorem ddOf_of (d : Dd) : ddOf (diOf d) = d := by cases d <;> simp [diOf, ddOf]

structure Fit (fl : Fl) (es : List Ev) (ev : Ev) : Prop where
  nm : ev.name ∈ fl.hs.map Hs.name
  ok : Fr.Ok 12 ev.stamp
  st : ∀ j, lastAt es es.length ev.name = some j → ¬ (ev.stamp.1 * (es.getD j dEv).stamp.2 < (es.getD j dEv).stamp.1 * ev.stamp.2)
  snd : ∀ l, ev.deed = .send l → l < fl.ls.length ∧ (fl.ls.getD l dLk).fr = ev.name
  hr : ∀ k, ev.deed = .hear k → k < es.length ∧ ∃ l, (es.getD k dEv).deed = .send l ∧ l < fl.ls.length ∧ (fl.ls.getD l dLk).to = ev.name
section
variable {S T : Sto} {n e p d : Nat} {fl : Fl} {es : List Ev} {ev : Ev} {ρ : Rho} {Q : Val → Sto → Prop} {i : Nat}
theorem hg_snoc (hv : HG fl es) (l : es.length < 30) (f : Fit fl es ev) : HG fl (es ++ [ev]) := by
  refine ⟨by rw [List.length_append, List.length_singleton]; omega, fun i hi => ?_⟩
  rw [List.length_append, List.length_singleton] at hi
  by_cases h : i < es.length
  · obtain ⟨a, b, c, d⟩ := hv.ev i h
    refine ⟨by rw [getD_l h]; exact a, by rw [getD_l h]; exact b, by rw [getD_l h]; exact c, fun k hk => ?_⟩
    rw [getD_l h] at hk
    obtain ⟨lt, l, hl⟩ := d k hk
    exact ⟨lt, l, by rw [getD_l (by omega)]; exact hl⟩
  · have e : i = es.length := by omega
    subst e
    refine ⟨by rw [getD_r]; exact f.nm, by rw [getD_r]; exact f.ok, by rw [getD_r]; exact fun l hl => (f.snd l hl).1, fun k hk => ?_⟩
    rw [getD_r] at hk
    obtain ⟨lt, l, hl, _⟩ := f.hr k hk
    exact ⟨lt, l, by rw [getD_l lt]; exact hl⟩
theorem fit_bars (f : Fit fl es ev) : bars fl es ev.name ev.stamp (diOf ev.deed) = none := by
  have e1 : bar1 fl es ev.name ev.stamp = none := by
    unfold bar1
    obtain ⟨x, hx, _⟩ := drift_some f.nm
    rw [hx]
    cases hl : lastAt es es.length ev.name with
    | none => rfl
    | some j =>
      dsimp only
      rw [if_neg (f.st j hl)]
  unfold bars
  rw [e1]
  dsimp only
  cases hd : ev.deed with
  | mark => rfl
  | send l =>
    obtain ⟨a, b⟩ := f.snd l hd
    unfold diOf bar2
    dsimp only
    rw [if_pos ⟨by omega, by omega⟩, Int.toNat_natCast, if_neg (fun h => h b)]
  | hear k =>
    obtain ⟨a, l, b, c, g⟩ := f.hr k hd
    unfold diOf bar2
    dsimp only
    rw [if_pos ⟨by omega, by omega⟩, Int.toNat_natCast, b]
    dsimp only
    rw [if_neg (fun h => h g)]
theorem bd12 {x : Fq} (h : Fr.Ok 12 x) : Bd x := .of h (by decide)
theorem note_ok (K : Kpr S n e p d fl es) (fo : FlG fl) (hv : HG fl es) (l : es.length < 30) (f : Fit fl es ev) :
    Wp (Keeper_note_ [.ref n, .str ev.name, frV ev.stamp, ddV ev.deed] S) fun v T => v = .int es.length ∧ Kpr T n e p d fl (es ++ [ev]) ∧ Kx3 e p d S T := by
  have e1 : (⟨ev.name, ev.stamp, ddOf (diOf ev.deed)⟩ : Ev) = ev := by rw [ddOf_of]
  have hv1 := hg_snoc hv l f
  have := noteG_wp (x := ev.name) (st := ev.stamp) (b := diOf ev.deed) K l (bd12 f.ok) (fun j hj => bd12 (hv.ev j hj).st) (fun j l hj => (hv.ev j hj).send l) (fun _ => by rw [e1]; exact ⟨next_ok fo hv1, pairs_next hv1⟩)
  rw [diV_of] at this
  refine this.imp ?_
  intro v T h
  unfold Noted at h
  rw [fit_bars f, e1] at h
  exact h
theorem nowG_wp (K : Kpr S n e p d fl es) (fo : FlG fl) (hv : HG fl es) (l : es.length < 30) {x : Str} {st : Fq} (f : Fit fl es ⟨x, st, .mark⟩) :
    Wp (Keeper_now_ [.ref n, .str x, frV st] S) fun v T => v = prV (nextOf fl es ⟨x, st, .mark⟩) ∧ Kn S T := by
  have b1 : bar1 fl es x st = none := by
    have := fit_bars f
    unfold bars at this
    dsimp only at this
    cases h : bar1 fl es x st with
    | none => rfl
    | some q => rw [h] at this; cases this
  refine AL.wf ?_; simp only [List.map_cons, List.map_nil, List.length_cons, List.length_nil, Nat.reduceAdd, Nat.reduceSub, List.replicate_succ, List.replicate_zero, List.cons_append, List.nil_append]; unfold Keeper_now_B; array_get_dec
  refine says_x (b := bar1 fl es x st) (wMe (wv rfl ⟨_, _, rfl, K.ob, rfl, ?_⟩)) (fun h1 => ?_) fun c vs h1 => ?_
  · array_get_dec
    exact bar_place_wp K (bd12 f.ok) (fun j hj => bd12 (hv.ev j hj).st)
  · refine ws_retN (wMe (wv rfl ⟨_, _, rfl, K.ob, rfl, ?_⟩))
    array_get_dec
    refine (pair_next_wp (ev := ⟨x, st, .mark⟩) K (next_ok fo (hg_snoc hv l f))).imp ?_
    rintro _ T ⟨rfl, k⟩
    exact ⟨isX_pr _, rfl, k⟩
  · rw [b1] at h1
    cases h1
theorem take_get {m j : Nat} (h : j < m) : (es.take m).getD j dEv = es.getD j dEv := by
  simp only [List.getD_eq_getElem?_getD, List.getElem?_take, if_pos h]
theorem hg_take (hv : HG fl es) (m : Nat) : HG fl (es.take m) := by
  have l := hv.len
  have lt := List.length_take (i := m) (l := es)
  refine ⟨by omega, fun i hi => ?_⟩
  obtain ⟨a, b, c, d⟩ := hv.ev i (by omega)
  have g := take_get (es := es) (m := m) (j := i) (by omega)
  refine ⟨by rw [g]; exact a, by rw [g]; exact b, by rw [g]; exact c, fun k hk => ?_⟩
  rw [g] at hk
  obtain ⟨lt, l, hl⟩ := d k hk
  exact ⟨lt, l, by rw [take_get (by omega)]; exact hl⟩
theorem up_take {m : Nat} : ∀ n, m ≤ n → (pairsUp fl es n).take m = pairsUp fl es m
  | 0, h => by
    have : m = 0 := by omega
    subst this
    rfl
  | n + 1, h => by
    by_cases e : m = n + 1
    · subst e
      exact List.take_of_length_le (by rw [pairsUp_len]; exact Nat.le_refl _)
    · rw [pairsUp, List.take_append_of_le_length (by rw [pairsUp_len]; omega)]
      exact up_take n (by omega)
theorem pairs_take (hv : HG fl es) {m : Nat} (h : m ≤ es.length) : pairsUp fl (es.take m) m = (pairsUp fl es es.length).take m := by
  rw [up_take _ h]
  exact pairs_congr m (fun j hj => take_get hj) fun j k hj hd => ((hv.ev j (by omega)).hear k hd).1
def wG : Nat → Nat
  | 0 => 0
  | i + 1 => wG i + (4 * (30 * (i + 1)) + 6 + 1)
theorem wG_le : ∀ i, i ≤ 24 → wG i ≤ 40000 := by decide
theorem sh_pairsG (fo : FlG fl) (hv : HG fl es) : ∀ i, i ≤ es.length → ShL 2 (wG i) ((pairsUp fl es i).map prV)
  | 0, _ => K37.ShL.nil
  | i + 1, hi => by
    have l30 := hv.len
    have ih := sh_pairsG fo hv i (by omega)
    have pk := pairs_ok fo hv (i + 1) hi i (by omega)
    rw [pairsUp] at pk ⊢
    have ge := getD_end (ps := pairsUp fl es i) (p := keptOf fl (es.getD i dEv) (row fl es i) (pairsUp fl es i))
    rw [pairsUp_len] at ge
    rw [ge] at pk
    rw [List.map_append]
    exact ih.snoc (K37.Sh.pr pk (by omega))
theorem cf_g (cf : CF fl) : FlG fl := ⟨fun h hh => ⟨sl4_ok (cf.rate h hh).1, fa4_ok (cf.rate h hh).2⟩, fun l hl => ⟨(le4_ok (cf.lk l hl).le).1.mono (by decide), fun m hm => ((cf.lk l hl).mo m hm).1⟩⟩
theorem shG_fl (cf : CF fl) : Sh 4 2000 (flV fl) := by
  have tx : ∀ x ∈ fl.hs.map Hs.name, TxOk x := fun x hx => nm4_ok (cf.nm x hx)
  have h1 := (K37.ShL.map (f := hsV) (n := 2) (w := 40) fl.hs fun h hh => by
    have := (K37.ShL.cons (K37.Sh.str (tx _ (List.mem_map_of_mem hh)) |>.mono (n' := 1) (by omega) (Nat.le_refl _)) (K37.ShL.cons (K37.Sh.fr (sl4_ok (cf.rate h hh).1).1 (by decide)) (K37.ShL.cons (K37.Sh.fr (fa4_ok (cf.rate h hh).2).1 (by decide)) (K37.ShL.nil (w := 0))))).tup
    exact this.mono (by omega) (by omega)).tup
  have h2 := (K37.ShL.map (f := lkV) fl.ls fun l hl => K37.Sh.lk (tx _ (cf.lk l hl).fr) (tx _ (cf.lk l hl).to) (le4_ok (cf.lk l hl).le).1 fun m hm => ((cf.lk l hl).mo m hm).1).tup
  have h3 := K37.Sh.str (tx fl.src (by rw [cf.src]; exact cf.has))
  have a := cf.few
  have b := cf.lfew
  have := (K37.ShL.cons h1 (K37.ShL.cons h2 (K37.ShL.cons (h3.mono (n' := 3) (by omega) (Nat.le_refl _)) (K37.ShL.nil (w := 0))))).tup
  exact this.mono (by omega) (by omega)
theorem shG_hi (cf : CF fl) (hv : HG fl es) : Sh 5 5000 (hisV fl es) := by
  have l30 := hv.len
  have ev : ∀ e ∈ es, Sh 2 60 (evV e) := by
    intro e he
    obtain ⟨i, hi, rfl⟩ := List.getElem_of_mem he
    have g : es.getD i dEv = es[i] := by simp [List.getD, List.getElem?_eq_getElem hi]
    have ok := hv.ev i hi
    have nm := ok.name
    rw [g] at nm
    have tx : TxOk es[i].name := nm4_ok (cf.nm _ nm)
    have st := ok.st
    rw [g] at st
    have d := K37.Sh.dd (d := es[i].deed) (fun l hl => by have := ok.send l (by rw [g]; exact hl); have := cf.lfew; omega) (fun k hk => by have := (ok.hear k (by rw [g]; exact hk)).1; omega)
    have := (K37.ShL.cons ((K37.Sh.str tx).mono (n' := 1) (by omega) (Nat.le_refl _)) (K37.ShL.cons (K37.Sh.fr st (by decide)) (K37.ShL.cons d (K37.ShL.nil (w := 0))))).tup
    exact this.mono (by omega) (by omega)
  have h2 := (K37.ShL.map (f := evV) es ev).tup
  have := (K37.ShL.cons (shG_fl cf) (K37.ShL.cons (h2.mono (n' := 4) (w' := 1900) (by omega) (by omega)) (K37.ShL.nil (w := 0)))).tup
  exact this.mono (by omega) (by omega)
end
end K76
namespace K76
open PySem PySem.Spec PyProof.Rows L2 G Th AL KL Fr Od
open K37 (Fq frV Bd Tp Hs Lk Fl Dd Ev Pr Mv oV prV hsV lkV flV ddV evV hiV dEv lastAt driftOf pairsUp movesInto mv1 mv2 keptOf endOf sel lastV LastOk HearOk MvOk RowOk HiOk row low_eq plusL_eq byL_eq is_lessL_eq fmod_lt p60 pow18 small_pow at_ints TxOk Sh ShL at_nat map_get getD_get addO least_mem greatest_mem)
open K08 (ws_cut wm wd)
open K56 (lc_all)
open K58 (lc_fil)
open K37 (getD_app getD_end pairsUp_len lastAt_lt getD_l getD_r drift_some linkAt mvV leastO greatestO)
open K37 (common_divisor_ common_divisor_B ratio_ ratio_B added_ added_B added_told_ added_told_B less_ less_B parted_ parted_B is_below_ is_below_B least_of_ least_of_B greatest_of_ greatest_of_B drift_of_ drift_of_B moves_into_ moves_into_B moved_end_ moved_end_B ends_told_ ends_told_B kept_pair_ kept_pair_B is_lessL_ is_lessL_B)
open K43 (Keeper_init_ Keeper_init_B Keeper_bar_place_ Keeper_bar_place_B Keeper_bar_send_ Keeper_bar_send_B Keeper_bar_number_ Keeper_bar_number_B Keeper_bar_hear_ Keeper_bar_hear_B Keeper_bar_deed_ Keeper_bar_deed_B Keeper_pair_next_ Keeper_pair_next_B Keeper_note_ Keeper_note_B Keeper_history_ Keeper_history_B Keeper_now_ Keeper_now_B Keeper_pair_ Keeper_pair_B)
open K57 (own_best_ own_best_B)
open K56 (first_state_ first_state_B)
open K58 (NetRun_init_ NetRun_init_B)
open K43 (bar1 bar2 bars Bar dLk Di diV ddOf dd_of Kpr Kx3 NextOk nextOf says_x bar_place_wp bar_deed_wp pair_next_wp fAt fEv fPr fLa k_ev k_la wMe wMk wFld moves_snoc Noted isX_pr history_wp make_wp hisV reprL ws_fldS)
theorem add_neg {x y : Fq} : Fr.add x (0 - y.1, y.2) = Fr.sub x y := by
  unfold Fr.add Fr.sub
  congr 1
  show x.1 * y.2 + (0 - y.1) * x.2 = x.1 * y.2 - y.1 * x.2
  rw [Int.zero_sub, Int.neg_mul, Int.sub_eq_add_neg]
theorem minus_wp {S : Sto} {x : Fq} (hx : Bd x) : Wp (minusL_ [frV x] S) fun v T => v = frV (0 - x.1, x.2) ∧ S = T := by
  refine AL.wf ?_; simp only [List.map_cons, List.map_nil, List.length_cons, List.length_nil, Nat.reduceAdd, Nat.reduceSub, List.replicate_succ, List.replicate_zero, List.cons_append, List.nil_append]; unfold minusL_B; array_get_dec
  exact ⟨rfl, rfl⟩
theorem bd_neg {x : Fq} (h : Bd x) : Bd (0 - x.1, x.2) := by
  obtain ⟨a, b, c⟩ := h
  refine ⟨a, ?_, c⟩
  show (0 - x.1).natAbs < _
  rw [Int.zero_sub, Int.natAbs_neg]
  exact b
abbrev tm (ms : List Fq) (i : Nat) : Fq := ms.getD i (0, 1)
structure Hears (fl : Fl) (es : List Ev) (ms : List Fq) (x : Str) (t : Fq) (k : Nat) : Prop where
  lt : k < es.length
  l : ∃ l lk, (es.getD k dEv).deed = .send l ∧ fl.ls[l]? = some lk ∧ lk.to = x ∧ q lk.least ≤ q t - q (tm ms k) ∧ ∀ m, lk.most = some m → q t - q (tm ms k) ≤ q m

structure Sty (fl : Fl) (clk : Str → Int × Fq) (es : List Ev) (ms : List Fq) : Prop where
  le : ms.length = es.length
  t : ∀ i, i < es.length → QN 2 (4 * (i + 1)) (tm ms i) ∧ 0 ≤ q (tm ms i)
  up : ∀ i j, i ≤ j → j < es.length → q (tm ms i) ≤ q (tm ms j)
  nm : ∀ i, i < es.length → (es.getD i dEv).name ∈ fl.hs.map Hs.name
  st : ∀ i, i < es.length → (es.getD i dEv).stamp = stampOf clk (es.getD i dEv).name (tm ms i)
  snd : ∀ i l, i < es.length → (es.getD i dEv).deed = .send l → ∃ lk, fl.ls[l]? = some lk ∧ lk.fr = (es.getD i dEv).name
  hr : ∀ i k, i < es.length → (es.getD i dEv).deed = .hear k → k < i ∧ Hears fl es ms (es.getD i dEv).name (tm ms i) k
section
variable {S : Sto} {B : Int} {fl : Fl} {clk : Str → Int × Fq} {es : List Ev} {ms : List Fq}
theorem lk_at {l : Nat} {lk : Lk} (h : fl.ls[l]? = some lk) : atI (fl.ls.map lkV) (l : Nat) = some (lkV lk) := at_nat (map_get h)
theorem can_hear_wp (cf : CF fl) {A M : Nat} (gA : S[A]? = some (.lst (es.map evV))) (gM : S[M]? = some (.lst (ms.map frV))) (st : Sty fl clk es ms) {x : Str} {t : Fq} (ht : QN 2 60 t) (l14 : es.length ≤ 14) :
    Wp (can_hearL_ [flV fl, .ref A, .ref M, .str x, frV t] S) fun v T => ∃ (r : Nat) (ks : List Int), v = .ref r ∧ T[r]? = some (.lst (ks.map .int)) ∧ Kn S T ∧ ks.length ≤ 14 ∧ S.length ≤ r ∧ ∀ k ∈ ks, ∃ j : Nat, k = (j : Nat) ∧ Hears fl es ms x t j := by
  have lA := lt_of_at gA
  have lM := lt_of_at gM
  have t12 := ht.ok (n := 12) (by decide) (by decide)
  refine AL.wf ?_; simp only [List.map_cons, List.map_nil, List.length_cons, List.length_nil, Nat.reduceAdd, Nat.reduceSub, List.replicate_succ, List.replicate_zero, List.cons_append, List.nil_append]; unfold can_hearL_B; array_get_dec
  intro S1 r e_r l_S1 g_r k_S1
  refine bn rfl ?_
  array_get_dec
  refine .inr ⟨_, _, rfl, k_S1 _ _ gA, ?_⟩
  refine ws_loop (fun i ρ T => (∃ z6 z7 z8 z9 z10 z11 z12, ρ = [some (flV fl), some (.ref A), some (.ref M), some (.str x), some (frV t), some (.ref r), z6, z7, z8, z9, z10, z11, z12]) ∧ (∃ ks : List Int, T[r]? = some (.lst (ks.map .int)) ∧ ks.length ≤ i ∧ ∀ k ∈ ks, ∃ j : Nat, k = (j : Nat) ∧ Hears fl es ms x t j) ∧ Kx r S1 T) ⟨⟨_, _, _, _, _, _, _, rfl⟩, ⟨[], g_r, Nat.le_refl _, fun k hk => by cases hk⟩, .refl _ _⟩ (fun i ρ T _ ⟨_, _, k⟩ => k _ _ (by omega) (k_S1 _ _ gA)) ?_ ?_
  · rintro i v ρ T hv ⟨⟨z6, z7, z8, z9, z10, z11, z12, rfl⟩, ⟨ks, gr, lk, hk⟩, kT⟩
    obtain ⟨w, hw, rfl⟩ := enumV_get hv
    rw [List.getElem?_map] at hw
    obtain ⟨ev, hev, rfl⟩ := Option.map_eq_some_iff.mp hw
    have hi := (List.getElem?_eq_some_iff.mp hev).1
    have eev : es.getD i dEv = ev := by
      rw [getD_get hi] at hev
      exact Option.some.inj hev
    refine bn rfl ?_
    have skip : ∀ ρ', (∃ z6 z7 z8 z9 z10 z11 z12, ρ' = [some (flV fl), some (.ref A), some (.ref M), some (.str x), some (frV t), some (.ref r), z6, z7, z8, z9, z10, z11, z12]) → (∃ z6 z7 z8 z9 z10 z11 z12, ρ' = [some (flV fl), some (.ref A), some (.ref M), some (.str x), some (frV t), some (.ref r), z6, z7, z8, z9, z10, z11, z12]) ∧ (∃ ks : List Int, T[r]? = some (.lst (ks.map .int)) ∧ ks.length ≤ i + 1 ∧ ∀ k ∈ ks, ∃ j : Nat, k = (j : Nat) ∧ Hears fl es ms x t j) ∧ Kx r S1 T := fun ρ' h => ⟨h, ⟨ks, gr, by omega, hk⟩, kT⟩
    cases hd : ev.deed with
    | mark =>
      array_get_dec
      exact skip _ ⟨_, _, _, _, _, _, _, rfl⟩
    | hear k =>
      array_get_dec
      exact skip _ ⟨_, _, _, _, _, _, _, rfl⟩
    | send l =>
      obtain ⟨lk0, hl, hf⟩ := st.snd i l hi (by rw [eev]; exact hd)
      array_get_dec
      refine vIxT rfl rfl (lk_at hl) ?_
      array_get_dec
      by_cases hx : lk0.to = x
      · rw [decide_eq_true hx]
        array_get_dec
        refine vIxT rfl rfl (lk_at hl) ?_
        array_get_dec
        refine Wp.of K37.sl_lk ?_
        refine bn rfl ?_
        have lM2 : i < ms.length := by rw [st.le]; exact hi
        have mg : ms[i]? = some (tm ms i) := by simp [tm, List.getD, List.getElem?_eq_getElem lM2]
        have tq := (st.t i hi).1
        have m12 : Fr.Ok 12 (tm ms i) := (tq.mono (by omega : 4 * (i + 1) ≤ 60)).ok (by decide) (by decide)
        array_get_dec
        refine vIxL rfl rfl (kT _ _ (by omega) (k_S1 _ _ gM)) (at_nat (map_get mg)) ?_
        array_get_dec
        refine (minus_wp (.of m12 (by decide))).imp ?_
        rintro _ _ ⟨rfl, rfl⟩
        array_get_dec
        refine (add_wp (.of t12 (by decide)) (bd_neg (.of m12 (by decide)))).imp ?_
        rintro _ _ ⟨rfl, rfl⟩
        rw [add_neg]
        have lkg := cf.lk lk0 (List.mem_of_getElem? hl)
        have leo := (le4_ok lkg.le).1
        have go : Fr.Ok 25 (Fr.sub t (tm ms i)) := Fr.sub_ok t12 m12
        have qs : q (Fr.sub t (tm ms i)) = q t - q (tm ms i) := q_sub (by have := t12.pos; omega) (by have := m12.pos; omega)
        array_get_dec
        refine (less_wp (.of go (by decide)) (.of leo (by decide))).imp ?_
        rintro _ _ ⟨rfl, rfl⟩
        by_cases h1 : (Fr.sub t (tm ms i)).1 * lk0.least.2 < lk0.least.1 * (Fr.sub t (tm ms i)).2
        · rw [decide_eq_true h1]
          array_get_dec
          exact skip _ ⟨_, _, _, _, _, _, _, rfl⟩
        rw [decide_eq_false h1]
        have q1 : q lk0.least ≤ q t - q (tm ms i) := by
          rw [← qs]
          exact (q_le leo.pos go.pos).mp h1
        have put : ∀ ρ', (∀ m, lk0.most = some m → q t - q (tm ms i) ≤ q m) → (∃ z6 z7 z8 z9 z10 z11 z12, ρ' = [some (flV fl), some (.ref A), some (.ref M), some (.str x), some (frV t), some (.ref r), z6, z7, z8, z9, z10, z11, z12]) → ∀ T2, T2[r]? = some (.lst (ks.map .int ++ [.int (i : Nat)])) → Kx r T T2 → (∃ z6 z7 z8 z9 z10 z11 z12, ρ' = [some (flV fl), some (.ref A), some (.ref M), some (.str x), some (frV t), some (.ref r), z6, z7, z8, z9, z10, z11, z12]) ∧ (∃ ks : List Int, T2[r]? = some (.lst (ks.map .int)) ∧ ks.length ≤ i + 1 ∧ ∀ k ∈ ks, ∃ j : Nat, k = (j : Nat) ∧ Hears fl es ms x t j) ∧ Kx r S1 T2 := fun ρ' hm h T2 g2 k2 => ⟨h, ⟨ks ++ [((i : Nat) : Int)], by rw [g2, List.map_append]; rfl, by rw [List.length_append, List.length_singleton]; omega, fun k hk2 => by
          rcases List.mem_append.mp hk2 with hk2 | hk2
          · exact hk k hk2
          · exact ⟨i, List.mem_singleton.mp hk2, hi, l, lk0, by rw [eev]; exact hd, hl, hx, q1, hm⟩⟩, kT.trans k2⟩
        obtain ⟨lf, lt, ll, lm⟩ := lk0
        cases lm with
        | none =>
          array_get_dec
          refine vApp rfl gr ?_ (small (by rw [List.length_map]; omega))
          intro T2 l_T2 g_T2 k_T2
          exact put _ (fun m hm => by cases hm) ⟨_, _, _, _, _, _, _, rfl⟩ _ g_T2 k_T2
        | some m =>
          have mo := (lkg.mo m rfl).1
          array_get_dec
          refine (less_wp (.of mo (by decide)) (.of go (by decide))).imp ?_
          rintro _ _ ⟨rfl, rfl⟩
          by_cases h2 : m.1 * (Fr.sub t (tm ms i)).2 < (Fr.sub t (tm ms i)).1 * m.2
          · rw [decide_eq_true h2]
            array_get_dec
            exact skip _ ⟨_, _, _, _, _, _, _, rfl⟩
          rw [decide_eq_false h2]
          array_get_dec
          refine vApp rfl gr ?_ (small (by rw [List.length_map]; omega))
          intro T2 l_T2 g_T2 k_T2
          refine put _ (fun m' hm => ?_) ⟨_, _, _, _, _, _, _, rfl⟩ _ g_T2 k_T2
          cases hm
          rw [← qs]
          exact (q_le go.pos mo.pos).mp h2
      · rw [decide_eq_false hx]
        array_get_dec
        exact skip _ ⟨_, _, _, _, _, _, _, rfl⟩
  · rintro ρ T ⟨⟨z6, z7, z8, z9, z10, z11, z12, rfl⟩, ⟨ks, gr, lk, hk⟩, kT⟩
    have el : (enumV (es.map evV)).length = es.length := by simp [enumV]
    rw [el] at lk
    array_get_dec
    exact ⟨r, ks, rfl, gr, k_S1.upx kT (by omega), by omega, by omega, hk⟩
end
end K76
namespace K76
open PySem PySem.Spec PyProof.Rows L2 G Th AL KL Fr Od
open K37 (Fq frV Bd Tp Hs Lk Fl Dd Ev Pr Mv oV prV hsV lkV flV ddV evV hiV dEv lastAt driftOf pairsUp movesInto mv1 mv2 keptOf endOf sel lastV LastOk HearOk MvOk RowOk HiOk row low_eq plusL_eq byL_eq is_lessL_eq fmod_lt p60 pow18 small_pow at_ints TxOk Sh ShL at_nat map_get getD_get addO least_mem greatest_mem)
open K08 (ws_cut wm wd)
open K56 (lc_all)
open K58 (lc_fil)
open K37 (getD_app getD_end pairsUp_len lastAt_lt getD_l getD_r drift_some linkAt mvV leastO greatestO)
open K37 (common_divisor_ common_divisor_B ratio_ ratio_B added_ added_B added_told_ added_told_B less_ less_B parted_ parted_B is_below_ is_below_B least_of_ least_of_B greatest_of_ greatest_of_B drift_of_ drift_of_B moves_into_ moves_into_B moved_end_ moved_end_B ends_told_ ends_told_B kept_pair_ kept_pair_B is_lessL_ is_lessL_B)
open K43 (Keeper_init_ Keeper_init_B Keeper_bar_place_ Keeper_bar_place_B Keeper_bar_send_ Keeper_bar_send_B Keeper_bar_number_ Keeper_bar_number_B Keeper_bar_hear_ Keeper_bar_hear_B Keeper_bar_deed_ Keeper_bar_deed_B Keeper_pair_next_ Keeper_pair_next_B Keeper_note_ Keeper_note_B Keeper_history_ Keeper_history_B Keeper_now_ Keeper_now_B Keeper_pair_ Keeper_pair_B)
open K57 (own_best_ own_best_B)
open K56 (first_state_ first_state_B)
open K58 (NetRun_init_ NetRun_init_B)
open K43 (bar1 bar2 bars Bar dLk Di diV ddOf dd_of Kpr Kx3 NextOk nextOf says_x bar_place_wp bar_deed_wp pair_next_wp fAt fEv fPr fLa k_ev k_la wMe wMk wFld moves_snoc Noted isX_pr history_wp make_wp hisV reprL ws_fldS)
section
variable {S : Sto} {B : Int} {fl : Fl} {clk : Str → Int × Fq} {es : List Ev} {ms : List Fq} {ev : Ev} {t : Fq}
theorem tm_l {j : Nat} (h : j < ms.length) : tm (ms ++ [t]) j = tm ms j := by
  simp only [tm, List.getD, List.getElem?_append_left h]
theorem tm_r : tm (ms ++ [t]) ms.length = t := by
  simp [tm, List.getD]
theorem Hears.snoc {x : Str} {t' : Fq} {k : Nat} (h : Hears fl es ms x t' k) (le : ms.length = es.length) : Hears fl (es ++ [ev]) (ms ++ [t]) x t' k := by
  obtain ⟨lt, l, lk, a, b, c, d, e⟩ := h
  have e1 := tm_l (ms := ms) (t := t) (j := k) (by omega)
  exact ⟨by rw [List.length_append]; omega, l, lk, by rw [getD_l lt]; exact a, b, c, by rw [e1]; exact d, fun m hm => by rw [e1]; exact e m hm⟩
theorem Sty.nil : Sty fl clk [] [] := ⟨rfl, fun _ h => by simp at h, fun _ j _ h => by simp at h, fun _ h => by simp at h, fun _ h => by simp at h, fun _ _ h => by simp at h, fun _ _ h => by simp at h⟩
theorem Sty.snoc (s : Sty fl clk es ms) (ht : QN 2 (4 * (es.length + 1)) t) (h0 : 0 ≤ q t) (hup : ∀ j, j < es.length → q (tm ms j) ≤ q t) (nm : ev.name ∈ fl.hs.map Hs.name) (st : ev.stamp = stampOf clk ev.name t) (snd : ∀ l, ev.deed = .send l → ∃ lk, fl.ls[l]? = some lk ∧ lk.fr = ev.name) (hr : ∀ k, ev.deed = .hear k → Hears fl es ms ev.name t k) : Sty fl clk (es ++ [ev]) (ms ++ [t]) := by
  have le := s.le
  have ll : (es ++ [ev]).length = es.length + 1 := by rw [List.length_append]; rfl
  have er : tm (ms ++ [t]) es.length = t := by rw [← le]; exact tm_r
  refine ⟨by rw [List.length_append, List.length_append, le]; rfl, fun i hi => ?_, fun i j hij hj => ?_, fun i hi => ?_, fun i hi => ?_, fun i l hi hl => ?_, fun i k hi hk => ?_⟩
  all_goals rw [ll] at *
  · by_cases e : i < es.length
    · rw [tm_l (by omega)]
      exact s.t i e
    · have : i = es.length := by omega
      subst this
      rw [er]
      exact ⟨ht, h0⟩
  · by_cases e : j < es.length
    · rw [tm_l (by omega), tm_l (by omega)]
      exact s.up i j hij e
    · have : j = es.length := by omega
      subst this
      rw [er]
      by_cases e2 : i < es.length
      · rw [tm_l (by omega)]
        exact hup i e2
      · have : i = es.length := by omega
        rw [this, er]
        exact Rat.le_refl
  · by_cases e : i < es.length
    · rw [getD_l e]
      exact s.nm i e
    · have : i = es.length := by omega
      rw [this, getD_r]
      exact nm
  · by_cases e : i < es.length
    · rw [getD_l e, tm_l (by omega)]
      exact s.st i e
    · have : i = es.length := by omega
      rw [this, getD_r, er]
      exact st
  · by_cases e : i < es.length
    · rw [getD_l e] at hl ⊢
      exact s.snd i l e hl
    · have : i = es.length := by omega
      rw [this, getD_r] at hl ⊢
      exact snd l hl
  · by_cases e : i < es.length
    · rw [getD_l e] at hk ⊢
      rw [tm_l (by omega)]
      obtain ⟨a, b⟩ := s.hr i k e hk
      exact ⟨a, b.snoc le⟩
    · have : i = es.length := by omega
      rw [this, getD_r] at hk ⊢
      rw [er]
      have b := hr k hk
      exact ⟨by have := b.lt; omega, b.snoc le⟩
def tA : List Fq := [(0, 1), (1, 2), (1, 1), (2, 1)]
theorem tA_ok {x : Fq} (h : x ∈ tA) : QN 2 4 x ∧ 0 ≤ q x := by
  simp only [tA, List.mem_cons, List.not_mem_nil, or_false] at h
  rcases h with rfl | rfl | rfl | rfl
  · exact ⟨⟨0, ⟨by decide +kernel, by decide⟩, by decide⟩, by decide +kernel⟩
  · exact ⟨⟨1, ⟨by decide +kernel, by decide⟩, by decide⟩, by decide +kernel⟩
  · exact ⟨⟨2, ⟨by decide +kernel, by decide⟩, by decide⟩, by decide +kernel⟩
  · exact ⟨⟨4, ⟨by decide +kernel, by decide⟩, by decide⟩, by decide +kernel⟩

def Dok (fl : Fl) (es : List Ev) (ms : List Fq) (x : Str) (t : Fq) (d : Dd) : Prop := (∀ l, d = .send l → ∃ lk, fl.ls[l]? = some lk ∧ lk.fr = x) ∧ ∀ k, d = .hear k → Hears fl es ms x t k
theorem story_wp (cf : CF fl) (T0 : Tp S B) (hB : B + 400 < 100000) {n : Nat} (hn : n ≤ 14) : Wp (storyL_ [.ref 1, flV fl, .int (n : Nat)] S) fun v U => ∃ A M qc clk es ms D, v = .tup [.ref A, .ref M, .ref qc] ∧ U[A]? = some (.lst (es.map evV)) ∧ U[M]? = some (.lst (ms.map frV)) ∧ U[qc]? = some (.dic D) ∧ CkD fl clk D ∧ CkOk fl clk ∧ Sty fl clk es ms ∧ es.length = n ∧ Tp U (B + 200) ∧ Kx 1 S U ∧ S.length ≤ A ∧ S.length ≤ M ∧ A ≠ M ∧ S.length ≤ qc := by
  have s2 := T0.two
  have few := cf.few
  have two := cf.two
  have lfew := cf.lfew
  refine AL.wf ?_; simp only [List.map_cons, List.map_nil, List.length_cons, List.length_nil, Nat.reduceAdd, Nat.reduceSub, List.replicate_succ, List.replicate_zero, List.cons_append, List.nil_append]; unfold storyL_B; array_get_dec
  refine (clocks_wp cf T0 (by omega)).imp ?_
  rintro _ S1 ⟨clk, qc, D, rfl, gD, ck, cd, T1, k1, lq⟩
  have l1 : S.length ≤ S1.length := by
    by_cases h : 2 < S.length
    · exact k1.len (by omega)
    · have := T1.two
      omega
  array_get_dec
  intro S2 A e_A l_S2 g_A k_S2
  array_get_dec
  intro S3 M e_M l_S3 g_M k_S3
  array_get_dec
  have T3 : Tp S3 (B + 10) := (T1.kx (k_S2.kx 2) (by omega)).kx (k_S3.kx 2) (by omega)
  have lqc := lt_of_at gD
  refine ⟨_, rfl, ?_, by omega, by omega⟩
  rw [show ((n : Nat) : Int).toNat = n from Int.toNat_natCast n]
  have hr : (rangeV 0 n).length = n := rangeV_len ..
  refine ws_loop (fun i ρ T => ∃ (es : List Ev) (ms : List Fq) (t : Fq), (∃ z3 z8 z9 z10 z11 z12 z13, ρ = [some (.ref 1), some (flV fl), some (.int (n : Nat)), z3, some (.ref qc), some (.ref A), some (.ref M), some (frV t), z8, z9, z10, z11, z12, z13]) ∧ T[A]? = some (.lst (es.map evV)) ∧ T[M]? = some (.lst (ms.map frV)) ∧ Sty fl clk es ms ∧ es.length = i ∧ QN 2 (4 * i) t ∧ 0 ≤ q t ∧ (∀ j, j < es.length → q (tm ms j) ≤ q t) ∧ Tp T (B + 10 + 6 * (i : Nat)) ∧ (∀ z o, z ≠ 1 → z ≠ A → z ≠ M → S3[z]? = some o → T[z]? = some o)) ⟨[], [], (0, 1), ⟨_, _, _, _, _, _, _, rfl⟩, k_S3 _ _ g_A, g_M, .nil, rfl, ⟨0, ⟨by decide +kernel, by decide⟩, by decide⟩, by decide +kernel, fun j h => by simp at h, T3.mono (by omega), fun _ _ _ _ _ e => e⟩ (fun _ _ _ _ _ => trivial) ?_ ?_
  · rintro i v ρ T hv ⟨es, ms, t, ⟨z3, z8, z9, z10, z11, z12, z13, rfl⟩, gA, gM, st, li, ht, h0, hup, TT, kT⟩
    obtain ⟨rfl, hi⟩ := rangeV_get hv
    have lA := lt_of_at gA
    have lM := lt_of_at gM
    have gqc := kT _ _ (by omega) (by omega) (by omega) (k_S3 _ _ (k_S2 _ _ gD))
    refine bn rfl ?_
    array_get_dec
    intro U1 p1 e_p1 l_U1 g_p1 k_U1
    have TU1 := TT.kx (k_U1.kx 2) (by omega)
    array_get_dec
    refine (draw_wp TU1 (m := 4) (by omega) (by omega) (by omega)).imp ?_
    rintro _ U2 ⟨d, rfl, d0, d1, T2, j2⟩
    obtain ⟨v2, e2, m2⟩ := pick (vs := tA.map frV) (d := d) d0 (by show d < 4; omega)
    obtain ⟨dt, hdt, rfl⟩ := List.mem_map.mp m2
    obtain ⟨dq, d0'⟩ := tA_ok hdt
    refine vIxL rfl rfl (j2 _ _ (by omega) g_p1) e2 ?_
    have t12 : Fr.Ok 12 t := (ht.mono (by omega : 4 * i ≤ 60)).ok (by decide) (by decide)
    have dt12 : Fr.Ok 12 dt := dq.ok (by decide) (by decide)
    array_get_dec
    refine (add_wp (.of t12 (by decide)) (.of dt12 (by decide))).imp ?_
    rintro _ _ ⟨rfl, rfl⟩
    have hn1 : QN 2 (4 * (i + 1)) (Fr.add t dt) := (ht.add dq).mono (by omega)
    have qn1 : q (Fr.add t dt) = q t + q dt := q_add (by have := t12.pos; omega) (by have := dt12.pos; omega)
    have h01 : 0 ≤ q (Fr.add t dt) := by grind
    have hup1 : ∀ j, j < es.length → q (tm ms j) ≤ q (Fr.add t dt) := fun j hj => by have := hup j hj; grind
    generalize hT' : Fr.add t dt = t' at hn1 h01 hup1 ⊢
    refine bn rfl ?_
    array_get_dec
    rw [List.length_map]
    refine (draw_wp T2 (m := ((fl.hs.length : Nat) : Int)) (by omega) (by omega) (by omega)).imp ?_
    rintro _ U3 ⟨f, rfl, f0, f1, T3', j3⟩
    have l2 := j2.len (by omega)
    have l3 := j3.len (by omega)
    obtain ⟨v3, e3, m3⟩ := pick (vs := fl.hs.map hsV) (d := f) f0 (by rw [List.length_map]; exact f1)
    obtain ⟨h, hh, rfl⟩ := List.mem_map.mp m3
    have nm : h.name ∈ fl.hs.map Hs.name := List.mem_map_of_mem hh
    refine vIxT rfl rfl e3 ?_
    array_get_dec
    refine .inl ⟨_, rfl, ?_⟩
    refine lc_inv (fun i a V => V = U3 ∧ ∃ ks : List Int, a = ks.map .int ∧ ks.length ≤ i ∧ ∀ k ∈ ks, ∃ l : Nat, k = (l : Nat) ∧ ∃ lk, fl.ls[l]? = some lk ∧ lk.fr = h.name) (by simp [enumV]; omega) ⟨rfl, [], rfl, Nat.le_refl _, fun k hk => by cases hk⟩ (fun _ _ _ _ _ => trivial) (fun i a V ⟨_, ks, e, l, _⟩ => by rw [e, List.length_map]; exact l) ?_ ?_
    · rintro j v a V hv ⟨rfl, ks, rfl, lks, hks⟩
      obtain ⟨w, hw, rfl⟩ := enumV_get hv
      rw [List.getElem?_map] at hw
      obtain ⟨lk, hlk, rfl⟩ := Option.map_eq_some_iff.mp hw
      refine bn rfl ?_
      by_cases hx : lk.fr = h.name
      · array_get_dec
        refine brT (decide_eq_true hx) ?_
        array_get_dec
        refine ⟨rfl, ks ++ [((j : Nat) : Int)], by rw [List.map_append]; rfl, by rw [List.length_append, List.length_singleton]; omega, fun k hk => ?_⟩
        rcases List.mem_append.mp hk with hk | hk
        · exact hks k hk
        · exact ⟨j, List.mem_singleton.mp hk, lk, hlk, hx⟩
      · array_get_dec
        refine brF (decide_eq_false hx) ?_
        exact ⟨rfl, ks, rfl, by omega, hks⟩
    rintro a V ⟨rfl, ws, rfl, lws, hws⟩
    have lws : ws.length ≤ 6 := by
      have : (enumV (fl.ls.map lkV)).length = fl.ls.length := by simp [enumV]
      omega
    intro U4 p4 e_p4 l_U4 g_p4 k_U4
    have T4 := T3'.kx (k_U4.kx 2) (by omega)
    have kp : ∀ {z : Nat} {o : Ob}, z ≠ 1 → T[z]? = some o → U4[z]? = some o := fun {z o} hz e => k_U4 _ _ (j3 _ _ hz (j2 _ _ hz (k_U1 _ _ e)))
    array_get_dec
    refine (can_hear_wp cf (kp (by omega) gA) (kp (by omega) gM) st (hn1.mono (by omega)) (by omega)).imp ?_
    rintro _ U5 ⟨p5, hs, rfl, g5, k5, lhs, lp5, hhs⟩
    have T5 := T4.kx (k5.kx 2) (by omega)
    array_get_dec
    refine (draw_wp T5 (m := 4) (by omega) (by omega) (by omega)).imp ?_
    rintro _ U6 ⟨w, rfl, w0, w1, T6, j6⟩
    have l5 : U4.length ≤ U5.length := k5.len
    have g4 := j6 _ _ (by omega) (k5 _ _ g_p4)
    have g5 := j6 _ _ (by omega) g5
    have l6 := j6.len (by omega)
    refine bn rfl ?_
    refine ws_seq (ws_cut (N' := fun ρ T' => ∃ dd z13, ρ = [some (.ref 1), some (flV fl), some (.int (n : Nat)), some (.int (0 + (i : Nat))), some (.ref qc), some (.ref A), some (.ref M), some (frV t'), some (.ref p4), some (.ref p5), some (.int w), some (.str h.name), some (ddV dd), z13] ∧ Dok fl es ms h.name t' dd ∧ Tp T' (B + 10 + 6 * (i : Nat) + 4) ∧ Kx 1 U6 T') ?_ ?_)
    · have no : Dok fl es ms h.name t' .mark := ⟨fun l hl => (by cases hl), fun k hk => (by cases hk)⟩
      array_get_dec
      by_cases hw2 : w < 2
      · rw [decide_eq_true hw2]
        array_get_dec
        intro U7 p7 e_p7 l_U7 g_p7 k_U7
        refine vNeNil rfl rfl (k_U7 _ _ g4) g_p7 ?_
        have T7 := T6.kx (k_U7.kx 2) (by omega)
        cases ws with
        | nil =>
          array_get_dec
          exact ⟨.mark, _, rfl, no, T7.mono (by omega), k_U7.kx 1⟩
        | cons k0 ws =>
          array_get_dec
          rw [List.length_map]
          refine (draw_wp T7 (m := (((k0 :: ws).length : Nat) : Int)) (by rw [List.length_cons]; omega) (by omega) (by omega)).imp ?_
          rintro _ U8 ⟨c, rfl, c0, c1, T8, j8⟩
          obtain ⟨v8, e8, m8⟩ := pick (vs := (k0 :: ws).map Val.int) (d := c) c0 (by rw [List.length_map]; exact c1)
          obtain ⟨k, hk, rfl⟩ := List.mem_map.mp m8
          obtain ⟨l, rfl, hl⟩ := hws k hk
          refine vIxL rfl rfl (j8 _ _ (by omega) (k_U7 _ _ g4)) e8 ?_
          array_get_dec
          exact ⟨.send l, _, rfl, ⟨fun l' e => by cases e; exact hl, fun k hk => by cases hk⟩, T8.mono (by omega), (k_U7.kx 1).trans j8⟩
      · rw [decide_eq_false hw2]
        array_get_dec
        exact ⟨.mark, _, rfl, no, T6.mono (by omega), .refl _ _⟩
    rintro _ U7 ⟨dd, z13', rfl, hdd, T7, j7⟩
    have l7 := j7.len (by omega)
    have g5 := j7 _ _ (by omega) g5
    refine ws_seq (ws_cut (N' := fun ρ T' => ∃ dd z13, ρ = [some (.ref 1), some (flV fl), some (.int (n : Nat)), some (.int (0 + (i : Nat))), some (.ref qc), some (.ref A), some (.ref M), some (frV t'), some (.ref p4), some (.ref p5), some (.int w), some (.str h.name), some (ddV dd), z13] ∧ Dok fl es ms h.name t' dd ∧ Tp T' (B + 10 + 6 * (i : Nat) + 5) ∧ Kx 1 U7 T') ?_ ?_)
    · array_get_dec
      by_cases hw2 : 0 < w
      · rw [decide_eq_true (show w > 0 from hw2)]
        array_get_dec
        intro U8 p8 e_p8 l_U8 g_p8 k_U8
        refine vNeNil rfl rfl (k_U8 _ _ g5) g_p8 ?_
        have T8 := T7.kx (k_U8.kx 2) (by omega)
        cases hs with
        | nil =>
          array_get_dec
          exact ⟨dd, _, rfl, hdd, T8.mono (by omega), k_U8.kx 1⟩
        | cons k0 hs =>
          array_get_dec
          rw [List.length_map]
          refine (draw_wp T8 (m := (((k0 :: hs).length : Nat) : Int)) (by rw [List.length_cons]; omega) (by omega) (by omega)).imp ?_
          rintro _ U9 ⟨c, rfl, c0, c1, T9, j9⟩
          obtain ⟨v9, e9, m9⟩ := pick (vs := (k0 :: hs).map Val.int) (d := c) c0 (by rw [List.length_map]; exact c1)
          obtain ⟨k, hk, rfl⟩ := List.mem_map.mp m9
          obtain ⟨l, rfl, hl⟩ := hhs k hk
          refine vIxL rfl rfl (j9 _ _ (by omega) (k_U8 _ _ g5)) e9 ?_
          array_get_dec
          exact ⟨.hear l, _, rfl, ⟨fun l' e => (by cases e), fun k hk => (by cases hk; exact hl)⟩, T9.mono (by omega), (k_U8.kx 1).trans j9⟩
      · rw [decide_eq_false (show ¬ w > 0 from hw2)]
        array_get_dec
        exact ⟨dd, _, rfl, hdd, T7.mono (by omega), .refl _ _⟩
    rintro _ U8 ⟨dd, z13', rfl, hdd, T8, j8⟩
    have kp8 : ∀ {z : Nat} {o : Ob}, z ≠ 1 → T[z]? = some o → U8[z]? = some o := fun {z o} hz e => j8 _ _ hz (j7 _ _ hz (j6 _ _ hz (k5 _ _ (kp hz e))))
    array_get_dec
    refine (stamp_wp cf ck (kp8 (by omega) gqc) cd hh (hn1.mono (by omega))).imp ?_
    rintro _ _ ⟨rfl, rfl⟩
    array_get_dec
    refine vApp rfl (kp8 (by omega) gA) ?_ (small (by rw [List.length_map]; omega))
    intro U9 l_U9 g_U9 k_U9
    array_get_dec
    refine vApp rfl (k_U9 _ _ (by omega) (kp8 (by omega) gM)) ?_ (small (by rw [List.length_map, st.le]; omega))
    intro U10 l_U10 g_U10 k_U10
    have T9 := T8.kx k_U9 (by omega)
    have T10 := T9.kx k_U10 (by omega)
    refine ⟨es ++ [⟨h.name, stampOf clk h.name t', dd⟩], ms ++ [t'], t', ⟨_, _, _, _, _, _, _, rfl⟩, ?_, ?_, st.snoc (by rw [li]; exact hn1) h01 hup1 nm rfl hdd.1 hdd.2, by rw [List.length_append, li]; rfl, hn1, h01, fun j hj => ?_, T10.mono (by omega), fun z o h1 h2 h3 e => k_U10 _ _ h3 (k_U9 _ _ h2 (kp8 h1 (kT _ _ h1 h2 h3 e)))⟩
    · rw [List.map_append]
      exact k_U10 _ _ (by omega) g_U9
    · rw [List.map_append]
      exact g_U10
    · rw [List.length_append, List.length_singleton] at hj
      by_cases e : j < es.length
      · rw [tm_l (by have := st.le; omega)]
        exact hup1 j e
      · have : j = ms.length := by have := st.le; omega
        rw [this, tm_r]
        exact Rat.le_refl
  · rintro ρ T ⟨es, ms, t, ⟨z3, z8, z9, z10, z11, z12, z13, rfl⟩, gA, gM, st, li, ht, h0, hup, TT, kT⟩
    rw [hr] at li TT
    have gqc := kT _ _ (by omega) (by omega) (by omega) (k_S3 _ _ (k_S2 _ _ gD))
    array_get_dec
    exact ⟨A, M, qc, clk, es, ms, D, rfl, gA, gM, gqc, cd, ck, st, li, TT.mono (by omega), fun z o hz e => kT _ _ hz (by have := lt_of_at e; omega) (by have := lt_of_at e; omega) (k_S3 _ _ (k_S2 _ _ (k1 _ _ hz e))), by omega, by omega, by omega, lq⟩
end
end K76
namespace K76
open PySem PySem.Spec PyProof.Rows L2 G Th AL KL Fr Od
open K37 (Fq frV Bd Tp Hs Lk Fl Dd Ev Pr Mv oV prV hsV lkV flV ddV evV hiV dEv lastAt driftOf pairsUp movesInto mv1 mv2 keptOf endOf sel lastV LastOk HearOk MvOk RowOk HiOk row low_eq plusL_eq byL_eq is_lessL_eq fmod_lt p60 pow18 small_pow at_ints TxOk Sh ShL at_nat map_get getD_get addO least_mem greatest_mem)
open K08 (ws_cut wm wd)
open K56 (lc_all)
open K58 (lc_fil)
open K37 (getD_app getD_end pairsUp_len lastAt_lt getD_l getD_r drift_some linkAt mvV leastO greatestO)
open K37 (common_divisor_ common_divisor_B ratio_ ratio_B added_ added_B added_told_ added_told_B less_ less_B parted_ parted_B is_below_ is_below_B least_of_ least_of_B greatest_of_ greatest_of_B drift_of_ drift_of_B moves_into_ moves_into_B moved_end_ moved_end_B ends_told_ ends_told_B kept_pair_ kept_pair_B is_lessL_ is_lessL_B)
open K43 (Keeper_init_ Keeper_init_B Keeper_bar_place_ Keeper_bar_place_B Keeper_bar_send_ Keeper_bar_send_B Keeper_bar_number_ Keeper_bar_number_B Keeper_bar_hear_ Keeper_bar_hear_B Keeper_bar_deed_ Keeper_bar_deed_B Keeper_pair_next_ Keeper_pair_next_B Keeper_note_ Keeper_note_B Keeper_history_ Keeper_history_B Keeper_now_ Keeper_now_B Keeper_pair_ Keeper_pair_B)
open K57 (own_best_ own_best_B)
open K56 (first_state_ first_state_B)
open K58 (NetRun_init_ NetRun_init_B)
open K43 (bar1 bar2 bars Bar dLk Di diV ddOf dd_of Kpr Kx3 NextOk nextOf says_x bar_place_wp bar_deed_wp pair_next_wp fAt fEv fPr fLa k_ev k_la wMe wMk wFld moves_snoc Noted isX_pr history_wp make_wp hisV reprL ws_fldS)
theorem vSlAL {S : Sto} {Q : Val → Sto → Prop} {n : Nat} {lo hi : Option Int} {vs : List Val} (h : S[n]? = some (.lst vs)) (q : Nw S (.lst (cutL vs lo hi)) Q) : Wp (gSlA (.ref n) lo hi S) Q := by
  show Wp (gSl (.ref n) lo hi S) Q
  exact ⟨_, _, by simp only [gSl, h], q.use⟩
theorem cut_takeN {vs : List Val} (k : Nat) : cutL vs none (some (k : Int)) = vs.take k := by
  unfold cutL
  rw [HT.sIx_nat, HT.sIx_none, List.drop_zero, Nat.sub_zero]
  by_cases h : k ≤ vs.length
  · rw [Nat.min_eq_left h]
  · rw [Nat.min_eq_right (by omega), List.take_of_length_le (Nat.le_refl _), List.take_of_length_le (by omega)]
theorem cut_dropN {vs : List Val} (k : Nat) : cutL vs (some (k : Int)) none = vs.drop k := by
  unfold cutL
  rw [HT.sIx_nat, HT.sIx_none]
  by_cases h : k ≤ vs.length
  · rw [Nat.min_eq_left h, List.take_of_length_le (by rw [List.length_drop]; omega)]
  · rw [Nat.min_eq_right (by omega), List.drop_of_length_le (Nat.le_refl _), List.drop_of_length_le (by omega), List.take_nil]
open K57 (Net netV Mb mbV wireV)
def nm5 : List Str := ["a", "b", "c", "d", "e"]

def prs (ns : List Str) : Nat → List (Str × Str)
  | 0 => []
  | i + 1 => prs ns i ++ (ns.drop (i + 1)).map fun y => (ns.getD i "", y)
structure NG (n : Net) : Prop where
  nm : ∃ m, 2 ≤ m ∧ m ≤ 5 ∧ n.names = nm5.take m
  num : ∀ b ∈ n.ms, 0 ≤ b.pri ∧ b.pri < 3 ∧ 0 ≤ b.cls ∧ b.cls < 3
  ws : ∀ w ∈ n.ws, ∃ i j : Nat, i < j ∧ n.names[i]? = some w.1 ∧ n.names[j]? = some w.2
  wn : n.ws.Nodup
  wl : n.ws.length ≤ 25
  sub : n.ws.Sublist (prs n.names n.names.length)
section
variable {S : Sto} {B : Int}
theorem nm5_nd : nm5.Nodup := by decide +kernel
theorem net_wp (T0 : Tp S B) (hB : B + 200 < 100000) : Wp (netL_ [.ref 1] S) fun v U => ∃ n : Net, v = netV n ∧ NG n ∧ Tp U (B + 60) ∧ Kx 1 S U := by
  have s2 := T0.two
  refine AL.wf ?_; simp only [List.map_cons, List.map_nil, List.length_cons, List.length_nil, Nat.reduceAdd, Nat.reduceSub, List.replicate_succ, List.replicate_zero, List.cons_append, List.nil_append]; unfold netL_B; array_get_dec
  intro S1 q1 e_q1 l_S1 g_q1 k_S1
  array_get_dec
  refine (draw_wp (T0.kx (k_S1.kx 2) (by omega)) (m := 4) (by omega) (by omega) (by omega)).imp ?_
  rintro _ S2 ⟨d, rfl, d0, d1, T2, k2⟩
  have g2 := k2 _ _ (by omega) g_q1
  array_get_dec
  refine vSlAL g2 ?_
  obtain ⟨m, rfl⟩ : ∃ m : Nat, d = m := ⟨d.toNat, by omega⟩
  have ec : cutL [Val.str "a", .str "b", .str "c", .str "d", .str "e"] none (some (2 + (m : Int))) = (nm5.take (2 + m)).map .str := by
    have : (2 + (m : Int)) = ((2 + m : Nat) : Int) := by omega
    rw [this, cut_takeN, List.map_take]
    rfl
  rw [ec]
  have hns : ∃ m', 2 ≤ m' ∧ m' ≤ 5 ∧ nm5.take (2 + m) = nm5.take m' := ⟨2 + m, by omega, by omega, rfl⟩
  have nd : (nm5.take (2 + m)).Nodup := nm5_nd.sublist (List.take_sublist _ _)
  have nl : (nm5.take (2 + m)).length ≤ 5 := by rw [List.length_take]; exact Nat.min_le_right _ _
  generalize nm5.take (2 + m) = ns at hns nd nl ⊢
  intro S3 q3 e_q3 l_S3 g_q3 k_S3
  have l2 : S1.length ≤ S2.length := k2.len (by omega)
  have T3 : Tp S3 (B + 1) := T2.kx (k_S3.kx 2) (by omega)
  have k3 : Kx 1 S S3 := (k_S1.kx 1).trans (k2.trans (k_S3.kx 1))
  array_get_dec
  refine .inr ⟨_, _, rfl, g_q3, ?_⟩
  refine lc_inv (fun i a V => ∃ ms : List Mb, a = ms.map mbV ∧ ms.map Mb.name = ns.take i ∧ (∀ b ∈ ms, 0 ≤ b.pri ∧ b.pri < 3 ∧ 0 ≤ b.cls ∧ b.cls < 3) ∧ i ≤ ns.length ∧ Tp V (B + 1 + 2 * (i : Nat)) ∧ Kx 1 S3 V) (by rw [List.length_map]; omega) ⟨[], rfl, rfl, (fun _ h => by cases h), by omega, by simpa using T3, .refl _ _⟩ (fun i a V _ ⟨_, _, _, _, _, _, k⟩ => k _ _ (by omega) g_q3) (fun i a V ⟨ms, e, e2, _⟩ => by
    have := congrArg List.length e2
    rw [List.length_map, List.length_take] at this
    rw [e, List.length_map]
    omega) ?_ ?_
  · rintro i v a V hv ⟨ms, rfl, e2, hr, li, TV, kV⟩
    rw [List.getElem?_map] at hv
    obtain ⟨x, hx, rfl⟩ := Option.map_eq_some_iff.mp hv
    have lt := (List.getElem?_eq_some_iff.mp hx).1
    refine bn rfl ?_
    array_get_dec
    refine (draw_wp TV (m := 3) (by omega) (by omega) (by omega)).imp ?_
    rintro _ V1 ⟨p, rfl, p0, p1, T1, j1⟩
    array_get_dec
    refine (draw_wp T1 (m := 3) (by omega) (by omega) (by omega)).imp ?_
    rintro _ V2 ⟨c, rfl, c0, c1, T2', j2⟩
    array_get_dec
    refine ⟨ms ++ [⟨x, p, c⟩], by rw [List.map_append]; rfl, ?_, fun b hb => ?_, lt, T2'.mono (by omega), kV.trans (j1.trans j2)⟩
    · have : ns.take (i + 1) = ns.take i ++ [x] := by
        rw [List.take_succ_eq_append_getElem lt]
        rw [List.getElem?_eq_getElem lt] at hx
        rw [Option.some.inj hx]
      rw [List.map_append, e2, this]
      rfl
    · rcases List.mem_append.mp hb with hb | hb
      · exact hr b hb
      · rw [List.mem_singleton.mp hb]
        exact ⟨p0, p1, c0, c1⟩
  rintro a V ⟨ms, rfl, e2, hr, _, TV, kV⟩
  rw [List.length_map] at e2 TV
  rw [List.take_length] at e2
  have l3 : S3.length ≤ V.length := kV.len (by omega)
  intro S4 q4 e_q4 l_S4 g_q4 k_S4
  array_get_dec
  intro S5 q5 e_q5 l_S5 g_q5 k_S5
  array_get_dec
  have g3 : S5[q3]? = some (.lst (ns.map .str)) := k_S5 _ _ (k_S4 _ _ (kV _ _ (by omega) g_q3))
  have T5 : Tp S5 (B + 11) := ((TV.kx (k_S4.kx 2) (by omega)).kx (k_S5.kx 2) (by omega)).mono (by omega)
  refine .inr ⟨_, _, rfl, g3, ?_⟩
  refine ws_loop (fun i ρ T => (∃ z4 z5 z6 z7 rw ws, ρ = [some (.ref 1), some (.ref q3), some (.tup (ms.map mbV)), some (.ref rw), z4, z5, z6, z7] ∧ T[rw]? = some (.lst (ws.map wireV)) ∧ S5.length ≤ rw + 1 ∧ ws.length ≤ 5 * i ∧ ws.Sublist (prs ns i) ∧ ws.Nodup ∧ (∀ w ∈ ws, ∃ a b, a < i ∧ a < b ∧ ns[a]? = some w.1 ∧ ns[b]? = some w.2)) ∧ Tp T (B + 11 + 5 * (i : Nat)) ∧ Kx 1 S5 T) ⟨⟨_, _, _, _, q5, [], rfl, g_q5, by omega, by simp, List.Sublist.refl _, List.nodup_nil, fun w hw => by cases hw⟩, T5.mono (by omega), .refl _ _⟩ (fun i ρ T _ ⟨_, _, k⟩ => k _ _ (by omega) g3) ?_ ?_
  · rintro i v ρ T hv ⟨⟨z4, z5, z6, z7, rw, ws, rfl, gw, lrw, lw, sw, nw, hw⟩, TT, kT⟩
    obtain ⟨w, hw', rfl⟩ := enumV_get hv
    rw [List.getElem?_map] at hw'
    obtain ⟨x, hx, rfl⟩ := Option.map_eq_some_iff.mp hw'
    have lt := (List.getElem?_eq_some_iff.mp hx).1
    have g3T := kT _ _ (by omega) g3
    have lrT := lt_of_at gw
    refine bn rfl ?_
    array_get_dec
    refine vSlAL g3T ?_
    have ed : cutL (ns.map Val.str) (some ((i : Nat) + 1 : Int)) none = (ns.drop (i + 1)).map .str := by
      have : ((i : Nat) + 1 : Int) = ((i + 1 : Nat) : Int) := by omega
      rw [this, cut_dropN, List.map_drop]
    rw [ed]
    intro U1 p1 e_p1 l_U1 g_p1 k_U1
    have TU := TT.kx (k_U1.kx 2) (by omega)
    array_get_dec
    refine .inr ⟨_, _, rfl, g_p1, ?_⟩
    have ld : (ns.drop (i + 1)).length ≤ 5 := by rw [List.length_drop]; omega
    refine lc_inv (fun j a V => ∃ us : List Str, a = (us.map fun y => wireV (x, y)) ∧ us.Sublist ((ns.drop (i + 1)).take j) ∧ us.length ≤ j ∧ Tp V (B + 11 + 5 * (i : Nat) + (j : Nat)) ∧ Kx 1 U1 V) (by rw [List.length_map]; omega) ⟨[], rfl, List.nil_sublist _, Nat.le_refl _, TU.mono (by omega), .refl _ _⟩ (fun j a V _ ⟨_, _, _, _, _, k⟩ => k _ _ (by have := T0.two; omega) g_p1) (fun j a V ⟨us, e, _, l, _⟩ => by rw [e, List.length_map]; exact l) ?_ ?_
    · rintro j v a V hv ⟨us, rfl, sl, lu, TV, kV⟩
      have hj := (List.getElem?_eq_some_iff.mp hv).1
      rw [List.length_map] at hj
      rw [List.getElem?_map] at hv
      obtain ⟨y, hy, rfl⟩ := Option.map_eq_some_iff.mp hv
      have tk : (ns.drop (i + 1)).take (j + 1) = (ns.drop (i + 1)).take j ++ [y] := by
        rw [List.take_succ_eq_append_getElem hj]
        rw [List.getElem?_eq_getElem hj] at hy
        rw [Option.some.inj hy]
      refine bn rfl ?_
      array_get_dec
      refine (draw_wp TV (m := 2) (by omega) (by omega) (by omega)).imp ?_
      rintro _ V1 ⟨c, rfl, c0, c1, T1, j1⟩
      array_get_dec
      by_cases hc : c = 0
      · refine brT (decide_eq_true hc) ?_
        array_get_dec
        exact ⟨us ++ [y], by rw [List.map_append]; rfl, by rw [tk]; exact sl.append (List.Sublist.refl _), by rw [List.length_append, List.length_singleton]; omega, T1.mono (by omega), kV.trans j1⟩
      · refine brF (decide_eq_false hc) ?_
        exact ⟨us, rfl, by rw [tk]; exact sl.trans (List.sublist_append_left _ _), by omega, T1.mono (by omega), kV.trans j1⟩
    rintro a V ⟨us, rfl, sl, lu, TV, kV⟩
    rw [List.length_map] at lu TV
    rw [List.length_map, List.take_length] at sl
    have lV : U1.length ≤ V.length := kV.len (by omega)
    intro U2 p2 e_p2 l_U2 g_p2 k_U2
    array_get_dec
    have gwV := k_U2 _ _ (kV _ _ (by omega) (k_U1 _ _ gw))
    refine vCatL rfl rfl gwV g_p2 (by rw [List.length_map, List.length_map]; omega) ?_
    intro U3 p3 e_p3 l_U3 g_p3 k_U3
    have T3 := (TV.kx (k_U2.kx 2) (by omega)).kx (k_U3.kx 2) (by omega)
    refine bn rfl ?_
    refine ⟨⟨_, _, _, _, p3, ws ++ us.map fun y => (x, y), rfl, by rw [g_p3, List.map_append, List.map_map]; rfl, by have := k_U1.len; have := kT.len (by omega); omega, by rw [List.length_append, List.length_map]; omega, ?_, ?_, fun w hw2 => ?_⟩, T3.mono (by omega), fun z o hz e => k_U3 _ _ (k_U2 _ _ (kV _ _ hz (k_U1 _ _ (kT _ _ hz e))))⟩
    · have ex : ns.getD i "" = x := by simp [List.getD, hx]
      show (ws ++ us.map fun y => (x, y)).Sublist (prs ns i ++ (ns.drop (i + 1)).map fun y => (ns.getD i "", y))
      rw [ex]
      exact sw.append (sl.map _)
    · rw [List.nodup_append]
      refine ⟨nw, ?_, fun a ha b hb e => ?_⟩
      · have : us.Nodup := nd.sublist (sl.trans (List.drop_sublist _ _))
        exact List.Pairwise.map _ (fun a b hab z => hab (Prod.mk.inj z).2) this
      · obtain ⟨y, _, rfl⟩ := List.mem_map.mp hb
        obtain ⟨k, l, hk, _, h1, _⟩ := hw a ha
        rw [e] at h1
        have := (List.getElem?_inj (List.getElem?_eq_some_iff.mp h1).1 nd).mp (h1.trans hx.symm)
        omega
    · rcases List.mem_append.mp hw2 with hw2 | hw2
      · obtain ⟨k, l, hk, h1, h2, h3⟩ := hw w hw2
        exact ⟨k, l, by omega, h1, h2, h3⟩
      · obtain ⟨y, hy, rfl⟩ := List.mem_map.mp hw2
        have hm := sl.subset hy
        obtain ⟨b, hb⟩ := List.getElem?_of_mem hm
        rw [List.getElem?_drop] at hb
        exact ⟨i, i + 1 + b, by omega, by omega, hx, hb⟩
  · rintro ρ T ⟨⟨z4, z5, z6, z7, rw, ws, rfl, gw, lrw, lw, sw, nw, hw⟩, TT, kT⟩
    have el : (enumV (ns.map Val.str)).length = ns.length := by simp [enumV]
    rw [el] at lw TT hw sw
    array_get_dec
    refine ⟨⟨ms, ws⟩, rfl, ⟨by obtain ⟨k, a, b, c⟩ := hns; exact ⟨k, a, b, e2.trans c⟩, hr, fun w hw2 => ?_, nw, by show ws.length ≤ 25; omega, by show ws.Sublist (prs (ms.map Mb.name) (ms.map Mb.name).length); rw [e2]; exact sw⟩, TT.mono (by omega), fun z o hz e => kT _ _ hz (k_S5 _ _ (k_S4 _ _ (kV _ _ hz (k3 _ _ hz e))))⟩
    obtain ⟨a, b, h1, h2, h3, h4⟩ := hw w hw2
    refine ⟨a, b, h2, ?_, ?_⟩
    · show (ms.map Mb.name)[a]? = _
      rw [e2]
      exact h3
    · show (ms.map Mb.name)[b]? = _
      rw [e2]
      exact h4
end
end K76
namespace K76
open PySem PySem.Spec PyProof.Rows L2 G Th AL KL Fr Od
open K37 (Fq frV Bd Tp Hs Lk Fl Dd Ev Pr Mv oV prV hsV lkV flV ddV evV hiV dEv lastAt driftOf pairsUp movesInto mv1 mv2 keptOf endOf sel lastV LastOk HearOk MvOk RowOk HiOk row low_eq plusL_eq byL_eq is_lessL_eq fmod_lt p60 pow18 small_pow at_ints TxOk Sh ShL at_nat map_get getD_get addO least_mem greatest_mem)
open K08 (ws_cut wm wd)
open K56 (lc_all)
open K58 (lc_fil)
open K37 (getD_app getD_end pairsUp_len lastAt_lt getD_l getD_r drift_some linkAt mvV leastO greatestO)
open K37 (common_divisor_ common_divisor_B ratio_ ratio_B added_ added_B added_told_ added_told_B less_ less_B parted_ parted_B is_below_ is_below_B least_of_ least_of_B greatest_of_ greatest_of_B drift_of_ drift_of_B moves_into_ moves_into_B moved_end_ moved_end_B ends_told_ ends_told_B kept_pair_ kept_pair_B is_lessL_ is_lessL_B)
open K43 (Keeper_init_ Keeper_init_B Keeper_bar_place_ Keeper_bar_place_B Keeper_bar_send_ Keeper_bar_send_B Keeper_bar_number_ Keeper_bar_number_B Keeper_bar_hear_ Keeper_bar_hear_B Keeper_bar_deed_ Keeper_bar_deed_B Keeper_pair_next_ Keeper_pair_next_B Keeper_note_ Keeper_note_B Keeper_history_ Keeper_history_B Keeper_now_ Keeper_now_B Keeper_pair_ Keeper_pair_B)
open K57 (own_best_ own_best_B)
open K56 (first_state_ first_state_B)
open K58 (NetRun_init_ NetRun_init_B)
open K43 (bar1 bar2 bars Bar dLk Di diV ddOf dd_of Kpr Kx3 NextOk nextOf says_x bar_place_wp bar_deed_wp pair_next_wp fAt fEv fPr fLa k_ev k_la wMe wMk wFld moves_snoc Noted isX_pr history_wp make_wp hisV reprL ws_fldS)
open K37 (a1 a2 nextP next_eq up2 ltF overL_eq mem_a1 mem_a2 bd_end addO MvOk BdO merge_val lastAt_name drift_eq isNon_non isNon_frV)
def hnK (h : Hs) : Key × Val := (.inr h.name, hsV h)
def hnD (fl : Fl) : List (Key × Val) := mergeA [] (fl.hs.map hnK)
theorem hnD_val {fl : Fl} (nd : (fl.hs.map Hs.name).Nodup) (n : Str) : valA (hnD fl) (.inr n) = (driftOf fl n).map hsV := by
  unfold hnD
  rw [merge_val _ _ _ (by
    rw [List.map_map]
    have : (fun h => (hnK h).1) = Sum.inr ∘ Hs.name := rfl
    show (fl.hs.map fun h => (hnK h).1).Nodup
    rw [this, ← List.map_map]
    exact List.Pairwise.map _ (fun a b hab z => hab (Sum.inr.inj z)) nd)]
  unfold driftOf
  have go : ∀ hs : List Hs, ((hs.map hnK).find? fun kv => decide (kv.1 = (.inr n : Key))).map (·.2) = (hs.find? fun h => decide (h.name = n)).map hsV := by
    intro hs
    induction hs with
    | nil => rfl
    | cons h hs ih =>
      rw [List.map_cons, List.find?_cons, List.find?_cons]
      by_cases e : h.name = n
      · simp [hnK, e]
      · have e2 : ¬ (hnK h).1 = (.inr n : Key) := fun z => e (Sum.inr.inj z)
        simp only [e, e2, decide_false]
        exact ih
  rw [go]
  simp [valA]
theorem pairsK_hn : ∀ hs : List Hs, pairsK (hs.map fun h => .tup [.str h.name, hsV h]) = some (hs.map hnK)
  | [] => rfl
  | h :: hs => by
    have := pairsK_hn hs
    unfold pairsK at this ⊢
    rw [List.map_cons, mapO, this]
    rfl
theorem vDictM {S : Sto} {Q : Val → Sto → Prop} {n : Nat} {vs : List Val} {kvs : List (Key × Val)} (h : S[n]? = some (.lst vs)) (hk : pairsK vs = some kvs) (q : Nw S (.dic (mergeA [] kvs)) Q) : Wp (gDict [.ref n] S) Q := ⟨_, _, by simp only [gDict, h, hk], q.use⟩
section
variable {S : Sto} {fl : Fl} {es : List Ev}
theorem part_wp {x y : Fq} (hx : Bd x) (hy : Bd y) (h0 : 0 < y.1) : Wp (partL_ [frV x, frV y] S) fun v T => v = frV (Fr.div x y) ∧ S = T := by
  rw [part_fr]
  exact Wp.of (overL_eq hx hy h0) ⟨rfl, rfl⟩
theorem grown_wp {p : Pr} {st so : Fq} {h : Hs} (b1 : Bd st) (b2 : Bd so) (bg : Bd (Fr.sub st so)) (f0 : 0 < h.fast.1) (s0 : 0 < h.slow.1) (bf : Bd h.fast) (bs : Bd h.slow) (bp : ∀ b, BdO (sel b p)) (m1 : Bd (Fr.div (Fr.sub st so) h.fast)) (m2 : Bd (Fr.div (Fr.sub st so) h.slow)) :
    Wp (grownL_ [prV p, frV st, frV so, hsV h] S) fun v T => v = prV (addO p.1 (some (Fr.div (Fr.sub st so) h.fast)), addO p.2 (some (Fr.div (Fr.sub st so) h.slow))) ∧ S = T := by
  obtain ⟨lo, hi⟩ := p
  have p1 := bp false
  have p2 := bp true
  simp only [sel, if_true, if_false, Bool.false_eq_true] at p1 p2
  refine AL.wf ?_; simp only [List.map_cons, List.map_nil, List.length_cons, List.length_nil, Nat.reduceAdd, Nat.reduceSub, List.replicate_succ, List.replicate_zero, List.cons_append, List.nil_append]; unfold grownL_B; array_get_dec
  refine (minus_wp b2).imp ?_
  rintro _ _ ⟨rfl, rfl⟩
  array_get_dec
  refine (add_wp b1 (bd_neg b2)).imp ?_
  rintro _ _ ⟨rfl, rfl⟩
  rw [add_neg]
  cases lo with
  | none =>
    cases hi with
    | none =>
      array_get_dec
      exact ⟨rfl, rfl⟩
    | some b =>
      array_get_dec
      refine (part_wp bg bs s0).imp ?_
      rintro _ _ ⟨rfl, rfl⟩
      array_get_dec
      refine (add_wp (p2 b rfl) m2).imp ?_
      rintro _ _ ⟨rfl, rfl⟩
      array_get_dec
      exact ⟨rfl, rfl⟩
  | some a =>
    array_get_dec
    refine (part_wp bg bf f0).imp ?_
    rintro _ _ ⟨rfl, rfl⟩
    array_get_dec
    refine (add_wp (p1 a rfl) m1).imp ?_
    rintro _ _ ⟨rfl, rfl⟩
    cases hi with
    | none =>
      array_get_dec
      exact ⟨rfl, rfl⟩
    | some b =>
      array_get_dec
      refine (part_wp bg bs s0).imp ?_
      rintro _ _ ⟨rfl, rfl⟩
      array_get_dec
      refine (add_wp (p2 b rfl) m2).imp ?_
      rintro _ _ ⟨rfl, rfl⟩
      array_get_dec
      exact ⟨rfl, rfl⟩
theorem narrowed_wp {lo hi : Option Fq} {p : Pr} {l : Lk} (bl : BdO lo) (bh : BdO hi) (bp : ∀ b, BdO (sel b p)) (ll : Bd l.least) (lm : BdO l.most) (e1 : BdO (addO p.1 (some l.least))) (e2 : BdO (addO p.2 l.most)) :
    Wp (narrowedL_ [prV (lo, hi), prV p, lkV l] S) fun v T => v = prV (up2 lo (addO p.1 (some l.least)) ltF, up2 hi (addO p.2 l.most) fun a b => ltF b a) ∧ S = T := by
  obtain ⟨pl, ph⟩ := p
  obtain ⟨lf, lt, le, lmo⟩ := l
  have p1 := bp false
  have p2 := bp true
  simp only [sel, if_true, if_false, Bool.false_eq_true] at p1 p2
  dsimp only at ll lm e1 e2 ⊢
  refine AL.wf ?_
  simp only [List.map_cons, List.map_nil, List.length_cons, List.length_nil, Nat.reduceAdd, Nat.reduceSub, List.replicate_succ, List.replicate_zero, List.cons_append, List.nil_append]
  unfold narrowedL_B
  refine ws_seq (ws_asg (wv rfl (bn rfl ?_)))
  refine ws_seq (ws_cut (N' := fun ρ T => S = T ∧ ∃ z5, ρ = [some (prV (lo, hi)), some (prV (pl, ph)), some (lkV ⟨lf, lt, le, lmo⟩), some (oV (up2 lo (addO pl (some le)) ltF)), some (oV hi), z5]) ?_ ?_)
  · cases pl with
    | none =>
      array_get_dec
      exact ⟨rfl, _, by cases lo <;> rfl⟩
    | some a =>
      array_get_dec
      refine (add_wp (p1 a rfl) ll).imp ?_
      rintro _ _ ⟨rfl, rfl⟩
      have bm := e1 _ rfl
      cases lo with
      | none =>
        array_get_dec
        exact ⟨rfl, _, rfl⟩
      | some x =>
        array_get_dec
        refine (less_wp (bl x rfl) bm).imp ?_
        rintro _ _ ⟨rfl, rfl⟩
        by_cases hc : x.1 * (Fr.add a le).2 < (Fr.add a le).1 * x.2
        · rw [decide_eq_true hc]
          array_get_dec
          exact ⟨rfl, _, by simp only [addO, up2, ltF, decide_eq_true hc, if_true]; rfl⟩
        · rw [decide_eq_false hc]
          array_get_dec
          exact ⟨rfl, _, by simp only [addO, up2, ltF, decide_eq_false hc, Bool.false_eq_true, if_false]; rfl⟩
  rintro _ _ ⟨rfl, z5, rfl⟩
  refine ws_seq (ws_cut (N' := fun ρ T => S = T ∧ ∃ z5, ρ = [some (prV (lo, hi)), some (prV (pl, ph)), some (lkV ⟨lf, lt, le, lmo⟩), some (oV (up2 lo (addO pl (some le)) ltF)), some (oV (up2 hi (addO ph lmo) fun a b => ltF b a)), z5]) ?_ ?_)
  · cases ph with
    | none =>
      array_get_dec
      exact ⟨rfl, _, by cases hi <;> rfl⟩
    | some a =>
      cases lmo with
      | none =>
        array_get_dec
        exact ⟨rfl, _, by cases hi <;> rfl⟩
      | some m =>
        array_get_dec
        refine (add_wp (p2 a rfl) (lm m rfl)).imp ?_
        rintro _ _ ⟨rfl, rfl⟩
        have bm := e2 _ rfl
        cases hi with
        | none =>
          array_get_dec
          exact ⟨rfl, _, rfl⟩
        | some x =>
          array_get_dec
          refine (less_wp bm (bh x rfl)).imp ?_
          rintro _ _ ⟨rfl, rfl⟩
          by_cases hc : (Fr.add a m).1 * x.2 < x.1 * (Fr.add a m).2
          · rw [decide_eq_true hc]
            array_get_dec
            exact ⟨rfl, _, by simp only [addO, up2, ltF, decide_eq_true hc, if_true]; rfl⟩
          · rw [decide_eq_false hc]
            array_get_dec
            exact ⟨rfl, _, by simp only [addO, up2, ltF, decide_eq_false hc, Bool.false_eq_true, if_false]; rfl⟩
  rintro _ _ ⟨rfl, z5, rfl⟩
  array_get_dec
  exact ⟨rfl, rfl⟩
end
end K76
namespace K76
open PySem PySem.Spec PyProof.Rows L2 G Th AL KL Fr Od
open K37 (Fq frV Bd Tp Hs Lk Fl Dd Ev Pr Mv oV prV hsV lkV flV ddV evV hiV dEv lastAt driftOf pairsUp movesInto mv1 mv2 keptOf endOf sel lastV LastOk HearOk MvOk RowOk HiOk row low_eq plusL_eq byL_eq is_lessL_eq fmod_lt p60 pow18 small_pow at_ints TxOk Sh ShL at_nat map_get getD_get addO least_mem greatest_mem)
open K08 (ws_cut wm wd)
open K56 (lc_all)
open K58 (lc_fil)
open K37 (getD_app getD_end pairsUp_len lastAt_lt getD_l getD_r drift_some linkAt mvV leastO greatestO)
open K37 (common_divisor_ common_divisor_B ratio_ ratio_B added_ added_B added_told_ added_told_B less_ less_B parted_ parted_B is_below_ is_below_B least_of_ least_of_B greatest_of_ greatest_of_B drift_of_ drift_of_B moves_into_ moves_into_B moved_end_ moved_end_B ends_told_ ends_told_B kept_pair_ kept_pair_B is_lessL_ is_lessL_B)
open K43 (Keeper_init_ Keeper_init_B Keeper_bar_place_ Keeper_bar_place_B Keeper_bar_send_ Keeper_bar_send_B Keeper_bar_number_ Keeper_bar_number_B Keeper_bar_hear_ Keeper_bar_hear_B Keeper_bar_deed_ Keeper_bar_deed_B Keeper_pair_next_ Keeper_pair_next_B Keeper_note_ Keeper_note_B Keeper_history_ Keeper_history_B Keeper_now_ Keeper_now_B Keeper_pair_ Keeper_pair_B)
open K57 (own_best_ own_best_B)
open K56 (first_state_ first_state_B)
open K58 (NetRun_init_ NetRun_init_B)
open K43 (bar1 bar2 bars Bar dLk Di diV ddOf dd_of Kpr Kx3 NextOk nextOf says_x bar_place_wp bar_deed_wp pair_next_wp fAt fEv fPr fLa k_ev k_la wMe wMk wFld moves_snoc Noted isX_pr history_wp make_wp hisV reprL ws_fldS)
open K37 (a1 a2 nextP next_eq up2 ltF overL_eq mem_a1 mem_a2 bd_end addO MvOk BdO merge_val lastAt_name drift_eq isNon_non isNon_frV)
section
variable {S : Sto} {fl : Fl} {es : List Ev}
theorem kept_wp (cf : CF fl) (ok : HiOk fl es) (hv : HG fl es) {A : Nat} (gA : S[A]? = some (.lst (es.map evV))) : Wp (keptL_ [flV fl, .ref A] S) fun v T => ∃ r, v = .ref r ∧ T[r]? = some (.lst ((pairsUp fl es es.length).map prV)) ∧ Kn S T ∧ S.length ≤ r := by
  have lA := lt_of_at gA
  have few := cf.few
  have l30 := ok.len
  refine AL.wf ?_; simp only [List.map_cons, List.map_nil, List.length_cons, List.length_nil, Nat.reduceAdd, Nat.reduceSub, List.replicate_succ, List.replicate_zero, List.cons_append, List.nil_append]; unfold keptL_B; array_get_dec
  refine .inl ⟨_, rfl, ?_⟩
  refine lc_all trivial fl.hs hsV (fun h => .tup [.str h.name, hsV h]) (by omega) (fun h hh => ?_) ?_
  · refine bn rfl ?_
    array_get_dec
    refine ⟨rfl, rfl, ?_⟩
    array_get_dec
    exact ⟨rfl, rfl⟩
  intro S1 q1 e_q1 l_S1 g_q1 k_S1
  array_get_dec
  refine vDictM g_q1 (pairsK_hn _) ?_
  intro S2 H e_H l_S2 g_H k_S2
  array_get_dec
  intro S3 F e_F l_S3 g_F k_S3
  array_get_dec
  intro S4 L e_L l_S4 g_L k_S4
  array_get_dec
  have gH : S4[H]? = some (.dic (hnD fl)) := k_S4 _ _ (k_S3 _ _ g_H)
  have gA4 := k_S4 _ _ (k_S3 _ _ (k_S2 _ _ (k_S1 _ _ gA)))
  refine .inr ⟨_, _, rfl, gA4, ?_⟩
  refine ws_loop (fun i ρ T => (∃ z5 z6 z7 z8 z9 z10, ρ = [some (flV fl), some (.ref A), some (.ref H), some (.ref F), some (.ref L), z5, z6, z7, z8, z9, z10]) ∧ T[F]? = some (.lst ((pairsUp fl es i).map prV)) ∧ (∃ D, T[L]? = some (.dic D) ∧ (∀ x, valA D (.inr x) = (lastAt es i x).map fun j => .int (j : Nat)) ∧ D.length ≤ i) ∧ (∀ z o, z ≠ F → z ≠ L → S4[z]? = some o → T[z]? = some o)) ⟨⟨_, _, _, _, _, _, rfl⟩, k_S4 _ _ g_F, ⟨[], g_L, fun _ => rfl, Nat.le_refl _⟩, fun _ _ _ _ e => e⟩ (fun i ρ T _ h => h.2.2.2 _ _ (by omega) (by omega) gA4) ?_ ?_
  · rintro i v ρ T hv' ⟨⟨z5, z6, z7, z8, z9, z10, rfl⟩, gF, ⟨D, gD, vD, lD⟩, kT⟩
    obtain ⟨w, hw, rfl⟩ := enumV_get hv'
    rw [List.getElem?_map] at hw
    obtain ⟨e, hev, rfl⟩ := Option.map_eq_some_iff.mp hw
    have hi := (List.getElem?_eq_some_iff.mp hev).1
    have he : es.getD i dEv = e := by
      rw [getD_get hi] at hev
      exact Option.some.inj hev
    have gAT := kT _ _ (by omega) (by omega) gA4
    have gHT := kT _ _ (by omega) (by omega) gH
    obtain ⟨h, hh, hm⟩ := drift_some (hv.ev i hi).name
    rw [he] at hh
    have pl := pairsUp_len fl es i
    have pget : ∀ {j : Nat}, j < i → (pairsUp fl es i)[j]? = some ((pairsUp fl es i).getD j (none, none)) := fun {j} hj => by
      have : j < (pairsUp fl es i).length := by omega
      simp [List.getD, List.getElem?_eq_getElem this]
    refine bn rfl ?_
    refine ws_seq (ws_asg (wTup (wa1 (wc (wa1 (wc (wa0 (sd (by decide) (bn rfl ?_)))))))))
    refine ws_seq (ws_cut (N' := fun ρ V => T = V ∧ ρ = [some (flV fl), some (.ref A), some (.ref H), some (.ref F), some (.ref L), some (.int (i : Nat)), some (prV (a1 fl es i false, a1 fl es i true)), some (.str e.name), some (frV e.stamp), some (ddV e.deed), z10]) ?_ ?_)
    · have dn := vD e.name
      cases hj : lastAt es i e.name with
      | none =>
        rw [hj] at dn
        have e1 : ∀ b, a1 fl es i b = none := fun b => by unfold a1; rw [he, hj]
        array_get_dec
        refine vIn rfl gD rfl ?_
        rw [dn]
        array_get_dec
        exact ⟨rfl, by rw [e1, e1]; rfl⟩
      | some j =>
        rw [hj, Option.map_some] at dn
        obtain ⟨lt, ⟨h', hh', f0, s0, bf, bs⟩, st, so, go⟩ := (ok.rows i hi).l j (by rw [he]; exact hj)
        rw [he] at hh' st go
        rw [hh] at hh'
        cases hh'
        have ltj := K37.lastAt_lt hj
        have hmv := mem_a1 he hj hh
        have mo := ok.mv i hi _ hmv
        have e1 : ∀ b, a1 fl es i b = endOf (pairsUp fl es i) b ⟨j, Fr.div (Fr.sub e.stamp (es.getD j dEv).stamp) h.fast, some (Fr.div (Fr.sub e.stamp (es.getD j dEv).stamp) h.slow)⟩ := fun b => by unfold a1; rw [he, hj, hh]
        array_get_dec
        refine vIn rfl gD rfl ?_
        rw [dn]
        array_get_dec
        refine vIxD rfl gD rfl dn ?_
        array_get_dec
        refine vIxL rfl rfl gF (at_nat (map_get (pget ltj))) ?_
        array_get_dec
        refine vIxD rfl gD rfl dn ?_
        array_get_dec
        refine vIxL rfl rfl gAT (at_nat (map_get (getD_get (by omega)))) ?_
        array_get_dec
        refine vIxD rfl gHT rfl (by rw [hnD_val cf.nd, hh]; rfl) ?_
        array_get_dec
        refine (grown_wp st so go f0 s0 bf bs mo.p (mo.m false _ rfl) (mo.m true _ rfl)).imp ?_
        rintro _ _ ⟨rfl, rfl⟩
        refine bn rfl ?_
        exact ⟨rfl, by rw [e1, e1]; rfl⟩
    rintro _ _ ⟨rfl, rfl⟩
    have bA1 : ∀ b, BdO (a1 fl es i b) := fun b => by
      unfold a1
      rw [he, hh]
      cases hj : lastAt es i e.name with
      | none => intro x hx; cases hx
      | some j => exact bd_end ok hi (mem_a1 he hj hh) b
    refine ws_seq (ws_cut (N' := fun ρ V => T = V ∧ ρ = [some (flV fl), some (.ref A), some (.ref H), some (.ref F), some (.ref L), some (.int (i : Nat)), some (prV (up2 (a1 fl es i false) (a2 fl es i false) ltF, up2 (a1 fl es i true) (a2 fl es i true) fun a b => ltF b a)), some (.str e.name), some (frV e.stamp), some (ddV e.deed), z10]) ?_ ?_)
    · have u0 : ∀ (a : Option Fq) c, up2 a none c = a := fun a c => by cases a <;> rfl
      cases hd : e.deed with
      | mark =>
        have e2 : ∀ b, a2 fl es i b = none := fun b => by unfold a2; rw [he, hd]
        array_get_dec
        exact ⟨rfl, by rw [e2, e2, u0, u0]⟩
      | send l =>
        have e2 : ∀ b, a2 fl es i b = none := fun b => by unfold a2; rw [he, hd]
        array_get_dec
        exact ⟨rfl, by rw [e2, e2, u0, u0]⟩
      | hear k =>
        obtain ⟨⟨lt, l, lk, h1, h2⟩, lti⟩ := (ok.rows i hi).d k (by rw [he]; exact hd)
        have la : linkAt fl es k = some lk := by simp only [linkAt, h1, h2]
        have hmv := mem_a2 he hd la
        have mo := ok.mv i hi _ hmv
        have e2 : ∀ b, a2 fl es i b = endOf (pairsUp fl es i) b ⟨k, lk.least, lk.most⟩ := fun b => by unfold a2; rw [he, hd]; dsimp only; rw [la]
        have be := fun b => bd_end ok hi hmv b
        array_get_dec
        refine vIxL rfl rfl gF (at_nat (map_get (pget lti))) ?_
        array_get_dec
        refine vIxL rfl rfl gAT (at_nat (map_get (getD_get (by omega)))) ?_
        array_get_dec
        rw [h1]
        array_get_dec
        refine vIxT rfl rfl (lk_at h2) ?_
        array_get_dec
        refine (narrowed_wp (bA1 false) (bA1 true) mo.p (mo.m false _ rfl) (mo.m true) (be false) (be true)).imp ?_
        rintro _ _ ⟨rfl, rfl⟩
        refine bn rfl ?_
        exact ⟨rfl, by rw [e2, e2]; rfl⟩
    rintro _ _ ⟨rfl, rfl⟩
    refine ws_seq (ws_cut (N' := fun ρ V => T = V ∧ ρ = [some (flV fl), some (.ref A), some (.ref H), some (.ref F), some (.ref L), some (.int (i : Nat)), some (prV (nextP fl es i)), some (.str e.name), some (frV e.stamp), some (ddV e.deed), z10]) ?_ ?_)
    · array_get_dec
      by_cases hs : e.name = fl.src
      · refine brT (decide_eq_true hs) ?_
        array_get_dec
        exact ⟨rfl, by unfold nextP; rw [he, if_pos hs]; rfl⟩
      · refine brF (decide_eq_false hs) ?_
        array_get_dec
        exact ⟨rfl, by unfold nextP; rw [he, if_neg hs]⟩
    rintro _ _ ⟨rfl, rfl⟩
    array_get_dec
    refine vApp rfl gF ?_ (small (by rw [List.length_map]; omega))
    intro U1 l_U1 g_U1 k_U1
    array_get_dec
    refine vPut (k_U1 _ _ (by omega) gD) rfl ?_ (small (by omega))
    intro U2 l_U2 g_U2 k_U2
    refine ⟨⟨_, _, _, _, _, _, rfl⟩, ?_, ⟨_, g_U2, fun x => ?_, by have := K37.putA_len (d := D) (k := .inr e.name) (v := Val.int (i : Nat)); omega⟩, fun z o h1 h2 e => k_U2 _ _ h2 (k_U1 _ _ h1 (kT _ _ h1 h2 e))⟩
    · rw [k_U2 _ _ (by omega) g_U1, pairsUp, next_eq, List.map_append]
      rfl
    · rw [K37.valA_put, vD]
      show _ = Option.map _ (if (es.getD i dEv).name = x then some i else lastAt es i x)
      rw [he]
      by_cases hx : x = e.name
      · subst hx
        rw [if_pos rfl, if_pos rfl]
        rfl
      · rw [if_neg (fun z => hx (by injection z)), if_neg (fun z => hx z.symm)]
  · rintro ρ T ⟨⟨z5, z6, z7, z8, z9, z10, rfl⟩, gF, ⟨D, gD, vD, lD⟩, kT⟩
    have el : (enumV (es.map evV)).length = es.length := by simp [enumV]
    rw [el] at gF
    array_get_dec
    exact ⟨F, rfl, gF, fun z o e => kT _ _ (by have := lt_of_at e; omega) (by have := lt_of_at e; omega) (k_S4 _ _ (k_S3 _ _ (k_S2 _ _ (k_S1 _ _ e)))), by omega⟩
end
end K76
namespace K76
open PySem PySem.Spec PyProof.Rows L2 G Th AL KL Fr Od
open K37 (Fq frV Bd Tp Hs Lk Fl Dd Ev Pr Mv oV prV hsV lkV flV ddV evV hiV dEv lastAt driftOf pairsUp movesInto mv1 mv2 keptOf endOf sel lastV LastOk HearOk MvOk RowOk HiOk row low_eq plusL_eq byL_eq is_lessL_eq fmod_lt p60 pow18 small_pow at_ints TxOk Sh ShL at_nat map_get getD_get addO least_mem greatest_mem)
open K08 (ws_cut wm wd)
open K56 (lc_all)
open K58 (lc_fil)
open K37 (getD_app getD_end pairsUp_len lastAt_lt getD_l getD_r drift_some linkAt mvV leastO greatestO)
open K37 (common_divisor_ common_divisor_B ratio_ ratio_B added_ added_B added_told_ added_told_B less_ less_B parted_ parted_B is_below_ is_below_B least_of_ least_of_B greatest_of_ greatest_of_B drift_of_ drift_of_B moves_into_ moves_into_B moved_end_ moved_end_B ends_told_ ends_told_B kept_pair_ kept_pair_B is_lessL_ is_lessL_B)
open K43 (Keeper_init_ Keeper_init_B Keeper_bar_place_ Keeper_bar_place_B Keeper_bar_send_ Keeper_bar_send_B Keeper_bar_number_ Keeper_bar_number_B Keeper_bar_hear_ Keeper_bar_hear_B Keeper_bar_deed_ Keeper_bar_deed_B Keeper_pair_next_ Keeper_pair_next_B Keeper_note_ Keeper_note_B Keeper_history_ Keeper_history_B Keeper_now_ Keeper_now_B Keeper_pair_ Keeper_pair_B)
open K57 (own_best_ own_best_B)
open K56 (first_state_ first_state_B)
open K58 (NetRun_init_ NetRun_init_B)
open K43 (bar1 bar2 bars Bar dLk Di diV ddOf dd_of Kpr Kx3 NextOk nextOf says_x bar_place_wp bar_deed_wp pair_next_wp fAt fEv fPr fLa k_ev k_la wMe wMk wFld moves_snoc Noted isX_pr history_wp make_wp hisV reprL ws_fldS)
open K57 (Net netV Mb mbV wireV)
open K58 (Rn rF init_wp)
open RO (wMkK)
def cF (hd : Val) (rw n r : Nat) (wk : Int) : List (Str × Val) := [("head", hd), ("rows", .ref rw), ("keeper", .ref n), ("run", .ref r), ("walking", .int wk)]
theorem c_rw {hd : Val} {rw n r : Nat} {wk : Int} : (cF hd rw n r wk).lookup ("rows" : Str) = some (.ref rw) := rfl
theorem c_kp {hd : Val} {rw n r : Nat} {wk : Int} : (cF hd rw n r wk).lookup ("keeper" : Str) = some (.ref n) := rfl

structure At where
  c : Nat
  rw : Nat
  n : Nat
  e : Nat
  p : Nat
  d : Nat
  r : Nat
  rt : Nat

structure RunS where
  nt : Net
  most : Int
  age : Int
  s : List K57.Rw
  ws : List (Str × Str)
  k : Nat
structure Ct (S : Sto) (a : At) (hd : Val) (fl : Fl) (es : List Ev) (rows : List Val) (R : RunS) : Prop where
  ob : S[a.c]? = some (.obj "Court" (cF hd a.rw a.n a.r 0))
  rows : S[a.rw]? = some (.lst rows)
  K : Kpr S a.n a.e a.p a.d fl es
  R : Rn S a.r a.rt R.nt R.most R.age R.s R.ws R.k
  n1 : a.rw ≠ a.e
  n2 : a.rw ≠ a.p
  n3 : a.rw ≠ a.rt
  n4 : a.rt ≠ a.e
  n5 : a.rt ≠ a.p
section
variable {S T : Sto} {a : At} {hd : Val} {fl : Fl} {es : List Ev} {rows : List Val} {R : RunS} {ev : Ev}
theorem Ct.kn (h : Ct S a hd fl es rows R) (k : Kn S T) : Ct T a hd fl es rows R := ⟨k _ _ h.ob, k _ _ h.rows, h.K.kn k, h.R.kn k, h.n1, h.n2, h.n3, h.n4, h.n5⟩
theorem Ct.up (h : Ct S a hd fl es rows R) (q : ∀ z o, (z = a.c ∨ z = a.rw ∨ z = a.n ∨ z = a.e ∨ z = a.p ∨ z = a.d ∨ z = a.r ∨ z = a.rt) → S[z]? = some o → T[z]? = some o) : Ct T a hd fl es rows R := by
  obtain ⟨D, gD, v, l⟩ := h.K.di
  obtain ⟨ts, gt, lt⟩ := h.R.tn
  exact ⟨q _ _ (by simp) h.ob, q _ _ (by simp) h.rows, ⟨q _ _ (by simp) h.K.ob, q _ _ (by simp) h.K.ev, q _ _ (by simp) h.K.pr, ⟨D, q _ _ (by simp) gD, v, l⟩, h.K.ne⟩, ⟨q _ _ (by simp) h.R.ob, ⟨ts, q _ _ (by simp) gt, lt⟩, h.R.ne⟩, h.n1, h.n2, h.n3, h.n4, h.n5⟩
theorem court_init_wp {c : Nat} {n : Net} {most age : Int} (h : S[c]? = some (.obj "Court" [])) (l8 : n.ms.length ≤ 8) :
    Wp (Court_init_ [.ref c, flV fl, .tup (n.ms.map mbV), .tup (n.ws.map wireV), .int most, .int age] S) fun v T => v = .non ∧ (∃ rw k e p d r rt, Ct T ⟨c, rw, k, e, p, d, r, rt⟩ (.tup [.str "court", flV fl, .tup (n.ms.map mbV), .tup (n.ws.map wireV), .int most, .int age]) fl [] [] ⟨n, most, age, n.ms.map K56.fst, n.ws, 0⟩ ∧ S.length ≤ rw ∧ S.length ≤ e ∧ S.length ≤ p ∧ S.length ≤ d ∧ S.length ≤ r ∧ S.length ≤ rt) ∧ Kx c S T := by
  have lc := lt_of_at h
  refine AL.wf ?_
  simp only [List.map_cons, List.map_nil, List.length_cons, List.length_nil, Nat.reduceAdd, Nat.reduceSub, List.replicate_succ, List.replicate_zero, List.cons_append, List.nil_append]
  unfold Court_init_B
  refine ws_seq (ws_fldS ?_)
  array_get_dec
  refine ⟨_, _, rfl, h, by decide, ?_⟩
  intro U1 l_U1 g_U1 k_U1
  refine ws_seq (ws_fldS ?_)
  array_get_dec
  intro U2 rw e_rw l_U2 g_rw k_U2
  refine wv rfl ⟨_, _, rfl, k_U2 _ _ g_U1, of_decide_eq_true rfl, ?_⟩
  intro U3 l_U3 g_U3 k_U3
  refine ws_seq (ws_fldS (make_wp (fl := fl) ?_))
  array_get_dec
  refine ⟨rfl, fun U4 k e p d K4 k4 lt4 => ?_⟩
  refine wv rfl ⟨_, _, rfl, k4 _ _ g_U3, of_decide_eq_true rfl, ?_⟩
  have nk := K4.lt
  have nek : c ≠ k ∧ c ≠ e ∧ c ≠ p ∧ c ≠ d := by
    have gc := k4 _ _ g_U3
    refine ⟨fun z => ?_, by omega, by omega, by omega⟩
    have := K4.ob
    rw [← z, gc] at this
    cases this
  intro U5 l_U5 g_U5 k_U5
  have K5 := K4.kx k_U5 (Ne.symm nek.1) (Ne.symm nek.2.1) (Ne.symm nek.2.2.1) (Ne.symm nek.2.2.2)
  refine ws_seq (ws_fldS (wMkK ?_))
  array_get_dec
  have g0 : (U5 ++ [Ob.obj "NetRun" []])[U5.length]? = some (.obj "NetRun" []) := by simp
  have k0 : Kn U5 (U5 ++ [Ob.obj "NetRun" []]) := kn_app
  have l0 : (U5 ++ [Ob.obj "NetRun" []]).length = U5.length + 1 := by simp
  generalize U5 ++ [Ob.obj "NetRun" []] = V0 at g0 k0 l0
  refine (init_wp (n := n) g0 l8).imp ?_
  rintro _ U6 ⟨rfl, ⟨rt, hR, lrt⟩, k6, l6⟩
  have nk5 := K5.lt
  have k56 : Kn U5 U6 := fun z o e => k6 _ _ (by have := lt_of_at e; omega) (k0 _ _ e)
  have lc5 := lt_of_at g_U5
  refine ⟨rfl, ?_⟩
  refine wv rfl ⟨_, _, rfl, k56 _ _ g_U5, of_decide_eq_true rfl, ?_⟩
  intro U7 l_U7 g_U7 k_U7
  refine ws_fldS ?_
  array_get_dec
  refine ⟨_, _, rfl, g_U7, of_decide_eq_true rfl, ?_⟩
  intro U8 l_U8 g_U8 k_U8
  have gr := k4 _ _ (k_U3 _ _ (by omega) g_rw)
  have K6 := K5.kn k56
  have K7 := K6.kx k_U7 (Ne.symm nek.1) (Ne.symm nek.2.1) (Ne.symm nek.2.2.1) (Ne.symm nek.2.2.2)
  have K8 := K7.kx k_U8 (Ne.symm nek.1) (Ne.symm nek.2.1) (Ne.symm nek.2.2.1) (Ne.symm nek.2.2.2)
  have lr2 := lt_of_at g_rw
  have R8 := (hR.kx k_U7 (by omega) (by omega)).kx k_U8 (by omega) (by omega)
  have g8 := k_U8 _ _ (show rw ≠ c by omega) (k_U7 _ _ (show rw ≠ c by omega) (k56 _ _ (k_U5 _ _ (show rw ≠ c by omega) gr)))
  refine ⟨trivial, ⟨rw, k, e, p, d, U5.length, rt, ⟨g_U8, g8, K8, R8, by dsimp only; omega, by dsimp only; omega, by dsimp only; omega, by dsimp only; omega, by dsimp only; omega⟩, by omega, by omega, by omega, by omega, by omega, by omega⟩, fun z o hz e => ?_⟩
  exact k_U8 _ _ hz (k_U7 _ _ hz (k56 _ _ (k_U5 _ _ hz (k4 _ _ (k_U3 _ _ hz (k_U2 _ _ (k_U1 _ _ hz e)))))))
theorem court_note_wp (C : Ct S a hd fl es rows R) (fo : FlG fl) (hv : HG fl es) (l : es.length < 30) (lr : rows.length < 900) (f : Fit fl es ev) :
    Wp (noX Court_note_ [.ref a.c, .str ev.name, frV ev.stamp, ddV ev.deed] S) fun v T => v = .int es.length ∧ Ct T a hd fl (es ++ [ev]) (rows ++ [.tup [.str "note", .str ev.name, frV ev.stamp, ddV ev.deed]]) R ∧ ∀ z o, z ≠ a.e → z ≠ a.p → z ≠ a.d → z ≠ a.rw → S[z]? = some o → T[z]? = some o := by
  have K := C.K
  have nd : ∀ {x : Nat} {o : Ob}, S[x]? = some o → (∀ D, o ≠ .dic D) → x ≠ a.d := fun {x o} h n z => by
    obtain ⟨D, gD, _⟩ := K.di
    rw [z, gD] at h
    exact n D (Option.some.inj h).symm
  have ne : ∀ {x : Nat} {o : Ob}, S[x]? = some o → (∀ D, o ≠ .lst D) → x ≠ a.e := fun {x o} h n z => by
    rw [z, K.ev] at h
    exact n _ (Option.some.inj h).symm
  have np : ∀ {x : Nat} {o : Ob}, S[x]? = some o → (∀ D, o ≠ .lst D) → x ≠ a.p := fun {x o} h n z => by
    rw [z, K.pr] at h
    exact n _ (Option.some.inj h).symm
  have nr : ∀ {x : Nat} {o : Ob}, S[x]? = some o → (∀ D, o ≠ .lst D) → x ≠ a.rw := fun {x o} h n z => by
    rw [z, C.rows] at h
    exact n _ (Option.some.inj h).symm
  obtain ⟨ts, gt, ltt⟩ := C.R.tn
  have oC := C.ob
  have oR := C.R.ob
  refine wnoX ?_
  refine AL.wf ?_; simp only [List.map_cons, List.map_nil, List.length_cons, List.length_nil, Nat.reduceAdd, Nat.reduceSub, List.replicate_succ, List.replicate_zero, List.cons_append, List.nil_append]; unfold Court_note_B; array_get_dec
  refine ws_asgX (wMe (wFld (wv rfl ⟨_, _, _, rfl, oC, c_kp, _, _, rfl, K.ob, rfl, ?_⟩)))
  array_get_dec
  refine (note_ok K fo hv l f).imp ?_
  rintro _ T1 ⟨rfl, K1, k1⟩
  refine Xs.no rfl ?_
  have C1 := k1 _ _ (ne oC fun _ h => by cases h) (np oC fun _ h => by cases h) (nd oC fun _ h => by cases h) oC
  have rw1 := k1 _ _ C.n1 C.n2 (nd C.rows fun _ h => by cases h) C.rows
  have R1 := k1 _ _ (ne oR fun _ h => by cases h) (np oR fun _ h => by cases h) (nd oR fun _ h => by cases h) oR
  have t1 := k1 _ _ C.n4 C.n5 (nd gt fun _ h => by cases h) gt
  refine bn rfl ?_
  array_get_dec
  refine wFld (wv rfl ⟨_, _, _, rfl, C1, c_rw, ?_⟩)
  array_get_dec
  array_get_dec
  refine vApp rfl rw1 ?_ (small (by omega))
  intro T2 l_T2 g_T2 k_T2
  array_get_dec
  have nd1 : a.d ≠ a.rw := fun z => by obtain ⟨D, gD, _⟩ := K1.di; rw [z, rw1] at gD; cases gD
  have nk1 : a.n ≠ a.rw := fun z => by have := K1.ob; rw [z, rw1] at this; cases this
  have K2 := K1.kx k_T2 nk1 (Ne.symm C.n1) (Ne.symm C.n2) nd1
  exact ⟨rfl, rfl, ⟨k_T2 _ _ (nr oC fun _ h => by cases h) C1, g_T2, K2, ⟨k_T2 _ _ (nr oR fun _ h => by cases h) R1, ⟨ts, k_T2 _ _ (Ne.symm C.n3) t1, ltt⟩, C.R.ne⟩, C.n1, C.n2, C.n3, C.n4, C.n5⟩, fun z o h1 h2 h3 h4 h => k_T2 _ _ h4 (k1 _ _ h1 h2 h3 h)⟩
theorem pair0_wp {n e p d : Nat} (K : Kpr S n e p d fl es) {k : Nat} (hk : k < es.length) : Wp (Keeper_pair_ [.ref n, .int (k : Nat)] S) fun v T => v = prV ((pairsUp fl es es.length).getD k (none, none)) ∧ S = T := by
  refine AL.wf ?_; simp only [List.map_cons, List.map_nil, List.length_cons, List.length_nil, Nat.reduceAdd, Nat.reduceSub, List.replicate_succ, List.replicate_zero, List.cons_append, List.nil_append]; unfold Keeper_pair_B; array_get_dec
  refine says_x (b := none) (wMe (m := "bar_number") (wv rfl ⟨_, _, rfl, K.ob, rfl, ?_⟩)) (fun _ => ?_) fun c vs h => by cases h
  · array_get_dec
    have := K43.bar_number_wp K (k := (k : Nat))
    rw [if_pos ⟨by omega, by omega⟩] at this
    exact this
  · refine ws_retN ?_
    array_get_dec
    refine fPr K rfl ?_
    array_get_dec
    refine vIxL rfl rfl K.pr (at_nat (map_get (v := (pairsUp fl es es.length).getD k (none, none)) ?_)) ?_
    · have : k < (pairsUp fl es es.length).length := by rw [pairsUp_len]; exact hk
      simp [List.getD, List.getElem?_eq_getElem this]
    · exact ⟨isX_pr _, rfl, rfl⟩
theorem court_kept_wp (C : Ct S a hd fl es rows R) {k : Nat} (hk : k < es.length) : Wp (noX Court_kept_ [.ref a.c, .int (k : Nat)] S) fun v T => v = prV ((pairsUp fl es es.length).getD k (none, none)) ∧ S = T := by
  have K := C.K
  refine wnoX ?_
  refine AL.wf ?_; simp only [List.map_cons, List.map_nil, List.length_cons, List.length_nil, Nat.reduceAdd, Nat.reduceSub, List.replicate_succ, List.replicate_zero, List.cons_append, List.nil_append]; unfold Court_kept_B; array_get_dec
  refine wMe (wFld (wv rfl ⟨_, _, _, rfl, C.ob, c_kp, _, _, rfl, K.ob, rfl, ?_⟩))
  array_get_dec
  refine (pair0_wp K hk).imp ?_
  rintro _ _ ⟨rfl, rfl⟩
  exact ⟨isX_pr _, rfl, rfl⟩
theorem court_now_wp (C : Ct S a hd fl es rows R) (fo : FlG fl) (hv : HG fl es) (l : es.length < 30) {x : Str} {st : Fq} (f : Fit fl es ⟨x, st, .mark⟩) :
    Wp (noX Court_now_ [.ref a.c, .str x, frV st] S) fun v T => v = prV (nextOf fl es ⟨x, st, .mark⟩) ∧ Kn S T := by
  have K := C.K
  refine wnoX ?_
  refine AL.wf ?_; simp only [List.map_cons, List.map_nil, List.length_cons, List.length_nil, Nat.reduceAdd, Nat.reduceSub, List.replicate_succ, List.replicate_zero, List.cons_append, List.nil_append]; unfold Court_now_B; array_get_dec
  refine wMe (wFld (wv rfl ⟨_, _, _, rfl, C.ob, c_kp, _, _, rfl, K.ob, rfl, ?_⟩))
  array_get_dec
  refine (nowG_wp K fo hv l f).imp ?_
  rintro _ T ⟨rfl, k⟩
  exact ⟨isX_pr _, rfl, k⟩
theorem court_history_wp (C : Ct S a hd fl es rows R) : Wp (Court_history_ [.ref a.c] S) fun v T => v = hisV fl es ∧ S = T := by
  have K := C.K
  refine AL.wf ?_; simp only [List.map_cons, List.map_nil, List.length_cons, List.length_nil, Nat.reduceAdd, Nat.reduceSub, List.replicate_succ, List.replicate_zero, List.cons_append, List.nil_append]; unfold Court_history_B; array_get_dec
  refine wMe (wFld (wv rfl ⟨_, _, _, rfl, C.ob, c_kp, _, _, rfl, K.ob, rfl, ?_⟩))
  array_get_dec
  refine (history_wp K).imp ?_
  rintro v T ⟨rfl, rfl⟩
  exact ⟨rfl, rfl⟩
end
end K76
namespace K76
open PySem PySem.Spec PyProof.Rows L2 G Th AL KL Fr Od
open K37 (Fq frV Bd Tp Hs Lk Fl Dd Ev Pr Mv oV prV hsV lkV flV ddV evV hiV dEv lastAt driftOf pairsUp movesInto mv1 mv2 keptOf endOf sel lastV LastOk HearOk MvOk RowOk HiOk row low_eq plusL_eq byL_eq is_lessL_eq fmod_lt p60 pow18 small_pow at_ints TxOk Sh ShL at_nat map_get getD_get addO least_mem greatest_mem)
open K08 (ws_cut wm wd)
open K56 (lc_all)
open K58 (lc_fil)
open K37 (getD_app getD_end pairsUp_len lastAt_lt getD_l getD_r drift_some linkAt mvV leastO greatestO)
open K37 (common_divisor_ common_divisor_B ratio_ ratio_B added_ added_B added_told_ added_told_B less_ less_B parted_ parted_B is_below_ is_below_B least_of_ least_of_B greatest_of_ greatest_of_B drift_of_ drift_of_B moves_into_ moves_into_B moved_end_ moved_end_B ends_told_ ends_told_B kept_pair_ kept_pair_B is_lessL_ is_lessL_B)
open K43 (Keeper_init_ Keeper_init_B Keeper_bar_place_ Keeper_bar_place_B Keeper_bar_send_ Keeper_bar_send_B Keeper_bar_number_ Keeper_bar_number_B Keeper_bar_hear_ Keeper_bar_hear_B Keeper_bar_deed_ Keeper_bar_deed_B Keeper_pair_next_ Keeper_pair_next_B Keeper_note_ Keeper_note_B Keeper_history_ Keeper_history_B Keeper_now_ Keeper_now_B Keeper_pair_ Keeper_pair_B)
open K57 (own_best_ own_best_B)
open K56 (first_state_ first_state_B)
open K58 (NetRun_init_ NetRun_init_B)
open K43 (bar1 bar2 bars Bar dLk Di diV ddOf dd_of Kpr Kx3 NextOk nextOf says_x bar_place_wp bar_deed_wp pair_next_wp fAt fEv fPr fLa k_ev k_la wMe wMk wFld moves_snoc Noted isX_pr history_wp make_wp hisV reprL ws_fldS)
theorem shL_shapedO {S : Sto} {n w : Nat} {vs : List Val} (h : ShL n w vs) (hn : n < 39) {a : Nat} (ha : S[a]? = some (.lst vs)) : ∃ ds, toD S 40 (.ref a) = some (.list ds) ∧ SeqAt.shaped (.list ds) = true ∧ mapO (toD S 39) vs = some ds := by
  obtain ⟨ds, o1, o2, o3, o4⟩ := h
  have e := o4 S 39 (by omega)
  have dl : toD S 40 (.ref a) = some (.list ds) := by
    rw [show (40 : Nat) = 39 + 1 from rfl, toD]
    simp only [ha, e, Option.map_some]
  refine ⟨ds, dl, ?_, e⟩
  have c := (ok_showAll ds o1).2.2.1
  show (PyData.canLayAll0 ds && decide ((PyData.list ds).depth ≤ 64)) = true
  rw [c, decide_eq_true (by simp only [PyData.depth]; omega)]
  rfl
theorem mapO_lenO {f : Val → Option PyData} : ∀ {vs : List Val} {ds : List PyData}, mapO f vs = some ds → ds.length = vs.length
  | [], _, h => by cases h; rfl
  | v :: vs, ds, h => by
    simp only [mapO] at h
    obtain ⟨b, _, h⟩ := Option.bind_eq_some_iff.mp h
    obtain ⟨bs, h2, h⟩ := Option.bind_eq_some_iff.mp h
    cases h
    rw [List.length_cons, List.length_cons, mapO_lenO h2]
theorem eqv_nilO {ds : List PyData} : PyData.eqv (.list ds) (.list []) = ds.isEmpty := by
  cases ds <;> rfl
theorem empty_lenO {α β : Type} {xs : List α} {ys : List β} (h : xs.length = ys.length) : xs.isEmpty = ys.isEmpty := by
  cases xs <;> cases ys <;> first | rfl | cases h
theorem vNeNilO {S : Sto} {Q : Val → Sto → Prop} {n w a b : Nat} {vs : List Val} (h : ShL n w vs) (hn : n < 39) (ha : S[a]? = some (.lst vs)) (hb : S[b]? = some (.lst [])) (q : Q (.bl (!vs.isEmpty)) S) : Wp (gNe (.ref a) (.ref b) S) Q := by
  obtain ⟨ds, e1, e2, e3⟩ := shL_shapedO h hn ha
  obtain ⟨_, f1, f2, f3⟩ := shL_shapedO (S := S) (K37.ShL.nil (n := 0) (w := 0)) (by decide) hb
  cases f3
  refine ⟨_, _, ?_, q⟩
  simp only [gNe, eqA, eqS, e1, f1, e2, f2, and_self, if_true, Option.map_some, eqv_nilO, empty_lenO (mapO_lenO e3)]
section
variable {S : Sto} {fl : Fl} {clk : Str → Int × Fq} {es : List Ev} {ms : List Fq}
theorem add_half {l : Fq} {d : Int} (h : 0 < l.2) : Fr.add l (d, 2) = Fr.add l (Fr.mk d 2) := by
  have c := Fr.mk_cross (a := d) (b := 2) (by decide)
  have p := Fr.mk_pos (a := d) (b := 2) (by decide)
  unfold Fr.add
  refine Fr.mk_eq ?_ ?_ ?_
  · show l.2 * 2 ≠ 0
    omega
  · exact Int.mul_ne_zero (by omega) (by omega)
  · generalize Fr.mk d 2 = y at c p ⊢
    obtain ⟨a, b⟩ := l
    obtain ⟨x, z⟩ := y
    dsimp only at c p h ⊢
    grind
theorem half_qn {d : Int} (h0 : 0 ≤ d) (h1 : d < 9) : QN 40 160 (Fr.mk d 2) ∧ 0 ≤ q (Fr.mk d 2) := by
  refine ⟨⟨20 * d, ⟨Fr.mk_eq (by decide) (by decide) (by omega), by decide⟩, by omega⟩, ?_⟩
  have c := Fr.mk_cross (a := d) (b := 2) (by decide)
  have p := Fr.mk_pos (a := d) (b := 2) (by decide)
  have z : q ((0, 1) : Fq) = 0 := by decide +kernel
  rw [← z]
  refine (q_le (by decide) p).mp ?_
  have : 0 ≤ d * (Fr.mk d 2).2 := Int.mul_nonneg h0 (by omega)
  show ¬ ((Fr.mk d 2).1 * 1 < 0 * (Fr.mk d 2).2)
  omega
theorem stamp_q (cf : CF fl) (ck : CkOk fl clk) {h : Hs} (hh : h ∈ fl.hs) {t : Fq} (ht : QN 2 60 t) : q (stampOf clk h.name t) = q ((clk h.name).1, 1) + q (clk h.name).2 * q t := by
  have r := (r7_ok (ck_r7 cf ck hh)).2.1
  have t12 := ht.ok (n := 12) (by decide) (by decide)
  have m12 := ((r7_ok (ck_r7 cf ck hh)).1.mul ht).ok (n := 12) (by decide) (by decide)
  unfold stampOf
  rw [q_add (by show (1 : Int) ≠ 0; decide) (by have := m12.pos; omega), q_mul (by have := r.pos; omega) (by have := t12.pos; omega)]
theorem stamp_up (cf : CF fl) (ck : CkOk fl clk) {h : Hs} (hh : h ∈ fl.hs) {s t : Fq} (hs : QN 2 60 s) (ht : QN 2 60 t) (le : q s ≤ q t) : q (stampOf clk h.name s) ≤ q (stampOf clk h.name t) := by
  rw [stamp_q cf ck hh hs, stamp_q cf ck hh ht]
  obtain ⟨_, r, r0⟩ := r7_ok (ck_r7 cf ck hh)
  have z : q ((0, 1) : Fq) = 0 := by decide +kernel
  have q0 : 0 ≤ q (clk h.name).2 := by
    rw [← z]
    refine (q_le (by decide) r.pos).mp ?_
    show ¬ ((clk h.name).2.1 * 1 < 0 * (clk h.name).2.2)
    omega
  have := Rat.mul_le_mul_of_nonneg_left le q0
  grind
theorem sty_t (st : Sty fl clk es ms) (l14 : es.length ≤ 14) {i : Nat} (hi : i < es.length) : QN 2 60 (tm ms i) := (st.t i hi).1.mono (by omega)
theorem sty_qn (cf : CF fl) (ck : CkOk fl clk) (st : Sty fl clk es ms) (l14 : es.length ≤ 14) {i : Nat} (hi : i < es.length) : QN 40 2720 (es.getD i dEv).stamp := by
  obtain ⟨h, hh, e⟩ := List.mem_map.mp (st.nm i hi)
  rw [st.st i hi, ← e]
  exact stamp_qn cf ck hh (sty_t st l14 hi)
theorem sty_hg (cf : CF fl) (ck : CkOk fl clk) (st : Sty fl clk es ms) (l14 : es.length ≤ 14) : HG fl es := by
  refine ⟨by omega, fun i hi => ⟨st.nm i hi, (sty_qn cf ck st l14 hi).ok (by decide) (by decide), fun l hl => ?_, fun k hk => ?_⟩⟩
  · obtain ⟨lk, h, _⟩ := st.snd i l hi hl
    exact (List.getElem?_eq_some_iff.mp h).1
  · obtain ⟨a, b⟩ := st.hr i k hi hk
    obtain ⟨l, lk, h, _⟩ := b.l
    exact ⟨a, l, h⟩
theorem lastAt_take {m k : Nat} {x : Str} (h : k ≤ m) : lastAt (es.take m) k x = lastAt es k x := by
  induction k with
  | zero => rfl
  | succ k ih =>
    show (if ((es.take m).getD k dEv).name = x then some k else lastAt (es.take m) k x) = (if (es.getD k dEv).name = x then some k else lastAt es k x)
    rw [take_get (by omega), ih (by omega)]
theorem getD_lk {l : Nat} {lk : Lk} (h : fl.ls[l]? = some lk) : fl.ls.getD l dLk = lk := by simp [List.getD, h]
theorem fit_sty (cf : CF fl) (ck : CkOk fl clk) (st : Sty fl clk es ms) (l14 : es.length ≤ 14) {k : Nat} (hk : k < es.length) : Fit fl (es.take k) (es.getD k dEv) := by
  have lt : (es.take k).length = k := by rw [List.length_take]; omega
  refine ⟨st.nm k hk, (sty_qn cf ck st l14 hk).ok (by decide) (by decide), fun j hj => ?_, fun l hl => ?_, fun k2 hk2 => ?_⟩
  · rw [lt, lastAt_take (Nat.le_refl _)] at hj
    have hjk := lastAt_lt hj
    have en := K37.lastAt_name hj
    rw [take_get hjk]
    obtain ⟨h, hh, e⟩ := List.mem_map.mp (st.nm k hk)
    have o1 := (sty_qn cf ck st l14 hk).ok (n := 12) (by decide) (by decide)
    have o2 := (sty_qn cf ck st l14 (show j < es.length by omega)).ok (n := 12) (by decide) (by decide)
    refine (q_le o2.pos o1.pos).mpr ?_
    rw [st.st k hk, st.st j (by omega), en, ← e]
    exact stamp_up cf ck hh (sty_t st l14 (by omega)) (sty_t st l14 hk) (st.up j k (by omega) hk)
  · obtain ⟨lk, h, e⟩ := st.snd k l hk hl
    exact ⟨(List.getElem?_eq_some_iff.mp h).1, by rw [getD_lk h]; exact e⟩
  · obtain ⟨a, b⟩ := st.hr k k2 hk hk2
    obtain ⟨l, lk, h1, h2, h3, _⟩ := b.l
    rw [lt]
    exact ⟨a, l, by rw [take_get a]; exact h1, (List.getElem?_eq_some_iff.mp h2).1, by rw [getD_lk h2]; exact h3⟩
def laterOf (es : List Ev) (m : Nat) (x : Str) : Fq := match lastAt es m x with
  | some j => (es.getD j dEv).stamp
  | none => (0, 1)
theorem later_qn (cf : CF fl) (ck : CkOk fl clk) (st : Sty fl clk es ms) (l14 : es.length ≤ 14) {m : Nat} (hm : m ≤ es.length) {x : Str} : QN 40 2720 (laterOf es m x) := by
  unfold laterOf
  cases h : lastAt es m x with
  | none => exact ⟨0, ⟨(by decide +kernel : ((0, 1) : Fq) = Fr.mk 0 40), by decide⟩, by decide⟩
  | some j => exact sty_qn cf ck st l14 (by have := lastAt_lt h; omega)
theorem mark_qn (cf : CF fl) (ck : CkOk fl clk) (st : Sty fl clk es ms) (l14 : es.length ≤ 14) {m : Nat} (hm : m ≤ es.length) {x : Str} {d : Int} (h0 : 0 ≤ d) (h1 : d < 9) : QN 40 2880 (Fr.add (laterOf es m x) (d, 2)) := by
  have l := later_qn cf ck st l14 hm (x := x)
  rw [add_half (by have := (l.ok (n := 12) (by decide) (by decide)).pos; omega)]
  exact (l.add (half_qn h0 h1).1).mono (by decide)
theorem fit_mark (cf : CF fl) (ck : CkOk fl clk) (st : Sty fl clk es ms) (l14 : es.length ≤ 14) {m : Nat} (hm : m ≤ es.length) {x : Str} (hx : x ∈ fl.hs.map Hs.name) {d : Int} (h0 : 0 ≤ d) (h1 : d < 9) : Fit fl (es.take m) ⟨x, Fr.add (laterOf es m x) (d, 2), .mark⟩ := by
  have lt : (es.take m).length = m := by rw [List.length_take]; omega
  have l := later_qn cf ck st l14 hm (x := x)
  have lo := l.ok (n := 12) (by decide) (by decide)
  have mo := (mark_qn cf ck st l14 hm (x := x) h0 h1).ok (n := 12) (by decide) (by decide)
  refine ⟨hx, mo, fun j hj => ?_, fun l hl => (by cases hl), fun k2 hk2 => (by cases hk2)⟩
  rw [lt] at hj
  dsimp only at hj ⊢
  rw [lastAt_take (Nat.le_refl _)] at hj
  have hjk := lastAt_lt hj
  rw [take_get hjk]
  have el : laterOf es m x = (es.getD j dEv).stamp := by unfold laterOf; rw [hj]
  rw [← el]
  refine (q_le lo.pos mo.pos).mpr ?_
  obtain ⟨hq, h00⟩ := half_qn h0 h1
  have ho := hq.ok (n := 12) (by decide) (by decide)
  rw [add_half lo.pos, q_add (by have := lo.pos; omega) (by have := ho.pos; omega)]
  grind
theorem last_fil {x : Str} : ∀ m, m ≤ es.length → ((es.take m).filter fun e => decide (e.name = x)).getLast? = (lastAt es m x).map fun j => es.getD j dEv
  | 0, _ => rfl
  | m + 1, h => by
    have tk : es.take (m + 1) = es.take m ++ [es.getD m dEv] := by
      rw [List.take_succ_eq_append_getElem (by omega)]
      simp [List.getD, List.getElem?_eq_getElem (show m < es.length by omega)]
    have ih := last_fil (x := x) m (by omega)
    show _ = (if (es.getD m dEv).name = x then some m else lastAt es m x).map _
    rw [tk, List.filter_append]
    by_cases e : (es.getD m dEv).name = x
    · have e1 : [es.getD m dEv].filter (fun e => decide (e.name = x)) = [es.getD m dEv] := by
        simp only [List.filter_cons, e, decide_true, List.filter_nil, if_true]
      rw [if_pos e, e1, List.getLast?_concat]
      rfl
    · simp only [List.filter_cons, e, decide_false, List.filter_nil, Bool.false_eq_true, if_false, List.append_nil]
      exact ih
end
end K76
namespace K76
open PySem PySem.Spec PyProof.Rows L2 G Th AL KL Fr Od
open K37 (Fq frV Bd Tp Hs Lk Fl Dd Ev Pr Mv oV prV hsV lkV flV ddV evV hiV dEv lastAt driftOf pairsUp movesInto mv1 mv2 keptOf endOf sel lastV LastOk HearOk MvOk RowOk HiOk row low_eq plusL_eq byL_eq is_lessL_eq fmod_lt p60 pow18 small_pow at_ints TxOk Sh ShL at_nat map_get getD_get addO least_mem greatest_mem)
open K08 (ws_cut wm wd)
open K56 (lc_all)
open K58 (lc_fil)
open K37 (getD_app getD_end pairsUp_len lastAt_lt getD_l getD_r drift_some linkAt mvV leastO greatestO)
open K37 (common_divisor_ common_divisor_B ratio_ ratio_B added_ added_B added_told_ added_told_B less_ less_B parted_ parted_B is_below_ is_below_B least_of_ least_of_B greatest_of_ greatest_of_B drift_of_ drift_of_B moves_into_ moves_into_B moved_end_ moved_end_B ends_told_ ends_told_B kept_pair_ kept_pair_B is_lessL_ is_lessL_B)
open K43 (Keeper_init_ Keeper_init_B Keeper_bar_place_ Keeper_bar_place_B Keeper_bar_send_ Keeper_bar_send_B Keeper_bar_number_ Keeper_bar_number_B Keeper_bar_hear_ Keeper_bar_hear_B Keeper_bar_deed_ Keeper_bar_deed_B Keeper_pair_next_ Keeper_pair_next_B Keeper_note_ Keeper_note_B Keeper_history_ Keeper_history_B Keeper_now_ Keeper_now_B Keeper_pair_ Keeper_pair_B)
open K57 (own_best_ own_best_B)
open K56 (first_state_ first_state_B)
open K58 (NetRun_init_ NetRun_init_B)
open K43 (bar1 bar2 bars Bar dLk Di diV ddOf dd_of Kpr Kx3 NextOk nextOf says_x bar_place_wp bar_deed_wp pair_next_wp fAt fEv fPr fLa k_ev k_la wMe wMk wFld moves_snoc Noted isX_pr history_wp make_wp hisV reprL ws_fldS)
open K57 (Net netV Mb mbV wireV)
open K58 (Rn rF)
open RO (wMkK)
section
variable {S : Sto} {B : Int} {fl : Fl} {n : Net}
structure Fresh (m : Nat) (a : At) : Prop where
  c : m ≤ a.c
  rw : m ≤ a.rw
  e : m ≤ a.e
  p : m ≤ a.p
  d : m ≤ a.d
  r : m ≤ a.r
  rt : m ≤ a.rt
theorem Ct.kx1 {T : Sto} {a : At} {hd : Val} {es : List Ev} {rows : List Val} {R : RunS} (C : Ct S a hd fl es rows R) (t : Tp S B) (f : Fresh 2 a) (k : Kx 1 S T) : Ct T a hd fl es rows R := by
  refine C.up fun z o hz e => k _ _ (fun z1 => ?_) e
  obtain ⟨xs, i, q, m, h0, h1, _⟩ := t.ex
  have := f.c
  have := f.rw
  have := f.e
  have := f.p
  have := f.d
  have := f.r
  have := f.rt
  have nn : a.n ≠ 1 := fun z => by
    have := C.K.ob
    rw [z, h1] at this
    cases this
  omega
def firstV (fl : Fl) (n : Net) (most age : Int) : Val := .tup [.str "court", flV fl, .tup (n.ms.map mbV), .tup (n.ws.map wireV), .int most, .int age]
theorem opened_wp (T0 : Tp S B) (hB : B + 10 < 100000) (l8 : n.ms.length ≤ 8) : Wp (openedL_ [.ref 1, flV fl, netV n] S) fun v U => ∃ (a : At) (most age : Int), v = .tup [.ref a.c, firstV fl n most age] ∧ 1 ≤ most ∧ most ≤ 5 ∧ 0 ≤ age ∧ age ≤ 2 ∧ Ct U a (firstV fl n most age) fl [] [] ⟨n, most, age, n.ms.map K56.fst, n.ws, 0⟩ ∧ Fresh S.length a ∧ Tp U (B + 2) ∧ Kx 1 S U := by
  have s2 := T0.two
  refine AL.wf ?_; simp only [List.map_cons, List.map_nil, List.length_cons, List.length_nil, Nat.reduceAdd, Nat.reduceSub, List.replicate_succ, List.replicate_zero, List.cons_append, List.nil_append]; unfold openedL_B; array_get_dec
  refine (draw_wp T0 (m := 5) (by omega) (by omega) (by omega)).imp ?_
  rintro _ S1 ⟨d, rfl, d0, d1, T1, k1⟩
  array_get_dec
  refine (draw_wp T1 (m := 3) (by omega) (by omega) (by omega)).imp ?_
  rintro _ S2 ⟨g, rfl, g0, g1, T2, k2⟩
  have l1 : S.length ≤ S2.length := by
    by_cases h : 2 < S.length
    · have a := k1.len (by omega)
      have b := k2.len (by omega)
      omega
    · have := T2.two
      omega
  have k12 := k1.trans k2
  array_get_dec
  refine wMkK ?_
  array_get_dec
  have g0' : (S2 ++ [Ob.obj "Court" []])[S2.length]? = some (.obj "Court" []) := by simp
  have k0 : Kn S2 (S2 ++ [Ob.obj "Court" []]) := kn_app
  have l0 : (S2 ++ [Ob.obj "Court" []]).length = S2.length + 1 := by simp
  generalize S2 ++ [Ob.obj "Court" []] = V0 at g0' k0 l0
  refine (court_init_wp (n := n) g0' l8).imp ?_
  rintro _ U ⟨rfl, ⟨rw, k, e, p, d', r, rt, C, h1, h2, h3, h4, h5, h6⟩, kU⟩
  have T3 := (T2.kx (k0.kx 2) (by omega)).kx kU (by have := T2.two; omega)
  refine ⟨rfl, ?_⟩
  array_get_dec
  exact ⟨⟨S2.length, rw, k, e, p, d', r, rt⟩, 1 + d, g, rfl, by omega, by omega, by omega, by omega, C, ⟨by dsimp only; omega, by dsimp only; omega, by dsimp only; omega, by dsimp only; omega, by dsimp only; omega, by dsimp only; omega, by dsimp only; omega⟩, T3.mono (by omega), fun z o hz e => kU _ _ (by have := lt_of_at (k12 _ _ hz e); omega) (k0 _ _ (k12 _ _ hz e))⟩
end
theorem feed_eq (ns : List Int) (h : ns.length ≤ 63) : ∃ S, feedL_ [.scr ns] [] = some (.ref 1, S) ∧ Tp S 0 := K37.tape_eq ns h
theorem at_lastO {xs : List Val} {v : Val} : atI (xs ++ [v]) (-1) = some v := by
  have e : ixN (xs ++ [v]).length (-1) = some xs.length := by
    unfold ixN
    simp
    omega
  unfold atI
  rw [e]
  simp
theorem at_endO {α : Type} {f : α → Val} {ks : List α} {k : α} (h : ks.getLast? = some k) : atI (ks.map f) (-1) = some (f k) := by
  obtain ⟨r, rfl⟩ : ∃ r, ks = r ++ [k] := ⟨ks.dropLast, by
    have ne : ks ≠ [] := by intro z; subst z; cases h
    have := List.dropLast_concat_getLast ne
    rw [List.getLast?_eq_some_getLast ne] at h
    cases h
    exact this.symm⟩
  rw [List.map_append]
  exact at_lastO
theorem range_map {ps : List Pr} : (List.range ps.length).map (fun i => prV (ps.getD i (none, none))) = ps.map prV := by
  refine List.ext_getElem? fun i => ?_
  rw [List.getElem?_map, List.getElem?_map]
  by_cases h : i < ps.length
  · simp [List.getElem?_range h, List.getD, List.getElem?_eq_getElem h]
  · rw [List.getElem?_eq_none (by rw [List.length_range]; omega), List.getElem?_eq_none (by omega)]
    rfl
theorem law_true (ns : List Int) (h : ns.length ≤ 63) : ∃ S', law_ [.scr ns] [] = some (.bl true, S') := by
  suffices g : Wp (law_ [.scr ns] []) fun v _ => v = .bl true by
    obtain ⟨v, S, e, rfl⟩ := g
    exact ⟨S, e⟩
  obtain ⟨S0, e0, t0⟩ := feed_eq ns h
  refine AL.wf ?_; simp only [List.map_cons, List.map_nil, List.length_cons, List.length_nil, Nat.reduceAdd, Nat.reduceSub, List.replicate_succ, List.replicate_zero, List.cons_append, List.nil_append]; unfold law_B; array_get_dec
  refine Wp.of e0 ?_
  array_get_dec
  refine (field_wp t0 (by decide)).imp ?_
  rintro _ S1 ⟨fl, rfl, cf, t1, k1⟩
  array_get_dec
  refine (net_wp t1 (by decide)).imp ?_
  rintro _ S2 ⟨n, rfl, ng, t2, k2⟩
  array_get_dec
  refine (story_wp (n := 14) cf t2 (by decide) (by decide)).imp ?_
  rintro _ S3 ⟨A, M, qc, clk, es, ms, D, rfl, gA, gM, gq, cd, ck, st, l14, t3, k3, lA, lM, nAM, lq⟩
  refine bn rfl ?_
  have l8 : n.ms.length ≤ 8 := by
    obtain ⟨m, _, m5, e⟩ := ng.nm
    have := congrArg List.length e
    rw [Net.names, List.length_map, List.length_take] at this
    omega
  array_get_dec
  refine (opened_wp t3 (by decide) l8).imp ?_
  rintro _ S4 ⟨a, most, age, rfl, m0, m1, a0, a1, C0, fr, t4, k4⟩
  refine bn rfl ?_
  have hA := lt_of_at gA
  have s2 := t2.two
  have A1 : A ≠ 1 := by omega
  have gA4 := k4 _ _ A1 gA
  have fo := cf_g cf
  have hv := sty_hg cf ck st (by omega)
  have ok := hi_ok fo hv
  array_get_dec
  refine (kept_wp cf ok hv gA4).imp ?_
  rintro _ S5 ⟨G, rfl, gG, k5, lG⟩
  have C5 := C0.kn k5
  have gA5 := k5 _ _ gA4
  have t5 := t4.kx (k5.kx 2) (by omega)
  have few := cf.few
  have two := cf.two
  have l34 : S3.length ≤ S4.length := k4.len (by omega)
  have lt4 := C0.K.lt
  have ltr4 := lt_of_at C0.rows
  have pl := pairsUp_len fl es es.length
  have tl : ∀ {m : Nat}, m ≤ es.length → (es.take m).length = m := fun {m} hm => by rw [List.length_take]; omega
  array_get_dec
  refine .inr ⟨_, _, rfl, gA5, ?_⟩
  refine ws_loop (fun k ρ T => (∃ z10 z11 z12 z13 z14 z15 z16 z17 z18, ρ = [some (.scr ns), some (.ref 1), some (.ref G), some (flV fl), some (netV n), some (.ref A), some (.ref M), some (.ref qc), some (.ref a.c), some (firstV fl n most age), z10, z11, z12, z13, z14, z15, z16, z17, z18]) ∧ (∃ rows, Ct T a (firstV fl n most age) fl (es.take k) rows ⟨n, most, age, n.ms.map K56.fst, n.ws, 0⟩ ∧ rows.length ≤ k) ∧ T[A]? = some (.lst (es.map evV)) ∧ T[G]? = some (.lst ((pairsUp fl es es.length).map prV)) ∧ Tp T (400 + 2 * (k : Nat))) ⟨⟨_, _, _, _, _, _, _, _, _, rfl⟩, ⟨[], C5, Nat.le_refl _⟩, gA5, gG, t5.mono (by omega)⟩ (fun _ _ _ _ h => h.2.2.1) ?_ ?_
  · rintro k v ρ T hv' ⟨⟨z10, z11, z12, z13, z14, z15, z16, z17, z18, rfl⟩, ⟨rows, C, lrw⟩, gAT, gGT, TT⟩
    obtain ⟨w, hw, rfl⟩ := enumV_get hv'
    rw [List.getElem?_map] at hw
    obtain ⟨e, hev, rfl⟩ := Option.map_eq_some_iff.mp hw
    have hk := (List.getElem?_eq_some_iff.mp hev).1
    have ee : es.getD k dEv = e := by
      rw [getD_get hk] at hev
      exact Option.some.inj hev
    have tk : es.take (k + 1) = es.take k ++ [e] := by
      rw [List.take_succ_eq_append_getElem hk, ← ee]
      simp [List.getD, List.getElem?_eq_getElem hk]
    have fit := fit_sty cf ck st (by omega) hk
    rw [ee] at fit
    refine bn rfl ?_
    array_get_dec
    refine wMe (m := "note") (wv rfl ⟨_, _, rfl, C.ob, rfl, ?_⟩)
    array_get_dec
    refine (court_note_wp C fo (hg_take hv k) (by rw [tl (by omega)]; omega) (by omega) fit).imp ?_
    rintro _ T1 ⟨rfl, C1, kT1⟩
    rw [tl (by omega)]
    rw [← tk] at C1
    have gA1 := kT1 _ _ (by have := fr.e; omega) (by have := fr.p; omega) (by have := fr.d; omega) (by have := fr.rw; omega) gAT
    have gG1 := kT1 _ _ (by omega) (by omega) (by omega) (by omega) gGT
    have TT1 : Tp T1 (400 + 2 * (k : Nat)) := by
      obtain ⟨xs, i, q, m, h0, h1, r⟩ := TT.ex
      exact ⟨xs, i, q, m, kT1 _ _ (by have := fr.e; omega) (by have := fr.p; omega) (by have := fr.d; omega) (by have := fr.rw; omega) h0, kT1 _ _ (by have := fr.e; omega) (by have := fr.p; omega) (by have := fr.d; omega) (by have := fr.rw; omega) h1, r⟩
    array_get_dec
    refine brF (by simp) ?_
    array_get_dec
    have hv1 := hg_take hv (k + 1)
    have l1 : (es.take (k + 1)).length = k + 1 := tl (by omega)
    have pt := pairs_take hv (show k + 1 ≤ es.length by omega)
    have pp := pairsUp_len fl (es.take (k + 1)) (k + 1)
    obtain ⟨x, hx⟩ := reprL (sh_pairsG fo hv1 (k + 1) (by omega)) (by decide) (wG_le (k + 1) (by omega))
    refine ⟨_, rfl, ?_, by omega, by omega⟩
    rw [show ((k : Nat) + 1 : Int).toNat = k + 1 by omega, show rangeV 0 (k + 1) = (List.range (k + 1)).map fun i : Nat => .int (0 + (i : Int)) from rfl]
    refine lc_all trivial (List.range (k + 1)) (fun i : Nat => .int (0 + (i : Int))) (fun i => prV ((pairsUp fl (es.take (k + 1)) (k + 1)).getD i (none, none))) (by rw [List.length_range]; omega) (fun i hi => ?_) ?_
    · have li := List.mem_range.mp hi
      refine bn rfl ?_
      array_get_dec
      refine ⟨rfl, rfl, ?_⟩
      array_get_dec
      refine wMe (m := "kept") (wv rfl ⟨_, _, rfl, C1.ob, rfl, ?_⟩)
      array_get_dec
      rw [Int.zero_add]
      have := court_kept_wp C1 (k := i) (by omega)
      rw [l1] at this
      refine this.imp ?_
      rintro _ _ ⟨rfl, rfl⟩
      exact ⟨rfl, rfl⟩
    have em := range_map (ps := pairsUp fl (es.take (k + 1)) (k + 1))
    rw [pp] at em
    rw [em]
    intro T2 p2 e_p2 l_T2 g_p2 k_T2
    array_get_dec
    refine Wp.of (hx _ _ g_p2) ?_
    array_get_dec
    refine vSlAL (k_T2 _ _ gG1) ?_
    rw [show ((k : Nat) + 1 : Int) = ((k + 1 : Nat) : Int) by omega, cut_takeN, ← List.map_take, ← pt]
    intro T3 p3 e_p3 l_T3 g_p3 k_T3
    array_get_dec
    refine Wp.of (hx _ _ g_p3) ?_
    array_get_dec
    refine brF (by simp) ?_
    have C3 := (C1.kn k_T2).kn k_T3
    have TT3 := (TT1.kx (k_T2.kx 2) (by omega)).kx (k_T3.kx 2) (by omega)
    have gA3 := k_T3 _ _ (k_T2 _ _ gA1)
    have gG3 := k_T3 _ _ (k_T2 _ _ gG1)
    array_get_dec
    rw [List.length_map]
    refine (draw_wp TT3 (m := ((fl.hs.length : Nat) : Int)) (by omega) (by omega) (by omega)).imp ?_
    rintro _ T4 ⟨f, rfl, f0, f1, TT4, j4⟩
    obtain ⟨v3, e3, m3⟩ := pick (vs := fl.hs.map hsV) (d := f) f0 (by rw [List.length_map]; exact f1)
    obtain ⟨h, hh, rfl⟩ := List.mem_map.mp m3
    have nm : h.name ∈ fl.hs.map Hs.name := List.mem_map_of_mem hh
    refine vIxT rfl rfl e3 ?_
    array_get_dec
    have gA4 := j4 _ _ A1 gA3
    refine vSlAL gA4 ?_
    rw [show ((k : Nat) + 1 : Int) = ((k + 1 : Nat) : Int) by omega, cut_takeN, ← List.map_take]
    intro T5 p5 e_p5 l_T5 g_p5 k_T5
    array_get_dec
    have fr2 : Fresh 2 a := ⟨by have := fr.c; omega, by have := fr.rw; omega, by have := fr.e; omega, by have := fr.p; omega, by have := fr.d; omega, by have := fr.r; omega, by have := fr.rt; omega⟩
    have C4 := C3.kx1 TT3 fr2 j4
    have C5' := C4.kn k_T5
    have TT5 := TT4.kx (k_T5.kx 2) (by omega)
    have gA5' := k_T5 _ _ gA4
    have gG5 := k_T5 _ _ (j4 _ _ (by omega) gG3)
    refine .inr ⟨_, _, rfl, g_p5, ?_⟩
    refine lc_fil g_p5 (es.take (k + 1)) evV (fun e => decide (e.name = h.name)) (fun e => frV e.stamp) (by omega) (fun e he => ?_) ?_
    · refine bn rfl ?_
      array_get_dec
      refine ⟨rfl, rfl, fun _ => ?_⟩
      array_get_dec
      exact ⟨rfl, rfl⟩
    intro T6 p6 e_p6 l_T6 g_p6 k_T6
    have C6 := C5'.kn k_T6
    have TT6 := TT5.kx (k_T6.kx 2) (by omega)
    have gA6 := k_T6 _ _ gA5'
    have gG6 := k_T6 _ _ gG5
    refine bn rfl ?_
    refine ws_seq (ws_cut (N' := fun ρ V => (∃ d : Int, 0 ≤ d ∧ d < 9 ∧ ∃ z17 z18, ρ = [some (.scr ns), some (.ref 1), some (.ref G), some (flV fl), some (netV n), some (.ref A), some (.ref M), some (.ref qc), some (.ref a.c), some (firstV fl n most age), some (.int (k : Nat)), some (.str h.name), some (.ref p6), some (frV (Fr.add (laterOf es (k + 1) h.name) (d, 2))), some (.str e.name), some (frV e.stamp), some (ddV e.deed), z17, z18]) ∧ Tp V (400 + 2 * (k : Nat) + 2) ∧ Kx 1 T6 V) ?_ ?_)
    · have lq := later_qn cf ck st (by omega) (show k + 1 ≤ es.length by omega) (x := h.name)
      have lb : Bd (laterOf es (k + 1) h.name) := .of (lq.ok (n := 12) (by decide) (by decide)) (by decide)
      have lf := last_fil (x := h.name) (k + 1) (show k + 1 ≤ es.length by omega)
      have shl : ShL 1 ((26 + 1) * ((es.take (k + 1)).filter fun e => decide (e.name = h.name)).length) (((es.take (k + 1)).filter fun e => decide (e.name = h.name)).map fun e => frV e.stamp) := K37.ShL.map _ fun y hy => by
        have hy := (List.mem_filter.mp hy).1
        obtain ⟨i, hi, rfl⟩ := List.getElem_of_mem hy
        have := (hv1.ev i hi).st
        rw [show (es.take (k + 1)).getD i dEv = (es.take (k + 1))[i] by simp [List.getD, List.getElem?_eq_getElem hi]] at this
        exact K37.Sh.fr this (by decide)
      have rest : ∀ d : Int, 0 ≤ d → d < 9 → Bd ((d, 2) : Fq) := fun d d0 d1 => ⟨by show (0 : Int) < 2; decide, by show d.natAbs < _; omega, by show (2 : Int).natAbs < _; decide⟩
      array_get_dec
      intro T7 p7 e_p7 l_T7 g_p7 k_T7
      refine vNeNilO shl (by decide) (k_T7 _ _ g_p6) g_p7 ?_
      have TT7 := TT6.kx (k_T7.kx 2) (by omega)
      cases hl : lastAt es (k + 1) h.name with
      | none =>
        rw [hl] at lf
        have e0 := List.getLast?_eq_none_iff.mp lf
        have el : laterOf es (k + 1) h.name = (0, 1) := by unfold laterOf; rw [hl]
        rw [e0]
        rw [el] at lb ⊢
        array_get_dec
        refine (draw_wp TT7 (m := 9) (by omega) (by omega) (by omega)).imp ?_
        rintro _ T8 ⟨d, rfl, d0, d1, T8', j8⟩
        array_get_dec
        refine (add_wp lb (rest d d0 d1)).imp ?_
        rintro _ _ ⟨rfl, rfl⟩
        refine bn rfl ?_
        exact ⟨⟨d, d0, d1, _, _, rfl⟩, T8'.mono (by omega), (k_T7.kx 1).trans j8⟩
      | some j =>
        rw [hl] at lf
        have el : laterOf es (k + 1) h.name = (es.getD j dEv).stamp := by unfold laterOf; rw [hl]
        have ne : ((es.take (k + 1)).filter fun e => decide (e.name = h.name)) ≠ [] := fun z => by rw [z] at lf; cases lf
        have em : ((((es.take (k + 1)).filter fun e => decide (e.name = h.name)).map fun e => frV e.stamp).isEmpty) = false := by
          cases hz : (es.take (k + 1)).filter fun e => decide (e.name = h.name) with
          | nil => exact absurd hz ne
          | cons y ys => rfl
        rw [em]
        array_get_dec
        refine vIxL rfl rfl (k_T7 _ _ g_p6) (at_endO (f := fun e : Ev => frV e.stamp) lf) ?_
        rw [el] at lb ⊢
        array_get_dec
        refine (draw_wp TT7 (m := 9) (by omega) (by omega) (by omega)).imp ?_
        rintro _ T8 ⟨d, rfl, d0, d1, T8', j8⟩
        array_get_dec
        refine (add_wp lb (rest d d0 d1)).imp ?_
        rintro _ _ ⟨rfl, rfl⟩
        refine bn rfl ?_
        exact ⟨⟨d, d0, d1, _, _, rfl⟩, T8'.mono (by omega), (k_T7.kx 1).trans j8⟩
    rintro _ T7 ⟨⟨d, d0, d1, z17', z18', rfl⟩, TT7, j7⟩
    have C7 := C6.kx1 TT6 fr2 j7
    have gA7 := j7 _ _ A1 gA6
    have gG7 := j7 _ _ (by omega) gG6
    have fm := fit_mark cf ck st (by omega) (show k + 1 ≤ es.length by omega) nm d0 d1
    have mq := (mark_qn cf ck st (by omega) (show k + 1 ≤ es.length by omega) (x := h.name) d0 d1).ok (n := 12) (by decide) (by decide)
    generalize Fr.add (laterOf es (k + 1) h.name) (d, 2) = mk at fm mq ⊢
    have mbd : Bd mk := .of mq (by decide)
    array_get_dec
    refine (frac_wp mq.pos (by have := mbd.b2; omega)).imp ?_
    rintro _ _ ⟨rfl, rfl⟩
    have ems : Fr.mk mk.1 mk.2 = mk := Fr.mk_self mq.pos mq.cop
    rw [ems]
    array_get_dec
    refine wMe (m := "now") (wv rfl ⟨_, _, rfl, C7.ob, rfl, ?_⟩)
    array_get_dec
    refine (court_now_wp C7 fo hv1 (by omega) fm).imp ?_
    rintro _ T8 ⟨rfl, k8⟩
    have hv2 := hg_snoc hv1 (by omega) fm
    have l2 : (es.take (k + 1) ++ [(⟨h.name, mk, .mark⟩ : Ev)]).length = k + 2 := by rw [List.length_append, l1]; rfl
    have pn := pairs_next hv2
    have pk := pairs_ok fo hv2 _ (Nat.le_refl _) (k + 1) (by omega)
    rw [pn] at pk
    have ge := getD_end (ps := pairsUp fl (es.take (k + 1)) (es.take (k + 1)).length) (p := nextOf fl (es.take (k + 1)) ⟨h.name, mk, .mark⟩)
    rw [pairsUp_len, l1] at ge
    rw [l1, ge] at pk
    obtain ⟨y, hy⟩ := (K37.Sh.pr pk (by omega)).repr (by decide) (by omega)
    have C8 := C7.kn k8
    have TT8 := TT7.kx (k8.kx 2) (by omega)
    have gA8 := k8 _ _ gA7
    have gG8 := k8 _ _ gG7
    array_get_dec
    refine Wp.of (hy _) ?_
    array_get_dec
    refine vSlAL gA8 ?_
    rw [show ((k : Nat) + 1 : Int) = ((k + 1 : Nat) : Int) by omega, cut_takeN, ← List.map_take]
    intro T9 p9 e_p9 l_T9 g_p9 k_T9
    array_get_dec
    intro T10 p10 e_p10 l_T10 g_p10 k_T10
    refine vCatL rfl rfl (k_T10 _ _ g_p9) g_p10 (by rw [List.length_map, l1]; show k + 1 + 1 ≤ 1000000; omega) ?_
    intro T11 p11 e_p11 l_T11 g_p11 k_T11
    have g11 : T11[p11]? = some (.lst ((es.take (k + 1) ++ [(⟨h.name, mk, .mark⟩ : Ev)]).map evV)) := by
      rw [g_p11, List.map_append]
      rfl
    array_get_dec
    refine (kept_wp cf (hi_ok fo hv2) hv2 g11).imp ?_
    rintro _ T12 ⟨r, rfl, gr, k12, -⟩
    rw [pn, List.map_append] at gr
    array_get_dec
    refine vIxL rfl rfl gr at_lastO ?_
    array_get_dec
    refine Wp.of (hy _) ?_
    array_get_dec
    refine brF (by simp) ?_
    have kk : Kn T8 T12 := ((k_T9.trans k_T10).trans k_T11).trans k12
    array_get_dec
    refine ⟨⟨_, _, _, _, _, _, _, _, _, rfl⟩, ⟨_, C8.kn kk, ?_⟩, kk _ _ gA8, kk _ _ gG8, (TT8.kx (kk.kx 2) (by omega)).mono (by omega)⟩
    rw [List.length_append, List.length_singleton]
    omega
  · rintro ρ T ⟨⟨z10, z11, z12, z13, z14, z15, z16, z17, z18, rfl⟩, ⟨rows, C, lrw⟩, gAT, gGT, TT⟩
    have el : (enumV (es.map evV)).length = es.length := by simp [enumV]
    rw [el, List.take_length] at C
    obtain ⟨x, hx⟩ := (shG_hi cf hv).repr (by decide) (by decide)
    array_get_dec
    refine wMe (m := "history") (wv rfl ⟨_, _, rfl, C.ob, rfl, ?_⟩)
    array_get_dec
    refine (court_history_wp C).imp ?_
    rintro _ _ ⟨rfl, rfl⟩
    array_get_dec
    refine Wp.of (hx _) ?_
    array_get_dec
    refine Wp.of (hx _) ?_
    array_get_dec
    exact congrArg Val.bl (decide_eq_true rfl)
end K76
namespace AL
open PySem PySem.Spec PyProof.Rows L2 G Th
def clsK (K : PySem.W.Frag) (x : Str) : Addr := match PySem.W.nsIn K mainGlobals x with
  | some (some (.ref a)) => a
  | _ => 0
theorem clsK_at {K : PySem.W.Frag} {x : Str} {a : Addr} (h : PySem.W.nsIn K mainGlobals x = some (some (.ref a))) : clsK K x = a := by
  unfold clsK
  rw [h]
abbrev TC (K : PySem.W.Frag) : TT := ⟨[], clsK K⟩
theorem hsp_c {K : PySem.W.Frag} {F : FA} (hF : ∀ ns : List Int, ns.length ≤ 63 → ∃ S', F [.scr ns] [] = some (.bl true, S')) {H : Hp} {a : Addr} {ns : List Int} {E : XK} (hl : ns.length ≤ 63) (hO : Only H) (hS : SqL K H a (ns.map V.int)) : @spA (TC K) K 1 F [.ref a] H (fun v _ => v = .bl true) E :=
  @hsp_t (TC K) K F hF H a ns E hl (fun p hp => by cases hp) (sqF_of hO hS)
end AL
namespace K76
open PySem PySem.Spec PyProof.Rows L2 G Th AL
open K37 (common_divisor_ common_divisor_B ratio_ ratio_B added_ added_B added_told_ added_told_B less_ less_B parted_ parted_B is_below_ is_below_B least_of_ least_of_B greatest_of_ greatest_of_B drift_of_ drift_of_B moves_into_ moves_into_B moved_end_ moved_end_B ends_told_ ends_told_B kept_pair_ kept_pair_B is_lessL_ is_lessL_B)
open K43 (Keeper_init_ Keeper_init_B Keeper_bar_place_ Keeper_bar_place_B Keeper_bar_send_ Keeper_bar_send_B Keeper_bar_number_ Keeper_bar_number_B Keeper_bar_hear_ Keeper_bar_hear_B Keeper_bar_deed_ Keeper_bar_deed_B Keeper_pair_next_ Keeper_pair_next_B Keeper_note_ Keeper_note_B Keeper_history_ Keeper_history_B Keeper_now_ Keeper_now_B Keeper_pair_ Keeper_pair_B)
open K57 (own_best_ own_best_B)
open K56 (first_state_ first_state_B)
open K58 (NetRun_init_ NetRun_init_B)
theorem all_mk {l : PySem.W.OpenLaw} {w : World} {K : PySem.W.Frag} {h : Heap} {mg : Str → Option Value} {fa : Addr} (X : K.In h) (G : h.Ns mainGlobals mg) (hfa : mg "law" = some (.ref fa))
    {o0 : Value} {od0 an0 : Option Addr} {sl0 : Array (Option Value)} {kV0 dc0 pm0 cd0 ct0 : Value} {f0 : Addr} {o1 : Value} {od1 an1 : Option Addr} {sl1 : Array (Option Value)} {kV1 dc1 pm1 cd1 ct1 : Value} {f1 : Addr} {o2 : Value} {od2 an2 : Option Addr} {sl2 : Array (Option Value)} {kV2 dc2 pm2 cd2 ct2 : Value} {f2 : Addr} {o3 : Value} {od3 an3 : Option Addr} {sl3 : Array (Option Value)} {kV3 dc3 pm3 cd3 ct3 : Value} {f3 : Addr} {o4 : Value} {od4 an4 : Option Addr} {sl4 : Array (Option Value)} {kV4 dc4 pm4 cd4 ct4 : Value} {f4 : Addr} {o5 : Value} {od5 an5 : Option Addr} {sl5 : Array (Option Value)} {kV5 dc5 pm5 cd5 ct5 : Value} {f5 : Addr} {o6 : Value} {od6 an6 : Option Addr} {sl6 : Array (Option Value)} {kV6 dc6 pm6 cd6 ct6 : Value} {f6 : Addr} {o7 : Value} {od7 an7 : Option Addr} {sl7 : Array (Option Value)} {kV7 dc7 pm7 cd7 ct7 : Value} {f7 : Addr} {o8 : Value} {od8 an8 : Option Addr} {sl8 : Array (Option Value)} {kV8 dc8 pm8 cd8 ct8 : Value} {f8 : Addr} {o9 : Value} {od9 an9 : Option Addr} {sl9 : Array (Option Value)} {kV9 dc9 pm9 cd9 ct9 : Value} {f9 : Addr} {o10 : Value} {od10 an10 : Option Addr} {sl10 : Array (Option Value)} {kV10 dc10 pm10 cd10 ct10 : Value} {f10 : Addr} {o11 : Value} {od11 an11 : Option Addr} {sl11 : Array (Option Value)} {kV11 dc11 pm11 cd11 ct11 : Value} {f11 : Addr} {o12 : Value} {od12 an12 : Option Addr} {sl12 : Array (Option Value)} {kV12 dc12 pm12 cd12 ct12 : Value} {f12 : Addr} {o13 : Value} {od13 an13 : Option Addr} {sl13 : Array (Option Value)} {kV13 dc13 pm13 cd13 ct13 : Value} {f13 : Addr} {o14 : Value} {od14 an14 : Option Addr} {sl14 : Array (Option Value)} {kV14 dc14 pm14 cd14 ct14 : Value} {f14 : Addr} {o15 : Value} {od15 an15 : Option Addr} {sl15 : Array (Option Value)} {kV15 dc15 pm15 cd15 ct15 : Value} {f15 : Addr} {o16 : Value} {od16 an16 : Option Addr} {sl16 : Array (Option Value)} {kV16 dc16 pm16 cd16 ct16 : Value} {f16 : Addr} {o17 : Value} {od17 an17 : Option Addr} {sl17 : Array (Option Value)} {kV17 dc17 pm17 cd17 ct17 : Value} {f17 : Addr} {o18 : Value} {od18 an18 : Option Addr} {sl18 : Array (Option Value)} {kV18 dc18 pm18 cd18 ct18 : Value} {f18 : Addr} {o19 : Value} {od19 an19 : Option Addr} {sl19 : Array (Option Value)} {kV19 dc19 pm19 cd19 ct19 : Value} {f19 : Addr} {o20 : Value} {od20 an20 : Option Addr} {sl20 : Array (Option Value)} {kV20 dc20 pm20 cd20 ct20 : Value} {f20 : Addr} {o21 : Value} {od21 an21 : Option Addr} {sl21 : Array (Option Value)} {kV21 dc21 pm21 cd21 ct21 : Value} {f21 : Addr} {o22 : Value} {od22 an22 : Option Addr} {sl22 : Array (Option Value)} {kV22 dc22 pm22 cd22 ct22 : Value} {f22 : Addr} {o23 : Value} {od23 an23 : Option Addr} {sl23 : Array (Option Value)} {kV23 dc23 pm23 cd23 ct23 : Value} {f23 : Addr} {o24 : Value} {od24 an24 : Option Addr} {sl24 : Array (Option Value)} {kV24 dc24 pm24 cd24 ct24 : Value} {f24 : Addr} {o25 : Value} {od25 an25 : Option Addr} {sl25 : Array (Option Value)} {kV25 dc25 pm25 cd25 ct25 : Value} {f25 : Addr} {o26 : Value} {od26 an26 : Option Addr} {sl26 : Array (Option Value)} {kV26 dc26 pm26 cd26 ct26 : Value} {f26 : Addr} {o27 : Value} {od27 an27 : Option Addr} {sl27 : Array (Option Value)} {kV27 dc27 pm27 cd27 ct27 : Value} {f27 : Addr} {o28 : Value} {od28 an28 : Option Addr} {sl28 : Array (Option Value)} {kV28 dc28 pm28 cd28 ct28 : Value} {f28 : Addr} {o29 : Value} {od29 an29 : Option Addr} {sl29 : Array (Option Value)} {kV29 dc29 pm29 cd29 ct29 : Value} {f29 : Addr} {o30 : Value} {od30 an30 : Option Addr} {sl30 : Array (Option Value)} {dc30 pm30 cd30 ct30 : Value} {f30 : Addr} {o31 : Value} {od31 an31 : Option Addr} {sl31 : Array (Option Value)} {dc31 pm31 cd31 ct31 : Value} {f31 : Addr} {o32 : Value} {od32 an32 : Option Addr} {sl32 : Array (Option Value)} {kV32 dc32 pm32 cd32 ct32 : Value} {f32 : Addr} {o33 : Value} {od33 an33 : Option Addr} {sl33 : Array (Option Value)} {kV33 dc33 pm33 cd33 ct33 : Value} {f33 : Addr} {o34 : Value} {od34 an34 : Option Addr} {sl34 : Array (Option Value)} {kV34 dc34 pm34 cd34 ct34 : Value} {f34 : Addr} {o35 : Value} {od35 an35 : Option Addr} {sl35 : Array (Option Value)} {kV35 dc35 pm35 cd35 ct35 : Value} {f35 : Addr} {o36 : Value} {od36 an36 : Option Addr} {sl36 : Array (Option Value)} {kV36 dc36 pm36 cd36 ct36 : Value} {f36 : Addr} {o37 : Value} {od37 an37 : Option Addr} {sl37 : Array (Option Value)} {kV37 dc37 pm37 cd37 ct37 : Value} {f37 : Addr} {o38 : Value} {od38 an38 : Option Addr} {sl38 : Array (Option Value)} {kV38 dc38 pm38 cd38 ct38 : Value} {f38 : Addr} {o39 : Value} {od39 an39 : Option Addr} {sl39 : Array (Option Value)} {kV39 dc39 pm39 cd39 ct39 : Value} {f39 : Addr} {o40 : Value} {od40 an40 : Option Addr} {sl40 : Array (Option Value)} {kV40 dc40 pm40 cd40 ct40 : Value} {f40 : Addr} {o41 : Value} {od41 an41 : Option Addr} {sl41 : Array (Option Value)} {kV41 dc41 pm41 cd41 ct41 : Value} {f41 : Addr} {o42 : Value} {od42 an42 : Option Addr} {sl42 : Array (Option Value)} {kV42 dc42 pm42 cd42 ct42 : Value} {f42 : Addr} {o43 : Value} {od43 an43 : Option Addr} {sl43 : Array (Option Value)} {kV43 dc43 pm43 cd43 ct43 : Value} {f43 : Addr} {o44 : Value} {od44 an44 : Option Addr} {sl44 : Array (Option Value)} {kV44 dc44 pm44 cd44 ct44 : Value} {f44 : Addr} {o45 : Value} {od45 an45 : Option Addr} {sl45 : Array (Option Value)} {kV45 dc45 pm45 cd45 ct45 : Value} {f45 : Addr} {o46 : Value} {od46 an46 : Option Addr} {sl46 : Array (Option Value)} {kV46 dc46 pm46 cd46 ct46 : Value} {f46 : Addr} {o47 : Value} {od47 an47 : Option Addr} {sl47 : Array (Option Value)} {kV47 dc47 pm47 cd47 ct47 : Value} {f47 : Addr} {o48 : Value} {od48 an48 : Option Addr} {sl48 : Array (Option Value)} {kV48 dc48 pm48 cd48 ct48 : Value} {f48 : Addr} {o49 : Value} {od49 an49 : Option Addr} {sl49 : Array (Option Value)} {kV49 dc49 pm49 cd49 ct49 : Value} {f49 : Addr} {o50 : Value} {od50 an50 : Option Addr} {sl50 : Array (Option Value)} {kV50 dc50 pm50 cd50 ct50 : Value} {f50 : Addr} {o51 : Value} {od51 an51 : Option Addr} {sl51 : Array (Option Value)} {kV51 dc51 pm51 cd51 ct51 : Value} {f51 : Addr}
 {C_Keeper : Addr} {C_NetRun : Addr} {C_Court : Addr} {C_NoEvent : Addr} {C_NoHouse : Addr} {C_NoLink : Addr} {C_NoNumber : Addr} {fI_NoEvent : Addr} {oI_NoEvent kVI_NoEvent dcI_NoEvent pmI_NoEvent cdI_NoEvent ctI_NoEvent : Value} {odI_NoEvent anI_NoEvent : Option Addr} {slI_NoEvent : Array (Option Value)} {fI_NoHouse : Addr} {oI_NoHouse kVI_NoHouse dcI_NoHouse pmI_NoHouse cdI_NoHouse ctI_NoHouse : Value} {odI_NoHouse anI_NoHouse : Option Addr} {slI_NoHouse : Array (Option Value)} {fI_NoLink : Addr} {oI_NoLink kVI_NoLink dcI_NoLink pmI_NoLink cdI_NoLink ctI_NoLink : Value} {odI_NoLink anI_NoLink : Option Addr} {slI_NoLink : Array (Option Value)} {fI_NoNumber : Addr} {oI_NoNumber kVI_NoNumber dcI_NoNumber pmI_NoNumber cdI_NoNumber ctI_NoNumber : Value} {odI_NoNumber anI_NoNumber : Option Addr} {slI_NoNumber : Array (Option Value)} {D30 : Addr} {w30_most : Value} {w30_age : Value} {D31 : Addr} {w31_most : Value} {w31_age : Value}
    (a0 : PySem.W.nsIn K mainGlobals "common_divisor" = some (some (.ref f0))) (l0 : K.lookup f0 = some ⟨o0, od0, .func (PySem.W.fnOf "common_divisor" "common_divisor" (defArgs st_common_divisor_) (defBody st_common_divisor_) (defScope st_common_divisor_) .none kV0 dc0 pm0 an0 cd0 ct0), sl0⟩) (c0 : PySem.W.codeIn K cd0 "common_divisor" = true) (k0 : PySem.W.keepIn K (.ref f0) = true)
    (a1 : PySem.W.nsIn K mainGlobals "ratio" = some (some (.ref f1))) (l1 : K.lookup f1 = some ⟨o1, od1, .func (PySem.W.fnOf "ratio" "ratio" (defArgs st_ratio_) (defBody st_ratio_) (defScope st_ratio_) .none kV1 dc1 pm1 an1 cd1 ct1), sl1⟩) (c1 : PySem.W.codeIn K cd1 "ratio" = true) (k1 : PySem.W.keepIn K (.ref f1) = true)
    (a2 : PySem.W.nsIn K mainGlobals "added" = some (some (.ref f2))) (l2 : K.lookup f2 = some ⟨o2, od2, .func (PySem.W.fnOf "added" "added" (defArgs st_added_) (defBody st_added_) (defScope st_added_) .none kV2 dc2 pm2 an2 cd2 ct2), sl2⟩) (c2 : PySem.W.codeIn K cd2 "added" = true) (k2 : PySem.W.keepIn K (.ref f2) = true)
    (a3 : PySem.W.nsIn K mainGlobals "added_told" = some (some (.ref f3))) (l3 : K.lookup f3 = some ⟨o3, od3, .func (PySem.W.fnOf "added_told" "added_told" (defArgs st_added_told_) (defBody st_added_told_) (defScope st_added_told_) .none kV3 dc3 pm3 an3 cd3 ct3), sl3⟩) (c3 : PySem.W.codeIn K cd3 "added_told" = true) (k3 : PySem.W.keepIn K (.ref f3) = true)
    (a4 : PySem.W.nsIn K mainGlobals "less" = some (some (.ref f4))) (l4 : K.lookup f4 = some ⟨o4, od4, .func (PySem.W.fnOf "less" "less" (defArgs st_less_) (defBody st_less_) (defScope st_less_) .none kV4 dc4 pm4 an4 cd4 ct4), sl4⟩) (c4 : PySem.W.codeIn K cd4 "less" = true) (k4 : PySem.W.keepIn K (.ref f4) = true)
    (a5 : PySem.W.nsIn K mainGlobals "parted" = some (some (.ref f5))) (l5 : K.lookup f5 = some ⟨o5, od5, .func (PySem.W.fnOf "parted" "parted" (defArgs st_parted_) (defBody st_parted_) (defScope st_parted_) .none kV5 dc5 pm5 an5 cd5 ct5), sl5⟩) (c5 : PySem.W.codeIn K cd5 "parted" = true) (k5 : PySem.W.keepIn K (.ref f5) = true)
    (a6 : PySem.W.nsIn K mainGlobals "is_below" = some (some (.ref f6))) (l6 : K.lookup f6 = some ⟨o6, od6, .func (PySem.W.fnOf "is_below" "is_below" (defArgs st_is_below_) (defBody st_is_below_) (defScope st_is_below_) .none kV6 dc6 pm6 an6 cd6 ct6), sl6⟩) (c6 : PySem.W.codeIn K cd6 "is_below" = true) (k6 : PySem.W.keepIn K (.ref f6) = true)
    (a7 : PySem.W.nsIn K mainGlobals "least_of" = some (some (.ref f7))) (l7 : K.lookup f7 = some ⟨o7, od7, .func (PySem.W.fnOf "least_of" "least_of" (defArgs st_least_of_) (defBody st_least_of_) (defScope st_least_of_) .none kV7 dc7 pm7 an7 cd7 ct7), sl7⟩) (c7 : PySem.W.codeIn K cd7 "least_of" = true) (k7 : PySem.W.keepIn K (.ref f7) = true)
    (a8 : PySem.W.nsIn K mainGlobals "greatest_of" = some (some (.ref f8))) (l8 : K.lookup f8 = some ⟨o8, od8, .func (PySem.W.fnOf "greatest_of" "greatest_of" (defArgs st_greatest_of_) (defBody st_greatest_of_) (defScope st_greatest_of_) .none kV8 dc8 pm8 an8 cd8 ct8), sl8⟩) (c8 : PySem.W.codeIn K cd8 "greatest_of" = true) (k8 : PySem.W.keepIn K (.ref f8) = true)
    (a9 : PySem.W.nsIn K mainGlobals "drift_of" = some (some (.ref f9))) (l9 : K.lookup f9 = some ⟨o9, od9, .func (PySem.W.fnOf "drift_of" "drift_of" (defArgs st_drift_of_) (defBody st_drift_of_) (defScope st_drift_of_) .none kV9 dc9 pm9 an9 cd9 ct9), sl9⟩) (c9 : PySem.W.codeIn K cd9 "drift_of" = true) (k9 : PySem.W.keepIn K (.ref f9) = true)
    (a10 : PySem.W.nsIn K mainGlobals "moves_into" = some (some (.ref f10))) (l10 : K.lookup f10 = some ⟨o10, od10, .func (PySem.W.fnOf "moves_into" "moves_into" (defArgs st_moves_into_) (defBody st_moves_into_) (defScope st_moves_into_) .none kV10 dc10 pm10 an10 cd10 ct10), sl10⟩) (c10 : PySem.W.codeIn K cd10 "moves_into" = true) (k10 : PySem.W.keepIn K (.ref f10) = true)
    (a11 : PySem.W.nsIn K mainGlobals "moved_end" = some (some (.ref f11))) (l11 : K.lookup f11 = some ⟨o11, od11, .func (PySem.W.fnOf "moved_end" "moved_end" (defArgs st_moved_end_) (defBody st_moved_end_) (defScope st_moved_end_) .none kV11 dc11 pm11 an11 cd11 ct11), sl11⟩) (c11 : PySem.W.codeIn K cd11 "moved_end" = true) (k11 : PySem.W.keepIn K (.ref f11) = true)
    (a12 : PySem.W.nsIn K mainGlobals "ends_told" = some (some (.ref f12))) (l12 : K.lookup f12 = some ⟨o12, od12, .func (PySem.W.fnOf "ends_told" "ends_told" (defArgs st_ends_told_) (defBody st_ends_told_) (defScope st_ends_told_) .none kV12 dc12 pm12 an12 cd12 ct12), sl12⟩) (c12 : PySem.W.codeIn K cd12 "ends_told" = true) (k12 : PySem.W.keepIn K (.ref f12) = true)
    (a13 : PySem.W.nsIn K mainGlobals "kept_pair" = some (some (.ref f13))) (l13 : K.lookup f13 = some ⟨o13, od13, .func (PySem.W.fnOf "kept_pair" "kept_pair" (defArgs st_kept_pair_) (defBody st_kept_pair_) (defScope st_kept_pair_) .none kV13 dc13 pm13 an13 cd13 ct13), sl13⟩) (c13 : PySem.W.codeIn K cd13 "kept_pair" = true) (k13 : PySem.W.keepIn K (.ref f13) = true)
    (a14 : PySem.W.nsIn K mainGlobals "own_best" = some (some (.ref f14))) (l14 : K.lookup f14 = some ⟨o14, od14, .func (PySem.W.fnOf "own_best" "own_best" (defArgs st_own_best_) (defBody st_own_best_) (defScope st_own_best_) .none kV14 dc14 pm14 an14 cd14 ct14), sl14⟩) (c14 : PySem.W.codeIn K cd14 "own_best" = true) (k14 : PySem.W.keepIn K (.ref f14) = true)
    (a15 : PySem.W.nsIn K mainGlobals "first_state" = some (some (.ref f15))) (l15 : K.lookup f15 = some ⟨o15, od15, .func (PySem.W.fnOf "first_state" "first_state" (defArgs st_first_state_) (defBody st_first_state_) (defScope st_first_state_) .none kV15 dc15 pm15 an15 cd15 ct15), sl15⟩) (c15 : PySem.W.codeIn K cd15 "first_state" = true) (k15 : PySem.W.keepIn K (.ref f15) = true)
    (a16 : PySem.W.nsIn K mainGlobals "_law_feed" = some (some (.ref f16))) (l16 : K.lookup f16 = some ⟨o16, od16, .func (PySem.W.fnOf "_law_feed" "_law_feed" (defArgs st_feedL_) (defBody st_feedL_) (defScope st_feedL_) .none kV16 dc16 pm16 an16 cd16 ct16), sl16⟩) (c16 : PySem.W.codeIn K cd16 "_law_feed" = true) (k16 : PySem.W.keepIn K (.ref f16) = true)
    (a17 : PySem.W.nsIn K mainGlobals "_law_draw" = some (some (.ref f17))) (l17 : K.lookup f17 = some ⟨o17, od17, .func (PySem.W.fnOf "_law_draw" "_law_draw" (defArgs st_drawL_) (defBody st_drawL_) (defScope st_drawL_) .none kV17 dc17 pm17 an17 cd17 ct17), sl17⟩) (c17 : PySem.W.codeIn K cd17 "_law_draw" = true) (k17 : PySem.W.keepIn K (.ref f17) = true)
    (a18 : PySem.W.nsIn K mainGlobals "_law_frac" = some (some (.ref f18))) (l18 : K.lookup f18 = some ⟨o18, od18, .func (PySem.W.fnOf "_law_frac" "_law_frac" (defArgs st_fracL_) (defBody st_fracL_) (defScope st_fracL_) .none kV18 dc18 pm18 an18 cd18 ct18), sl18⟩) (c18 : PySem.W.codeIn K cd18 "_law_frac" = true) (k18 : PySem.W.keepIn K (.ref f18) = true)
    (a19 : PySem.W.nsIn K mainGlobals "_law_add" = some (some (.ref f19))) (l19 : K.lookup f19 = some ⟨o19, od19, .func (PySem.W.fnOf "_law_add" "_law_add" (defArgs st_addL_) (defBody st_addL_) (defScope st_addL_) .none kV19 dc19 pm19 an19 cd19 ct19), sl19⟩) (c19 : PySem.W.codeIn K cd19 "_law_add" = true) (k19 : PySem.W.keepIn K (.ref f19) = true)
    (a20 : PySem.W.nsIn K mainGlobals "_law_mul" = some (some (.ref f20))) (l20 : K.lookup f20 = some ⟨o20, od20, .func (PySem.W.fnOf "_law_mul" "_law_mul" (defArgs st_mulL_) (defBody st_mulL_) (defScope st_mulL_) .none kV20 dc20 pm20 an20 cd20 ct20), sl20⟩) (c20 : PySem.W.codeIn K cd20 "_law_mul" = true) (k20 : PySem.W.keepIn K (.ref f20) = true)
    (a21 : PySem.W.nsIn K mainGlobals "_law_minus" = some (some (.ref f21))) (l21 : K.lookup f21 = some ⟨o21, od21, .func (PySem.W.fnOf "_law_minus" "_law_minus" (defArgs st_minusL_) (defBody st_minusL_) (defScope st_minusL_) .none kV21 dc21 pm21 an21 cd21 ct21), sl21⟩) (c21 : PySem.W.codeIn K cd21 "_law_minus" = true) (k21 : PySem.W.keepIn K (.ref f21) = true)
    (a22 : PySem.W.nsIn K mainGlobals "_law_is_less" = some (some (.ref f22))) (l22 : K.lookup f22 = some ⟨o22, od22, .func (PySem.W.fnOf "_law_is_less" "_law_is_less" (defArgs st_is_lessL_) (defBody st_is_lessL_) (defScope st_is_lessL_) .none kV22 dc22 pm22 an22 cd22 ct22), sl22⟩) (c22 : PySem.W.codeIn K cd22 "_law_is_less" = true) (k22 : PySem.W.keepIn K (.ref f22) = true)
    (a23 : PySem.W.nsIn K mainGlobals "_law_field" = some (some (.ref f23))) (l23 : K.lookup f23 = some ⟨o23, od23, .func (PySem.W.fnOf "_law_field" "_law_field" (defArgs st_fieldL_) (defBody st_fieldL_) (defScope st_fieldL_) .none kV23 dc23 pm23 an23 cd23 ct23), sl23⟩) (c23 : PySem.W.codeIn K cd23 "_law_field" = true) (k23 : PySem.W.keepIn K (.ref f23) = true)
    (a24 : PySem.W.nsIn K mainGlobals "_law_clocks" = some (some (.ref f24))) (l24 : K.lookup f24 = some ⟨o24, od24, .func (PySem.W.fnOf "_law_clocks" "_law_clocks" (defArgs st_clocksL_) (defBody st_clocksL_) (defScope st_clocksL_) .none kV24 dc24 pm24 an24 cd24 ct24), sl24⟩) (c24 : PySem.W.codeIn K cd24 "_law_clocks" = true) (k24 : PySem.W.keepIn K (.ref f24) = true)
    (a25 : PySem.W.nsIn K mainGlobals "_law_stamp" = some (some (.ref f25))) (l25 : K.lookup f25 = some ⟨o25, od25, .func (PySem.W.fnOf "_law_stamp" "_law_stamp" (defArgs st_stampL_) (defBody st_stampL_) (defScope st_stampL_) .none kV25 dc25 pm25 an25 cd25 ct25), sl25⟩) (c25 : PySem.W.codeIn K cd25 "_law_stamp" = true) (k25 : PySem.W.keepIn K (.ref f25) = true)
    (a26 : PySem.W.nsIn K mainGlobals "_law_can_hear" = some (some (.ref f26))) (l26 : K.lookup f26 = some ⟨o26, od26, .func (PySem.W.fnOf "_law_can_hear" "_law_can_hear" (defArgs st_can_hearL_) (defBody st_can_hearL_) (defScope st_can_hearL_) .none kV26 dc26 pm26 an26 cd26 ct26), sl26⟩) (c26 : PySem.W.codeIn K cd26 "_law_can_hear" = true) (k26 : PySem.W.keepIn K (.ref f26) = true)
    (a27 : PySem.W.nsIn K mainGlobals "_law_story" = some (some (.ref f27))) (l27 : K.lookup f27 = some ⟨o27, od27, .func (PySem.W.fnOf "_law_story" "_law_story" (defArgs st_storyL_) (defBody st_storyL_) (defScope st_storyL_) .none kV27 dc27 pm27 an27 cd27 ct27), sl27⟩) (c27 : PySem.W.codeIn K cd27 "_law_story" = true) (k27 : PySem.W.keepIn K (.ref f27) = true)
    (a28 : PySem.W.nsIn K mainGlobals "_law_net" = some (some (.ref f28))) (l28 : K.lookup f28 = some ⟨o28, od28, .func (PySem.W.fnOf "_law_net" "_law_net" (defArgs st_netL_) (defBody st_netL_) (defScope st_netL_) .none kV28 dc28 pm28 an28 cd28 ct28), sl28⟩) (c28 : PySem.W.codeIn K cd28 "_law_net" = true) (k28 : PySem.W.keepIn K (.ref f28) = true)
    (a29 : PySem.W.findIn K (.ref C_Keeper) "__init__" = some (some (.ref f29))) (l29 : K.lookup f29 = some ⟨o29, od29, .func (PySem.W.fnOf "__init__" "Keeper.__init__" (defArgs st_Keeper_init_) (defBody st_Keeper_init_) (defScope st_Keeper_init_) .none kV29 dc29 pm29 an29 cd29 ct29), sl29⟩) (c29 : PySem.W.codeIn K cd29 "Keeper.__init__" = true) (k29 : PySem.W.keepIn K (.ref f29) = true) (t29 : PySem.W.isFn K (.ref f29) = true)
    (a30 : PySem.W.findIn K (.ref C_NetRun) "__init__" = some (some (.ref f30))) (l30 : K.lookup f30 = some ⟨o30, od30, .func (PySem.W.fnOf "__init__" "NetRun.__init__" (defArgs st_NetRun_init_) (defBody st_NetRun_init_) (defScope st_NetRun_init_) .none (.ref D30) dc30 pm30 an30 cd30 ct30), sl30⟩) (c30 : PySem.W.codeIn K cd30 "NetRun.__init__" = true) (k30 : PySem.W.keepIn K (.ref f30) = true) (t30 : PySem.W.isFn K (.ref f30) = true) (q30_most : PySem.W.nsIn K D30 "most" = some (some w30_most)) (x30_most : CV K w30_most (.int 4)) (q30_age : PySem.W.nsIn K D30 "age" = some (some w30_age)) (x30_age : CV K w30_age (.int 1))
    (a31 : PySem.W.findIn K (.ref C_Court) "__init__" = some (some (.ref f31))) (l31 : K.lookup f31 = some ⟨o31, od31, .func (PySem.W.fnOf "__init__" "Court.__init__" (defArgs st_Court_init_) (defBody st_Court_init_) (defScope st_Court_init_) .none (.ref D31) dc31 pm31 an31 cd31 ct31), sl31⟩) (c31 : PySem.W.codeIn K cd31 "Court.__init__" = true) (k31 : PySem.W.keepIn K (.ref f31) = true) (t31 : PySem.W.isFn K (.ref f31) = true) (q31_most : PySem.W.nsIn K D31 "most" = some (some w31_most)) (x31_most : CV K w31_most (.int 4)) (q31_age : PySem.W.nsIn K D31 "age" = some (some w31_age)) (x31_age : CV K w31_age (.int 1))
    (a32 : PySem.W.nsIn K mainGlobals "_law_opened" = some (some (.ref f32))) (l32 : K.lookup f32 = some ⟨o32, od32, .func (PySem.W.fnOf "_law_opened" "_law_opened" (defArgs st_openedL_) (defBody st_openedL_) (defScope st_openedL_) .none kV32 dc32 pm32 an32 cd32 ct32), sl32⟩) (c32 : PySem.W.codeIn K cd32 "_law_opened" = true) (k32 : PySem.W.keepIn K (.ref f32) = true)
    (a33 : PySem.W.nsIn K mainGlobals "_law_part" = some (some (.ref f33))) (l33 : K.lookup f33 = some ⟨o33, od33, .func (PySem.W.fnOf "_law_part" "_law_part" (defArgs st_partL_) (defBody st_partL_) (defScope st_partL_) .none kV33 dc33 pm33 an33 cd33 ct33), sl33⟩) (c33 : PySem.W.codeIn K cd33 "_law_part" = true) (k33 : PySem.W.keepIn K (.ref f33) = true)
    (a34 : PySem.W.nsIn K mainGlobals "_law_grown" = some (some (.ref f34))) (l34 : K.lookup f34 = some ⟨o34, od34, .func (PySem.W.fnOf "_law_grown" "_law_grown" (defArgs st_grownL_) (defBody st_grownL_) (defScope st_grownL_) .none kV34 dc34 pm34 an34 cd34 ct34), sl34⟩) (c34 : PySem.W.codeIn K cd34 "_law_grown" = true) (k34 : PySem.W.keepIn K (.ref f34) = true)
    (a35 : PySem.W.nsIn K mainGlobals "_law_narrowed" = some (some (.ref f35))) (l35 : K.lookup f35 = some ⟨o35, od35, .func (PySem.W.fnOf "_law_narrowed" "_law_narrowed" (defArgs st_narrowedL_) (defBody st_narrowedL_) (defScope st_narrowedL_) .none kV35 dc35 pm35 an35 cd35 ct35), sl35⟩) (c35 : PySem.W.codeIn K cd35 "_law_narrowed" = true) (k35 : PySem.W.keepIn K (.ref f35) = true)
    (a36 : PySem.W.nsIn K mainGlobals "_law_kept" = some (some (.ref f36))) (l36 : K.lookup f36 = some ⟨o36, od36, .func (PySem.W.fnOf "_law_kept" "_law_kept" (defArgs st_keptL_) (defBody st_keptL_) (defScope st_keptL_) .none kV36 dc36 pm36 an36 cd36 ct36), sl36⟩) (c36 : PySem.W.codeIn K cd36 "_law_kept" = true) (k36 : PySem.W.keepIn K (.ref f36) = true)
    (a37 : PySem.W.findIn K (.ref C_Keeper) "bar_place" = some (some (.ref f37))) (l37 : K.lookup f37 = some ⟨o37, od37, .func (PySem.W.fnOf "bar_place" "Keeper.bar_place" (defArgs st_Keeper_bar_place_) (defBody st_Keeper_bar_place_) (defScope st_Keeper_bar_place_) .none kV37 dc37 pm37 an37 cd37 ct37), sl37⟩) (c37 : PySem.W.codeIn K cd37 "Keeper.bar_place" = true) (k37 : PySem.W.keepIn K (.ref f37) = true) (t37 : PySem.W.isFn K (.ref f37) = true)
    (a38 : PySem.W.findIn K (.ref C_Keeper) "bar_send" = some (some (.ref f38))) (l38 : K.lookup f38 = some ⟨o38, od38, .func (PySem.W.fnOf "bar_send" "Keeper.bar_send" (defArgs st_Keeper_bar_send_) (defBody st_Keeper_bar_send_) (defScope st_Keeper_bar_send_) .none kV38 dc38 pm38 an38 cd38 ct38), sl38⟩) (c38 : PySem.W.codeIn K cd38 "Keeper.bar_send" = true) (k38 : PySem.W.keepIn K (.ref f38) = true) (t38 : PySem.W.isFn K (.ref f38) = true)
    (a39 : PySem.W.findIn K (.ref C_Keeper) "bar_number" = some (some (.ref f39))) (l39 : K.lookup f39 = some ⟨o39, od39, .func (PySem.W.fnOf "bar_number" "Keeper.bar_number" (defArgs st_Keeper_bar_number_) (defBody st_Keeper_bar_number_) (defScope st_Keeper_bar_number_) .none kV39 dc39 pm39 an39 cd39 ct39), sl39⟩) (c39 : PySem.W.codeIn K cd39 "Keeper.bar_number" = true) (k39 : PySem.W.keepIn K (.ref f39) = true) (t39 : PySem.W.isFn K (.ref f39) = true)
    (a40 : PySem.W.findIn K (.ref C_Keeper) "bar_hear" = some (some (.ref f40))) (l40 : K.lookup f40 = some ⟨o40, od40, .func (PySem.W.fnOf "bar_hear" "Keeper.bar_hear" (defArgs st_Keeper_bar_hear_) (defBody st_Keeper_bar_hear_) (defScope st_Keeper_bar_hear_) .none kV40 dc40 pm40 an40 cd40 ct40), sl40⟩) (c40 : PySem.W.codeIn K cd40 "Keeper.bar_hear" = true) (k40 : PySem.W.keepIn K (.ref f40) = true) (t40 : PySem.W.isFn K (.ref f40) = true)
    (a41 : PySem.W.findIn K (.ref C_Keeper) "bar_deed" = some (some (.ref f41))) (l41 : K.lookup f41 = some ⟨o41, od41, .func (PySem.W.fnOf "bar_deed" "Keeper.bar_deed" (defArgs st_Keeper_bar_deed_) (defBody st_Keeper_bar_deed_) (defScope st_Keeper_bar_deed_) .none kV41 dc41 pm41 an41 cd41 ct41), sl41⟩) (c41 : PySem.W.codeIn K cd41 "Keeper.bar_deed" = true) (k41 : PySem.W.keepIn K (.ref f41) = true) (t41 : PySem.W.isFn K (.ref f41) = true)
    (a42 : PySem.W.findIn K (.ref C_Keeper) "pair_next" = some (some (.ref f42))) (l42 : K.lookup f42 = some ⟨o42, od42, .func (PySem.W.fnOf "pair_next" "Keeper.pair_next" (defArgs st_Keeper_pair_next_) (defBody st_Keeper_pair_next_) (defScope st_Keeper_pair_next_) .none kV42 dc42 pm42 an42 cd42 ct42), sl42⟩) (c42 : PySem.W.codeIn K cd42 "Keeper.pair_next" = true) (k42 : PySem.W.keepIn K (.ref f42) = true) (t42 : PySem.W.isFn K (.ref f42) = true)
    (a43 : PySem.W.findIn K (.ref C_Keeper) "note" = some (some (.ref f43))) (l43 : K.lookup f43 = some ⟨o43, od43, .func (PySem.W.fnOf "note" "Keeper.note" (defArgs st_Keeper_note_) (defBody st_Keeper_note_) (defScope st_Keeper_note_) .none kV43 dc43 pm43 an43 cd43 ct43), sl43⟩) (c43 : PySem.W.codeIn K cd43 "Keeper.note" = true) (k43 : PySem.W.keepIn K (.ref f43) = true) (t43 : PySem.W.isFn K (.ref f43) = true)
    (a44 : PySem.W.findIn K (.ref C_Court) "note" = some (some (.ref f44))) (l44 : K.lookup f44 = some ⟨o44, od44, .func (PySem.W.fnOf "note" "Court.note" (defArgs st_Court_note_) (defBody st_Court_note_) (defScope st_Court_note_) .none kV44 dc44 pm44 an44 cd44 ct44), sl44⟩) (c44 : PySem.W.codeIn K cd44 "Court.note" = true) (k44 : PySem.W.keepIn K (.ref f44) = true) (t44 : PySem.W.isFn K (.ref f44) = true)
    (a45 : PySem.W.findIn K (.ref C_Keeper) "history" = some (some (.ref f45))) (l45 : K.lookup f45 = some ⟨o45, od45, .func (PySem.W.fnOf "history" "Keeper.history" (defArgs st_Keeper_history_) (defBody st_Keeper_history_) (defScope st_Keeper_history_) .none kV45 dc45 pm45 an45 cd45 ct45), sl45⟩) (c45 : PySem.W.codeIn K cd45 "Keeper.history" = true) (k45 : PySem.W.keepIn K (.ref f45) = true) (t45 : PySem.W.isFn K (.ref f45) = true)
    (a46 : PySem.W.findIn K (.ref C_Court) "history" = some (some (.ref f46))) (l46 : K.lookup f46 = some ⟨o46, od46, .func (PySem.W.fnOf "history" "Court.history" (defArgs st_Court_history_) (defBody st_Court_history_) (defScope st_Court_history_) .none kV46 dc46 pm46 an46 cd46 ct46), sl46⟩) (c46 : PySem.W.codeIn K cd46 "Court.history" = true) (k46 : PySem.W.keepIn K (.ref f46) = true) (t46 : PySem.W.isFn K (.ref f46) = true)
    (a47 : PySem.W.findIn K (.ref C_Keeper) "now" = some (some (.ref f47))) (l47 : K.lookup f47 = some ⟨o47, od47, .func (PySem.W.fnOf "now" "Keeper.now" (defArgs st_Keeper_now_) (defBody st_Keeper_now_) (defScope st_Keeper_now_) .none kV47 dc47 pm47 an47 cd47 ct47), sl47⟩) (c47 : PySem.W.codeIn K cd47 "Keeper.now" = true) (k47 : PySem.W.keepIn K (.ref f47) = true) (t47 : PySem.W.isFn K (.ref f47) = true)
    (a48 : PySem.W.findIn K (.ref C_Court) "now" = some (some (.ref f48))) (l48 : K.lookup f48 = some ⟨o48, od48, .func (PySem.W.fnOf "now" "Court.now" (defArgs st_Court_now_) (defBody st_Court_now_) (defScope st_Court_now_) .none kV48 dc48 pm48 an48 cd48 ct48), sl48⟩) (c48 : PySem.W.codeIn K cd48 "Court.now" = true) (k48 : PySem.W.keepIn K (.ref f48) = true) (t48 : PySem.W.isFn K (.ref f48) = true)
    (a49 : PySem.W.findIn K (.ref C_Keeper) "pair" = some (some (.ref f49))) (l49 : K.lookup f49 = some ⟨o49, od49, .func (PySem.W.fnOf "pair" "Keeper.pair" (defArgs st_Keeper_pair_) (defBody st_Keeper_pair_) (defScope st_Keeper_pair_) .none kV49 dc49 pm49 an49 cd49 ct49), sl49⟩) (c49 : PySem.W.codeIn K cd49 "Keeper.pair" = true) (k49 : PySem.W.keepIn K (.ref f49) = true) (t49 : PySem.W.isFn K (.ref f49) = true)
    (a50 : PySem.W.findIn K (.ref C_Court) "kept" = some (some (.ref f50))) (l50 : K.lookup f50 = some ⟨o50, od50, .func (PySem.W.fnOf "kept" "Court.kept" (defArgs st_Court_kept_) (defBody st_Court_kept_) (defScope st_Court_kept_) .none kV50 dc50 pm50 an50 cd50 ct50), sl50⟩) (c50 : PySem.W.codeIn K cd50 "Court.kept" = true) (k50 : PySem.W.keepIn K (.ref f50) = true) (t50 : PySem.W.isFn K (.ref f50) = true)
    (a51 : PySem.W.nsIn K mainGlobals "law" = some (some (.ref f51))) (l51 : K.lookup f51 = some ⟨o51, od51, .func (PySem.W.fnOf "law" "law" (defArgs st_law_) (defBody st_law_) (defScope st_law_) .none kV51 dc51 pm51 an51 cd51 ct51), sl51⟩) (c51 : PySem.W.codeIn K cd51 "law" = true) (k51 : PySem.W.keepIn K (.ref f51) = true)
    (aC_Keeper : PySem.W.nsIn K mainGlobals "Keeper" = some (some (.ref C_Keeper))) (oc0_Keeper : PySem.W.plainGet K C_Keeper Str.empty = true) (oc1_Keeper : PySem.W.hasDictIn K C_Keeper = true) (oc2_Keeper : PySem.W.plainOver K C_Keeper = true) (oc3_Keeper : PySem.W.findIn K (.ref C_Keeper) "__setattr__" = some (some (.builtin "object.__setattr__")))
    (mk0_Keeper : PySem.W.makesIn K C_Keeper = true) (mk1_Keeper : PySem.W.keepIn K (.ref C_Keeper) = true)
    (aC_NetRun : PySem.W.nsIn K mainGlobals "NetRun" = some (some (.ref C_NetRun))) (oc0_NetRun : PySem.W.plainGet K C_NetRun Str.empty = true) (oc1_NetRun : PySem.W.hasDictIn K C_NetRun = true) (oc2_NetRun : PySem.W.plainOver K C_NetRun = true) (oc3_NetRun : PySem.W.findIn K (.ref C_NetRun) "__setattr__" = some (some (.builtin "object.__setattr__")))
    (mk0_NetRun : PySem.W.makesIn K C_NetRun = true) (mk1_NetRun : PySem.W.keepIn K (.ref C_NetRun) = true)
    (aC_Court : PySem.W.nsIn K mainGlobals "Court" = some (some (.ref C_Court))) (oc0_Court : PySem.W.plainGet K C_Court Str.empty = true) (oc1_Court : PySem.W.hasDictIn K C_Court = true) (oc2_Court : PySem.W.plainOver K C_Court = true) (oc3_Court : PySem.W.findIn K (.ref C_Court) "__setattr__" = some (some (.builtin "object.__setattr__")))
    (mk0_Court : PySem.W.makesIn K C_Court = true) (mk1_Court : PySem.W.keepIn K (.ref C_Court) = true)
    (na_Court_head_0 : PySem.W.findIn K (.ref C_Court) "head" = some none)
    (na_Court_keeper_0 : PySem.W.findIn K (.ref C_Court) "keeper" = some none)
    (na_Court_rows_0 : PySem.W.findIn K (.ref C_Court) "rows" = some none)
    (na_Court_run_0 : PySem.W.findIn K (.ref C_Court) "run" = some none)
    (na_Court_walking_0 : PySem.W.findIn K (.ref C_Court) "walking" = some none)
    (na_Keeper_at_field_0 : PySem.W.findIn K (.ref C_Keeper) "at_field" = some none)
    (na_Keeper_events_0 : PySem.W.findIn K (.ref C_Keeper) "events" = some none)
    (na_Keeper_last_at_0 : PySem.W.findIn K (.ref C_Keeper) "last_at" = some none)
    (na_Keeper_pairs_0 : PySem.W.findIn K (.ref C_Keeper) "pairs" = some none)
    (na_NetRun_age_0 : PySem.W.findIn K (.ref C_NetRun) "age" = some none)
    (na_NetRun_most_0 : PySem.W.findIn K (.ref C_NetRun) "most" = some none)
    (na_NetRun_net_0 : PySem.W.findIn K (.ref C_NetRun) "net" = some none)
    (na_NetRun_state_0 : PySem.W.findIn K (.ref C_NetRun) "state" = some none)
    (na_NetRun_turns_0 : PySem.W.findIn K (.ref C_NetRun) "turns" = some none)
    (na_NetRun_wires_up_0 : PySem.W.findIn K (.ref C_NetRun) "wires_up" = some none)
    (aC_NoEvent : PySem.W.nsIn K mainGlobals "NoEvent" = some (some (.ref C_NoEvent)))
    (aC_NoHouse : PySem.W.nsIn K mainGlobals "NoHouse" = some (some (.ref C_NoHouse)))
    (aC_NoLink : PySem.W.nsIn K mainGlobals "NoLink" = some (some (.ref C_NoLink)))
    (aC_NoNumber : PySem.W.nsIn K mainGlobals "NoNumber" = some (some (.ref C_NoNumber)))
    (T_NoEvent : OexC K C_NoEvent) (iC_NoEvent : PySem.W.findIn K (.ref C_NoEvent) "__init__" = some (some (.ref fI_NoEvent))) (tI_NoEvent : PySem.W.typeIn K (.ref fI_NoEvent) = some (.type "function")) (lI_NoEvent : K.lookup fI_NoEvent = some ⟨oI_NoEvent, odI_NoEvent, .func (PySem.W.fnOf "__init__" "NoEvent.__init__" (defArgs st_i_NoEvent) (defBody st_i_NoEvent) (defScope st_i_NoEvent) .none kVI_NoEvent dcI_NoEvent pmI_NoEvent anI_NoEvent cdI_NoEvent ctI_NoEvent), slI_NoEvent⟩) (cI_NoEvent : PySem.W.codeIn K cdI_NoEvent "NoEvent.__init__" = true) (kI_NoEvent : PySem.W.keepIn K (.ref fI_NoEvent) = true) (nC_NoEvent_0 : PySem.W.findIn K (.ref C_NoEvent) "word" = some none) (nC_NoEvent_1 : PySem.W.findIn K (.ref C_NoEvent) "at" = some none)
    (T_NoHouse : OexL K C_NoHouse) (iC_NoHouse : PySem.W.findIn K (.ref C_NoHouse) "__init__" = some (some (.ref fI_NoHouse))) (tI_NoHouse : PySem.W.typeIn K (.ref fI_NoHouse) = some (.type "function")) (lI_NoHouse : K.lookup fI_NoHouse = some ⟨oI_NoHouse, odI_NoHouse, .func (PySem.W.fnOf "__init__" "NoHouse.__init__" (defArgs st_i_NoHouse) (defBody st_i_NoHouse) (defScope st_i_NoHouse) .none kVI_NoHouse dcI_NoHouse pmI_NoHouse anI_NoHouse cdI_NoHouse ctI_NoHouse), slI_NoHouse⟩) (cI_NoHouse : PySem.W.codeIn K cdI_NoHouse "NoHouse.__init__" = true) (kI_NoHouse : PySem.W.keepIn K (.ref fI_NoHouse) = true) (nC_NoHouse_0 : PySem.W.findIn K (.ref C_NoHouse) "name" = some none)
    (T_NoLink : OexL K C_NoLink) (iC_NoLink : PySem.W.findIn K (.ref C_NoLink) "__init__" = some (some (.ref fI_NoLink))) (tI_NoLink : PySem.W.typeIn K (.ref fI_NoLink) = some (.type "function")) (lI_NoLink : K.lookup fI_NoLink = some ⟨oI_NoLink, odI_NoLink, .func (PySem.W.fnOf "__init__" "NoLink.__init__" (defArgs st_i_NoLink) (defBody st_i_NoLink) (defScope st_i_NoLink) .none kVI_NoLink dcI_NoLink pmI_NoLink anI_NoLink cdI_NoLink ctI_NoLink), slI_NoLink⟩) (cI_NoLink : PySem.W.codeIn K cdI_NoLink "NoLink.__init__" = true) (kI_NoLink : PySem.W.keepIn K (.ref fI_NoLink) = true) (nC_NoLink_0 : PySem.W.findIn K (.ref C_NoLink) "number" = some none)
    (T_NoNumber : OexL K C_NoNumber) (iC_NoNumber : PySem.W.findIn K (.ref C_NoNumber) "__init__" = some (some (.ref fI_NoNumber))) (tI_NoNumber : PySem.W.typeIn K (.ref fI_NoNumber) = some (.type "function")) (lI_NoNumber : K.lookup fI_NoNumber = some ⟨oI_NoNumber, odI_NoNumber, .func (PySem.W.fnOf "__init__" "NoNumber.__init__" (defArgs st_i_NoNumber) (defBody st_i_NoNumber) (defScope st_i_NoNumber) .none kVI_NoNumber dcI_NoNumber pmI_NoNumber anI_NoNumber cdI_NoNumber ctI_NoNumber), slI_NoNumber⟩) (cI_NoNumber : PySem.W.codeIn K cdI_NoNumber "NoNumber.__init__" = true) (kI_NoNumber : PySem.W.keepIn K (.ref fI_NoNumber) = true) (nC_NoNumber_0 : PySem.W.findIn K (.ref C_NoNumber) "number" = some none)
    (z_abs : PySem.W.nsIn K mainGlobals "abs" = some none) (z_tuple : PySem.W.nsIn K mainGlobals "tuple" = some none) (z_len : PySem.W.nsIn K mainGlobals "len" = some none) (z_range : PySem.W.nsIn K mainGlobals "range" = some none) (z_sorted : PySem.W.nsIn K mainGlobals "sorted" = some none) (z_enumerate : PySem.W.nsIn K mainGlobals "enumerate" = some none) (z_dict : PySem.W.nsIn K mainGlobals "dict" = some none) (z_repr : PySem.W.nsIn K mainGlobals "repr" = some none) :
    ∃ fd : FuncData, (∀ (s : Shared) (v : Value), BindsTo s fd ⟨[v], []⟩ [("_law_script", v)]) ∧ ∀ base : Heap, K.In base → base.Ns mainGlobals mg → FnG l.prog w K mg base 11 fa fd ["_law_script"] (@spA (TC K) K 1 law_) := by
  have e := hfa.symm.trans (PySem.W.mg_of X G a51)
  cases e
  have F0 := fun_mk (st := st_common_divisor_) l0 c0 k0
  have g0 := PySem.W.mg_of X G a0
  have b0 := F0.binds (ps := ["a", "b"]) fun _ _ _ _ _ _ us hl => match us, hl with | [_, _], _ => rfl
  have F1 := fun_mk (st := st_ratio_) l1 c1 k1
  have g1 := PySem.W.mg_of X G a1
  have b1 := F1.binds (ps := ["a", "b"]) fun _ _ _ _ _ _ us hl => match us, hl with | [_, _], _ => rfl
  have F2 := fun_mk (st := st_added_) l2 c2 k2
  have g2 := PySem.W.mg_of X G a2
  have b2 := F2.binds (ps := ["one", "other"]) fun _ _ _ _ _ _ us hl => match us, hl with | [_, _], _ => rfl
  have F3 := fun_mk (st := st_added_told_) l3 c3 k3
  have g3 := PySem.W.mg_of X G a3
  have b3 := F3.binds (ps := ["one", "other"]) fun _ _ _ _ _ _ us hl => match us, hl with | [_, _], _ => rfl
  have F4 := fun_mk (st := st_less_) l4 c4 k4
  have g4 := PySem.W.mg_of X G a4
  have b4 := F4.binds (ps := ["one", "other"]) fun _ _ _ _ _ _ us hl => match us, hl with | [_, _], _ => rfl
  have F5 := fun_mk (st := st_parted_) l5 c5 k5
  have g5 := PySem.W.mg_of X G a5
  have b5 := F5.binds (ps := ["one", "other"]) fun _ _ _ _ _ _ us hl => match us, hl with | [_, _], _ => rfl
  have F6 := fun_mk (st := st_is_below_) l6 c6 k6
  have g6 := PySem.W.mg_of X G a6
  have b6 := F6.binds (ps := ["one", "other"]) fun _ _ _ _ _ _ us hl => match us, hl with | [_, _], _ => rfl
  have F7 := fun_mk (st := st_least_of_) l7 c7 k7
  have g7 := PySem.W.mg_of X G a7
  have b7 := F7.binds (ps := ["fractions"]) fun _ _ _ _ _ _ us hl => match us, hl with | [_], _ => rfl
  have F8 := fun_mk (st := st_greatest_of_) l8 c8 k8
  have g8 := PySem.W.mg_of X G a8
  have b8 := F8.binds (ps := ["fractions"]) fun _ _ _ _ _ _ us hl => match us, hl with | [_], _ => rfl
  have F9 := fun_mk (st := st_drift_of_) l9 c9 k9
  have g9 := PySem.W.mg_of X G a9
  have b9 := F9.binds (ps := ["field", "name"]) fun _ _ _ _ _ _ us hl => match us, hl with | [_, _], _ => rfl
  have F10 := fun_mk (st := st_moves_into_) l10 c10 k10
  have g10 := PySem.W.mg_of X G a10
  have b10 := F10.binds (ps := ["field", "events", "last", "event"]) fun _ _ _ _ _ _ us hl => match us, hl with | [_, _, _, _], _ => rfl
  have F11 := fun_mk (st := st_moved_end_) l11 c11 k11
  have g11 := PySem.W.mg_of X G a11
  have b11 := F11.binds (ps := ["move", "pairs", "side"]) fun _ _ _ _ _ _ us hl => match us, hl with | [_, _, _], _ => rfl
  have F12 := fun_mk (st := st_ends_told_) l12 c12 k12
  have g12 := PySem.W.mg_of X G a12
  have b12 := F12.binds (ps := ["moves", "pairs", "side"]) fun _ _ _ _ _ _ us hl => match us, hl with | [_, _, _], _ => rfl
  have F13 := fun_mk (st := st_kept_pair_) l13 c13 k13
  have g13 := PySem.W.mg_of X G a13
  have b13 := F13.binds (ps := ["field", "event", "moves", "pairs"]) fun _ _ _ _ _ _ us hl => match us, hl with | [_, _, _, _], _ => rfl
  have F14 := fun_mk (st := st_own_best_) l14 c14 k14
  have g14 := PySem.W.mg_of X G a14
  have b14 := F14.binds (ps := ["member"]) fun _ _ _ _ _ _ us hl => match us, hl with | [_], _ => rfl
  have F15 := fun_mk (st := st_first_state_) l15 c15 k15
  have g15 := PySem.W.mg_of X G a15
  have b15 := F15.binds (ps := ["net"]) fun _ _ _ _ _ _ us hl => match us, hl with | [_], _ => rfl
  have F16 := fun_mk (st := st_feedL_) l16 c16 k16
  have g16 := PySem.W.mg_of X G a16
  have b16 := F16.binds (ps := ["_law_script"]) fun _ _ _ _ _ _ us hl => match us, hl with | [_], _ => rfl
  have F17 := fun_mk (st := st_drawL_) l17 c17 k17
  have g17 := PySem.W.mg_of X G a17
  have b17 := F17.binds (ps := ["_law_feed_here", "_law_bound"]) fun _ _ _ _ _ _ us hl => match us, hl with | [_, _], _ => rfl
  have F18 := fun_mk (st := st_fracL_) l18 c18 k18
  have g18 := PySem.W.mg_of X G a18
  have b18 := F18.binds (ps := ["_law_a", "_law_b"]) fun _ _ _ _ _ _ us hl => match us, hl with | [_, _], _ => rfl
  have F19 := fun_mk (st := st_addL_) l19 c19 k19
  have g19 := PySem.W.mg_of X G a19
  have b19 := F19.binds (ps := ["_law_one", "_law_other"]) fun _ _ _ _ _ _ us hl => match us, hl with | [_, _], _ => rfl
  have F20 := fun_mk (st := st_mulL_) l20 c20 k20
  have g20 := PySem.W.mg_of X G a20
  have b20 := F20.binds (ps := ["_law_one", "_law_other"]) fun _ _ _ _ _ _ us hl => match us, hl with | [_, _], _ => rfl
  have F21 := fun_mk (st := st_minusL_) l21 c21 k21
  have g21 := PySem.W.mg_of X G a21
  have b21 := F21.binds (ps := ["_law_one"]) fun _ _ _ _ _ _ us hl => match us, hl with | [_], _ => rfl
  have F22 := fun_mk (st := st_is_lessL_) l22 c22 k22
  have g22 := PySem.W.mg_of X G a22
  have b22 := F22.binds (ps := ["_law_one", "_law_other"]) fun _ _ _ _ _ _ us hl => match us, hl with | [_, _], _ => rfl
  have F23 := fun_mk (st := st_fieldL_) l23 c23 k23
  have g23 := PySem.W.mg_of X G a23
  have b23 := F23.binds (ps := ["_law_feed_here"]) fun _ _ _ _ _ _ us hl => match us, hl with | [_], _ => rfl
  have F24 := fun_mk (st := st_clocksL_) l24 c24 k24
  have g24 := PySem.W.mg_of X G a24
  have b24 := F24.binds (ps := ["_law_feed_here", "_law_field_here"]) fun _ _ _ _ _ _ us hl => match us, hl with | [_, _], _ => rfl
  have F25 := fun_mk (st := st_stampL_) l25 c25 k25
  have g25 := PySem.W.mg_of X G a25
  have b25 := F25.binds (ps := ["_law_clocks_here", "_law_name", "_law_time"]) fun _ _ _ _ _ _ us hl => match us, hl with | [_, _, _], _ => rfl
  have F26 := fun_mk (st := st_can_hearL_) l26 c26 k26
  have g26 := PySem.W.mg_of X G a26
  have b26 := F26.binds (ps := ["_law_field_here", "_law_notes", "_law_moments", "_law_name", "_law_time"]) fun _ _ _ _ _ _ us hl => match us, hl with | [_, _, _, _, _], _ => rfl
  have F27 := fun_mk (st := st_storyL_) l27 c27 k27
  have g27 := PySem.W.mg_of X G a27
  have b27 := F27.binds (ps := ["_law_feed_here", "_law_field_here", "_law_bound"]) fun _ _ _ _ _ _ us hl => match us, hl with | [_, _, _], _ => rfl
  have F28 := fun_mk (st := st_netL_) l28 c28 k28
  have g28 := PySem.W.mg_of X G a28
  have b28 := F28.binds (ps := ["_law_feed_here"]) fun _ _ _ _ _ _ us hl => match us, hl with | [_], _ => rfl
  have F29 := fun_mk (st := st_Keeper_init_) l29 c29 k29
  have b29 := F29.binds (ps := ["self", "field"]) fun _ _ _ _ _ _ us hl => match us, hl with | [_, _], _ => rfl
  have F30 := fun_mk (st := st_NetRun_init_) l30 c30 k30
  obtain ⟨y30_most, r30_most, z30_most⟩ := x30_most
  obtain ⟨y30_age, r30_age, z30_age⟩ := x30_age
  have FD30 := fund_mk (x := "__init__") (qual := "NetRun.__init__") (st := st_NetRun_init_) (kws := [("most", y30_most), ("age", y30_age)]) l30 c30 k30 (fun q hq => by simp only [List.mem_cons, List.not_mem_nil, or_false] at hq; rcases hq with rfl | rfl; exact ⟨_, q30_most, r30_most⟩; exact ⟨_, q30_age, r30_age⟩)
  have F31 := fun_mk (st := st_Court_init_) l31 c31 k31
  obtain ⟨y31_most, r31_most, z31_most⟩ := x31_most
  obtain ⟨y31_age, r31_age, z31_age⟩ := x31_age
  have FD31 := fund_mk (x := "__init__") (qual := "Court.__init__") (st := st_Court_init_) (kws := [("most", y31_most), ("age", y31_age)]) l31 c31 k31 (fun q hq => by simp only [List.mem_cons, List.not_mem_nil, or_false] at hq; rcases hq with rfl | rfl; exact ⟨_, q31_most, r31_most⟩; exact ⟨_, q31_age, r31_age⟩)
  have F32 := fun_mk (st := st_openedL_) l32 c32 k32
  have g32 := PySem.W.mg_of X G a32
  have b32 := F32.binds (ps := ["_law_feed_here", "_law_field_here", "_law_net_here"]) fun _ _ _ _ _ _ us hl => match us, hl with | [_, _, _], _ => rfl
  have F33 := fun_mk (st := st_partL_) l33 c33 k33
  have g33 := PySem.W.mg_of X G a33
  have b33 := F33.binds (ps := ["_law_one", "_law_other"]) fun _ _ _ _ _ _ us hl => match us, hl with | [_, _], _ => rfl
  have F34 := fun_mk (st := st_grownL_) l34 c34 k34
  have g34 := PySem.W.mg_of X G a34
  have b34 := F34.binds (ps := ["_law_pair", "_law_stamp_here", "_law_elder", "_law_home"]) fun _ _ _ _ _ _ us hl => match us, hl with | [_, _, _, _], _ => rfl
  have F35 := fun_mk (st := st_narrowedL_) l35 c35 k35
  have g35 := PySem.W.mg_of X G a35
  have b35 := F35.binds (ps := ["_law_pair", "_law_other", "_law_way"]) fun _ _ _ _ _ _ us hl => match us, hl with | [_, _, _], _ => rfl
  have F36 := fun_mk (st := st_keptL_) l36 c36 k36
  have g36 := PySem.W.mg_of X G a36
  have b36 := F36.binds (ps := ["_law_field_here", "_law_notes"]) fun _ _ _ _ _ _ us hl => match us, hl with | [_, _], _ => rfl
  have F37 := fun_mk (st := st_Keeper_bar_place_) l37 c37 k37
  have b37 := F37.binds (ps := ["self", "house", "stamp"]) fun _ _ _ _ _ _ us hl => match us, hl with | [_, _, _], _ => rfl
  have F38 := fun_mk (st := st_Keeper_bar_send_) l38 c38 k38
  have b38 := F38.binds (ps := ["self", "house", "link"]) fun _ _ _ _ _ _ us hl => match us, hl with | [_, _, _], _ => rfl
  have F39 := fun_mk (st := st_Keeper_bar_number_) l39 c39 k39
  have b39 := F39.binds (ps := ["self", "number"]) fun _ _ _ _ _ _ us hl => match us, hl with | [_, _], _ => rfl
  have F40 := fun_mk (st := st_Keeper_bar_hear_) l40 c40 k40
  have b40 := F40.binds (ps := ["self", "house", "number"]) fun _ _ _ _ _ _ us hl => match us, hl with | [_, _, _], _ => rfl
  have F41 := fun_mk (st := st_Keeper_bar_deed_) l41 c41 k41
  have b41 := F41.binds (ps := ["self", "house", "deed"]) fun _ _ _ _ _ _ us hl => match us, hl with | [_, _, _], _ => rfl
  have F42 := fun_mk (st := st_Keeper_pair_next_) l42 c42 k42
  have b42 := F42.binds (ps := ["self", "event"]) fun _ _ _ _ _ _ us hl => match us, hl with | [_, _], _ => rfl
  have F43 := fun_mk (st := st_Keeper_note_) l43 c43 k43
  have b43 := F43.binds (ps := ["self", "house", "stamp", "deed"]) fun _ _ _ _ _ _ us hl => match us, hl with | [_, _, _, _], _ => rfl
  have F44 := fun_mk (st := st_Court_note_) l44 c44 k44
  have b44 := F44.binds (ps := ["self", "house", "stamp", "deed"]) fun _ _ _ _ _ _ us hl => match us, hl with | [_, _, _, _], _ => rfl
  have F45 := fun_mk (st := st_Keeper_history_) l45 c45 k45
  have b45 := F45.binds (ps := ["self"]) fun _ _ _ _ _ _ us hl => match us, hl with | [_], _ => rfl
  have F46 := fun_mk (st := st_Court_history_) l46 c46 k46
  have b46 := F46.binds (ps := ["self"]) fun _ _ _ _ _ _ us hl => match us, hl with | [_], _ => rfl
  have F47 := fun_mk (st := st_Keeper_now_) l47 c47 k47
  have b47 := F47.binds (ps := ["self", "house", "stamp"]) fun _ _ _ _ _ _ us hl => match us, hl with | [_, _, _], _ => rfl
  have F48 := fun_mk (st := st_Court_now_) l48 c48 k48
  have b48 := F48.binds (ps := ["self", "house", "stamp"]) fun _ _ _ _ _ _ us hl => match us, hl with | [_, _, _], _ => rfl
  have F49 := fun_mk (st := st_Keeper_pair_) l49 c49 k49
  have b49 := F49.binds (ps := ["self", "number"]) fun _ _ _ _ _ _ us hl => match us, hl with | [_, _], _ => rfl
  have F50 := fun_mk (st := st_Court_kept_) l50 c50 k50
  have b50 := F50.binds (ps := ["self", "number"]) fun _ _ _ _ _ _ us hl => match us, hl with | [_, _], _ => rfl
  have F51 := fun_mk (st := st_law_) l51 c51 k51
  have gC_Keeper := PySem.W.mg_of X G aC_Keeper
  have gC_NetRun := PySem.W.mg_of X G aC_NetRun
  have gC_Court := PySem.W.mg_of X G aC_Court
  have gC_NoEvent := PySem.W.mg_of X G aC_NoEvent
  have gC_NoHouse := PySem.W.mg_of X G aC_NoHouse
  have gC_NoLink := PySem.W.mg_of X G aC_NoLink
  have gC_NoNumber := PySem.W.mg_of X G aC_NoNumber
  have FI_NoEvent := fun_mk (st := st_i_NoEvent) lI_NoEvent cI_NoEvent kI_NoEvent
  have bI_NoEvent := FI_NoEvent.binds (ps := ["self", "word", "at"]) fun _ _ _ _ _ _ us hl => match us, hl with | [_, _, _], _ => rfl
  have FI_NoHouse := fun_mk (st := st_i_NoHouse) lI_NoHouse cI_NoHouse kI_NoHouse
  have bI_NoHouse := FI_NoHouse.binds (ps := ["self", "name"]) fun _ _ _ _ _ _ us hl => match us, hl with | [_, _], _ => rfl
  have FI_NoLink := fun_mk (st := st_i_NoLink) lI_NoLink cI_NoLink kI_NoLink
  have bI_NoLink := FI_NoLink.binds (ps := ["self", "number"]) fun _ _ _ _ _ _ us hl => match us, hl with | [_, _], _ => rfl
  have FI_NoNumber := fun_mk (st := st_i_NoNumber) lI_NoNumber cI_NoNumber kI_NoNumber
  have bI_NoNumber := FI_NoNumber.binds (ps := ["self", "number"]) fun _ _ _ _ _ _ us hl => match us, hl with | [_, _], _ => rfl
  have m_abs := PySem.W.mg_none_of X G z_abs
  have m_tuple := PySem.W.mg_none_of X G z_tuple
  have m_len := PySem.W.mg_none_of X G z_len
  have m_range := PySem.W.mg_none_of X G z_range
  have m_sorted := PySem.W.mg_none_of X G z_sorted
  have m_enumerate := PySem.W.mg_none_of X G z_enumerate
  have m_dict := PySem.W.mg_none_of X G z_dict
  have m_repr := PySem.W.mg_none_of X G z_repr
  letI : AL.TT := TC K
  refine ⟨PySem.W.fnOf "law" "law" (defArgs st_law_) (defBody st_law_) (defScope st_law_) .none kV51 dc51 pm51 an51 cd51 ct51, fun s v => .of_eq rfl, fun base _ _ => ?_⟩
  have tc_Keeper : AL.TT.cls "Keeper" = C_Keeper := clsK_at aC_Keeper
  have oc_Keeper : Cls K (AL.TT.cls "Keeper") := by rw [tc_Keeper]; exact ⟨oc0_Keeper, oc1_Keeper, oc2_Keeper, oc3_Keeper⟩
  have tc_NetRun : AL.TT.cls "NetRun" = C_NetRun := clsK_at aC_NetRun
  have oc_NetRun : Cls K (AL.TT.cls "NetRun") := by rw [tc_NetRun]; exact ⟨oc0_NetRun, oc1_NetRun, oc2_NetRun, oc3_NetRun⟩
  have tc_Court : AL.TT.cls "Court" = C_Court := clsK_at aC_Court
  have oc_Court : Cls K (AL.TT.cls "Court") := by rw [tc_Court]; exact ⟨oc0_Court, oc1_Court, oc2_Court, oc3_Court⟩
  have na_Court_head : NoAttr K (AL.TT.cls "Court") "head" := by rw [tc_Court]; exact na_Court_head_0
  have na_Court_keeper : NoAttr K (AL.TT.cls "Court") "keeper" := by rw [tc_Court]; exact na_Court_keeper_0
  have na_Court_rows : NoAttr K (AL.TT.cls "Court") "rows" := by rw [tc_Court]; exact na_Court_rows_0
  have na_Court_run : NoAttr K (AL.TT.cls "Court") "run" := by rw [tc_Court]; exact na_Court_run_0
  have na_Court_walking : NoAttr K (AL.TT.cls "Court") "walking" := by rw [tc_Court]; exact na_Court_walking_0
  have na_Keeper_at_field : NoAttr K (AL.TT.cls "Keeper") "at_field" := by rw [tc_Keeper]; exact na_Keeper_at_field_0
  have na_Keeper_events : NoAttr K (AL.TT.cls "Keeper") "events" := by rw [tc_Keeper]; exact na_Keeper_events_0
  have na_Keeper_last_at : NoAttr K (AL.TT.cls "Keeper") "last_at" := by rw [tc_Keeper]; exact na_Keeper_last_at_0
  have na_Keeper_pairs : NoAttr K (AL.TT.cls "Keeper") "pairs" := by rw [tc_Keeper]; exact na_Keeper_pairs_0
  have na_NetRun_age : NoAttr K (AL.TT.cls "NetRun") "age" := by rw [tc_NetRun]; exact na_NetRun_age_0
  have na_NetRun_most : NoAttr K (AL.TT.cls "NetRun") "most" := by rw [tc_NetRun]; exact na_NetRun_most_0
  have na_NetRun_net : NoAttr K (AL.TT.cls "NetRun") "net" := by rw [tc_NetRun]; exact na_NetRun_net_0
  have na_NetRun_state : NoAttr K (AL.TT.cls "NetRun") "state" := by rw [tc_NetRun]; exact na_NetRun_state_0
  have na_NetRun_turns : NoAttr K (AL.TT.cls "NetRun") "turns" := by rw [tc_NetRun]; exact na_NetRun_turns_0
  have na_NetRun_wires_up : NoAttr K (AL.TT.cls "NetRun") "wires_up" := by rw [tc_NetRun]; exact na_NetRun_wires_up_0
  have x_NoEvent : KnX l.prog w K mg base "NoEvent" := kn_NoEvent T_NoEvent iC_NoEvent tI_NoEvent gC_NoEvent FI_NoEvent bI_NoEvent nC_NoEvent_0 nC_NoEvent_1
  have x_NoHouse : KnX l.prog w K mg base "NoHouse" := kn_NoHouse T_NoHouse iC_NoHouse tI_NoHouse gC_NoHouse FI_NoHouse bI_NoHouse nC_NoHouse_0
  have x_NoLink : KnX l.prog w K mg base "NoLink" := kn_NoLink T_NoLink iC_NoLink tI_NoLink gC_NoLink FI_NoLink bI_NoLink nC_NoLink_0
  have x_NoNumber : KnX l.prog w K mg base "NoNumber" := kn_NoNumber T_NoNumber iC_NoNumber tI_NoNumber gC_NoNumber FI_NoNumber bI_NoNumber nC_NoNumber_0
  have d_common_divisor_ : Def l.prog w K mg base 1 "common_divisor" ["a", "b"] common_divisor_ := ok_common_divisor_ F0 b0 g0 m_abs
  have d_ratio_ : Def l.prog w K mg base 2 "ratio" ["a", "b"] ratio_ := ok_ratio_ F1 b1 g1 d_common_divisor_
  have d_added_ : Def l.prog w K mg base 3 "added" ["one", "other"] added_ := ok_added_ F2 b2 g2 d_ratio_
  have d_added_told_ : Def l.prog w K mg base 4 "added_told" ["one", "other"] added_told_ := ok_added_told_ F3 b3 g3 d_added_
  have d_less_ : Def l.prog w K mg base 3 "less" ["one", "other"] less_ := ok_less_ F4 b4 g4 d_ratio_
  have d_parted_ : Def l.prog w K mg base 3 "parted" ["one", "other"] parted_ := ok_parted_ F5 b5 g5 d_ratio_
  have d_is_below_ : Def l.prog w K mg base 1 "is_below" ["one", "other"] is_below_ := ok_is_below_ F6 b6 g6
  have d_least_of_ : Def l.prog w K mg base 2 "least_of" ["fractions"] least_of_ := ok_least_of_ F7 b7 g7 d_is_below_
  have d_greatest_of_ : Def l.prog w K mg base 2 "greatest_of" ["fractions"] greatest_of_ := ok_greatest_of_ F8 b8 g8 d_is_below_
  have d_drift_of_ : Def l.prog w K mg base 1 "drift_of" ["field", "name"] drift_of_ := ok_drift_of_ F9 b9 g9
  have d_moves_into_ : Def l.prog w K mg base 4 "moves_into" ["field", "events", "last", "event"] moves_into_ := ok_moves_into_ F10 b10 g10 d_drift_of_ d_less_ d_parted_
  have d_moved_end_ : Def l.prog w K mg base 5 "moved_end" ["move", "pairs", "side"] moved_end_ := ok_moved_end_ F11 b11 g11 d_added_told_
  have d_ends_told_ : Def l.prog w K mg base 6 "ends_told" ["moves", "pairs", "side"] ends_told_ := ok_ends_told_ F12 b12 g12 d_moved_end_
  have d_kept_pair_ : Def l.prog w K mg base 7 "kept_pair" ["field", "event", "moves", "pairs"] kept_pair_ := ok_kept_pair_ F13 b13 g13 d_greatest_of_ d_least_of_ d_ends_told_
  have d_own_best_ : Def l.prog w K mg base 1 "own_best" ["member"] own_best_ := ok_own_best_ F14 b14 g14
  have d_first_state_ : Def l.prog w K mg base 2 "first_state" ["net"] first_state_ := ok_first_state_ F15 b15 g15 d_own_best_ m_tuple
  have d_feedL_ : Def l.prog w K mg base 1 "_law_feed" ["_law_script"] feedL_ := ok_feedL_ F16 b16 g16
  have d_drawL_ : Def l.prog w K mg base 1 "_law_draw" ["_law_feed_here", "_law_bound"] drawL_ := ok_drawL_ F17 b17 g17 m_len
  have d_fracL_ : Def l.prog w K mg base 1 "_law_frac" ["_law_a", "_law_b"] fracL_ := ok_fracL_ F18 b18 g18 m_abs
  have d_addL_ : Def l.prog w K mg base 2 "_law_add" ["_law_one", "_law_other"] addL_ := ok_addL_ F19 b19 g19 d_fracL_
  have d_mulL_ : Def l.prog w K mg base 2 "_law_mul" ["_law_one", "_law_other"] mulL_ := ok_mulL_ F20 b20 g20 d_fracL_
  have d_minusL_ : Def l.prog w K mg base 1 "_law_minus" ["_law_one"] minusL_ := ok_minusL_ F21 b21 g21
  have d_is_lessL_ : Def l.prog w K mg base 1 "_law_is_less" ["_law_one", "_law_other"] is_lessL_ := ok_is_lessL_ F22 b22 g22
  have d_fieldL_ : Def l.prog w K mg base 3 "_law_field" ["_law_feed_here"] fieldL_ := ok_fieldL_ F23 b23 g23 d_drawL_ d_addL_ m_range m_tuple m_sorted m_len
  have d_clocksL_ : Def l.prog w K mg base 2 "_law_clocks" ["_law_feed_here", "_law_field_here"] clocksL_ := ok_clocksL_ F24 b24 g24 d_drawL_
  have d_stampL_ : Def l.prog w K mg base 3 "_law_stamp" ["_law_clocks_here", "_law_name", "_law_time"] stampL_ := ok_stampL_ F25 b25 g25 d_addL_ d_mulL_
  have d_can_hearL_ : Def l.prog w K mg base 3 "_law_can_hear" ["_law_field_here", "_law_notes", "_law_moments", "_law_name", "_law_time"] can_hearL_ := ok_can_hearL_ F26 b26 g26 d_addL_ d_minusL_ d_is_lessL_ m_enumerate
  have d_storyL_ : Def l.prog w K mg base 4 "_law_story" ["_law_feed_here", "_law_field_here", "_law_bound"] storyL_ := ok_storyL_ F27 b27 g27 d_clocksL_ d_addL_ d_can_hearL_ d_drawL_ d_stampL_ m_range m_enumerate m_len
  have d_netL_ : Def l.prog w K mg base 2 "_law_net" ["_law_feed_here"] netL_ := ok_netL_ F28 b28 g28 d_drawL_ m_tuple m_enumerate
  have k_Keeper : Made l.prog w K mg base 1 "Keeper" ["self", "field"] Keeper_init_ := ok_Keeper_init_ F29 b29 (by rw [tc_Keeper]; exact ⟨mk0_Keeper, a29, t29, mk1_Keeper⟩) (by rw [tc_Keeper]; exact gC_Keeper) oc_Keeper na_Keeper_last_at na_Keeper_pairs na_Keeper_events na_Keeper_at_field
  have G_NetRun_init_ := ok_NetRun_init_ (P := l.prog) (w := w) (mg := mg) (base := base) F30 d_first_state_ oc_NetRun na_NetRun_turns na_NetRun_wires_up na_NetRun_state na_NetRun_age na_NetRun_most na_NetRun_net
  have kk_NetRun1_most_age : MadeK l.prog w K mg base 3 "NetRun" 1 ["most", "age"] (fun as bs => as ++ bs) NetRun_init_ := madek_in G_NetRun_init_ (by rw [tc_NetRun]; exact ⟨mk0_NetRun, a30, t30, mk1_NetRun⟩) (by rw [tc_NetRun]; exact gC_NetRun) FD30 (by simp) rfl (fun D doc pm an cdv ct us mv ws l1 l2 l3 => match us, mv, ws, l1, l2, l3 with | [_, _], [], [_, _], _, _, _ => rfl)
  have G_Court_init_ := ok_Court_init_ (P := l.prog) (w := w) (mg := mg) (base := base) F31 k_Keeper kk_NetRun1_most_age oc_Court na_Court_walking na_Court_run na_Court_keeper na_Court_rows na_Court_head
  have kk_Court3_most_age : MadeK l.prog w K mg base 5 "Court" 3 ["most", "age"] (fun as bs => as ++ bs) Court_init_ := madek_in G_Court_init_ (by rw [tc_Court]; exact ⟨mk0_Court, a31, t31, mk1_Court⟩) (by rw [tc_Court]; exact gC_Court) FD31 (by simp) rfl (fun D doc pm an cdv ct us mv ws l1 l2 l3 => match us, mv, ws, l1, l2, l3 with | [_, _, _, _], [], [_, _], _, _, _ => rfl)
  have d_openedL_ : Def l.prog w K mg base 7 "_law_opened" ["_law_feed_here", "_law_field_here", "_law_net_here"] openedL_ := ok_openedL_ F32 b32 g32 d_drawL_ kk_Court3_most_age
  have d_partL_ : Def l.prog w K mg base 2 "_law_part" ["_law_one", "_law_other"] partL_ := ok_partL_ F33 b33 g33 d_fracL_
  have d_grownL_ : Def l.prog w K mg base 3 "_law_grown" ["_law_pair", "_law_stamp_here", "_law_elder", "_law_home"] grownL_ := ok_grownL_ F34 b34 g34 d_addL_ d_minusL_ d_partL_
  have d_narrowedL_ : Def l.prog w K mg base 3 "_law_narrowed" ["_law_pair", "_law_other", "_law_way"] narrowedL_ := ok_narrowedL_ F35 b35 g35 d_addL_ d_is_lessL_
  have d_keptL_ : Def l.prog w K mg base 4 "_law_kept" ["_law_field_here", "_law_notes"] keptL_ := ok_keptL_ F36 b36 g36 d_grownL_ d_narrowedL_ m_dict m_enumerate
  have d_Keeper_bar_place_ : MetX l.prog w K mg base 3 "Keeper" "bar_place" ["self", "house", "stamp"] Keeper_bar_place_ := ok_Keeper_bar_place_ F37 b37 (by rw [tc_Keeper]; exact ⟨a37, t37, k37⟩) oc_Keeper d_drift_of_ d_is_below_ x_NoHouse x_NoEvent oc_Keeper na_Keeper_events na_Keeper_last_at na_Keeper_at_field
  have d_Keeper_bar_send_ : MetX l.prog w K mg base 3 "Keeper" "bar_send" ["self", "house", "link"] Keeper_bar_send_ := ok_Keeper_bar_send_ F38 b38 (by rw [tc_Keeper]; exact ⟨a38, t38, k38⟩) oc_Keeper x_NoLink x_NoEvent oc_Keeper na_Keeper_at_field m_len
  have d_Keeper_bar_number_ : MetX l.prog w K mg base 3 "Keeper" "bar_number" ["self", "number"] Keeper_bar_number_ := ok_Keeper_bar_number_ F39 b39 (by rw [tc_Keeper]; exact ⟨a39, t39, k39⟩) oc_Keeper x_NoNumber oc_Keeper na_Keeper_events m_len
  have d_Keeper_bar_hear_ : MetX l.prog w K mg base 4 "Keeper" "bar_hear" ["self", "house", "number"] Keeper_bar_hear_ := ok_Keeper_bar_hear_ F40 b40 (by rw [tc_Keeper]; exact ⟨a40, t40, k40⟩) oc_Keeper d_Keeper_bar_number_ x_NoEvent oc_Keeper na_Keeper_at_field na_Keeper_events
  have d_Keeper_bar_deed_ : MetX l.prog w K mg base 5 "Keeper" "bar_deed" ["self", "house", "deed"] Keeper_bar_deed_ := ok_Keeper_bar_deed_ F41 b41 (by rw [tc_Keeper]; exact ⟨a41, t41, k41⟩) oc_Keeper d_Keeper_bar_hear_ d_Keeper_bar_send_
  have d_Keeper_pair_next_ : Met l.prog w K mg base 8 "Keeper" "pair_next" ["self", "event"] Keeper_pair_next_ := ok_Keeper_pair_next_ F42 b42 (by rw [tc_Keeper]; exact ⟨a42, t42, k42⟩) oc_Keeper d_moves_into_ d_kept_pair_ oc_Keeper na_Keeper_pairs na_Keeper_at_field na_Keeper_last_at na_Keeper_events
  have d_Keeper_note_ : MetX l.prog w K mg base 9 "Keeper" "note" ["self", "house", "stamp", "deed"] Keeper_note_ := ok_Keeper_note_ F43 b43 (by rw [tc_Keeper]; exact ⟨a43, t43, k43⟩) oc_Keeper d_Keeper_pair_next_ d_Keeper_bar_deed_ d_Keeper_bar_place_ oc_Keeper na_Keeper_last_at na_Keeper_events na_Keeper_pairs m_len
  have d_Court_note_ : MetX l.prog w K mg base 10 "Court" "note" ["self", "house", "stamp", "deed"] Court_note_ := ok_Court_note_ F44 b44 (by rw [tc_Court]; exact ⟨a44, t44, k44⟩) oc_Court d_Keeper_note_ oc_Court na_Court_rows na_Court_keeper
  have n_Court_note_ := d_Court_note_.no
  have d_Keeper_history_ : Met l.prog w K mg base 1 "Keeper" "history" ["self"] Keeper_history_ := ok_Keeper_history_ F45 b45 (by rw [tc_Keeper]; exact ⟨a45, t45, k45⟩) oc_Keeper oc_Keeper na_Keeper_events na_Keeper_at_field m_tuple
  have d_Court_history_ : Met l.prog w K mg base 2 "Court" "history" ["self"] Court_history_ := ok_Court_history_ F46 b46 (by rw [tc_Court]; exact ⟨a46, t46, k46⟩) oc_Court d_Keeper_history_ oc_Court na_Court_keeper
  have d_Keeper_now_ : MetX l.prog w K mg base 9 "Keeper" "now" ["self", "house", "stamp"] Keeper_now_ := ok_Keeper_now_ F47 b47 (by rw [tc_Keeper]; exact ⟨a47, t47, k47⟩) oc_Keeper d_Keeper_pair_next_ d_Keeper_bar_place_
  have d_Court_now_ : MetX l.prog w K mg base 10 "Court" "now" ["self", "house", "stamp"] Court_now_ := ok_Court_now_ F48 b48 (by rw [tc_Court]; exact ⟨a48, t48, k48⟩) oc_Court d_Keeper_now_ oc_Court na_Court_keeper
  have n_Court_now_ := d_Court_now_.no
  have d_Keeper_pair_ : MetX l.prog w K mg base 4 "Keeper" "pair" ["self", "number"] Keeper_pair_ := ok_Keeper_pair_ F49 b49 (by rw [tc_Keeper]; exact ⟨a49, t49, k49⟩) oc_Keeper d_Keeper_bar_number_ oc_Keeper na_Keeper_pairs
  have d_Court_kept_ : MetX l.prog w K mg base 5 "Court" "kept" ["self", "number"] Court_kept_ := ok_Court_kept_ F50 b50 (by rw [tc_Court]; exact ⟨a50, t50, k50⟩) oc_Court d_Keeper_pair_ oc_Court na_Court_keeper
  have n_Court_kept_ := d_Court_kept_.no
  exact ok_law_ F51 d_feedL_ d_storyL_ d_openedL_ d_keptL_ d_fieldL_ d_netL_ d_addL_ d_fracL_ d_Court_history_ d_drawL_ n_Court_now_ n_Court_kept_ n_Court_note_ m_enumerate m_repr m_tuple m_len m_range
end K76
open PySem PySem.W PyProof.Rows in
set_option maxRecDepth 100000 in
set_option maxHeartbeats 0 in
theorem PySem.Challenge.cw_ledclocks_k76_kept_by_own_going_holds : PySem.Challenge.rw_ledclocks_k76_kept_by_own_going.Holds := by
  refine headFirst ?_
  k_fill
  refine G.walk_g (l := PySem.Challenge.rw_ledclocks_k76_kept_by_own_going) (n := 63) (k := 11) (x := "_law_script") (sp := fun w => @AL.spA (AL.TC _) _ 1 K76.law_) rfl (by decide) rfl ⟨rfl, by decide, by decide⟩ (fun w h Y => PySem.W.kIn_of Y) ?F (fun w _ a ns hl hO hS => AL.hsp_c K76.law_true hl hO hS)
  case F =>
    intro w mg fa h KX G hmg
    refine' K76.all_mk KX G hmg  ?a0 ?l0 ?c0 ?k0 ?a1 ?l1 ?c1 ?k1 ?a2 ?l2 ?c2 ?k2 ?a3 ?l3 ?c3 ?k3 ?a4 ?l4 ?c4 ?k4 ?a5 ?l5 ?c5 ?k5 ?a6 ?l6 ?c6 ?k6 ?a7 ?l7 ?c7 ?k7 ?a8 ?l8 ?c8 ?k8 ?a9 ?l9 ?c9 ?k9 ?a10 ?l10 ?c10 ?k10 ?a11 ?l11 ?c11 ?k11 ?a12 ?l12 ?c12 ?k12 ?a13 ?l13 ?c13 ?k13 ?a14 ?l14 ?c14 ?k14 ?a15 ?l15 ?c15 ?k15 ?a16 ?l16 ?c16 ?k16 ?a17 ?l17 ?c17 ?k17 ?a18 ?l18 ?c18 ?k18 ?a19 ?l19 ?c19 ?k19 ?a20 ?l20 ?c20 ?k20 ?a21 ?l21 ?c21 ?k21 ?a22 ?l22 ?c22 ?k22 ?a23 ?l23 ?c23 ?k23 ?a24 ?l24 ?c24 ?k24 ?a25 ?l25 ?c25 ?k25 ?a26 ?l26 ?c26 ?k26 ?a27 ?l27 ?c27 ?k27 ?a28 ?l28 ?c28 ?k28 ?a29 ?l29 ?c29 ?k29 ?t29 ?a30 ?l30 ?c30 ?k30 ?t30 ?q30_most ?x30_most ?q30_age ?x30_age ?a31 ?l31 ?c31 ?k31 ?t31 ?q31_most ?x31_most ?q31_age ?x31_age ?a32 ?l32 ?c32 ?k32 ?a33 ?l33 ?c33 ?k33 ?a34 ?l34 ?c34 ?k34 ?a35 ?l35 ?c35 ?k35 ?a36 ?l36 ?c36 ?k36 ?a37 ?l37 ?c37 ?k37 ?t37 ?a38 ?l38 ?c38 ?k38 ?t38 ?a39 ?l39 ?c39 ?k39 ?t39 ?a40 ?l40 ?c40 ?k40 ?t40 ?a41 ?l41 ?c41 ?k41 ?t41 ?a42 ?l42 ?c42 ?k42 ?t42 ?a43 ?l43 ?c43 ?k43 ?t43 ?a44 ?l44 ?c44 ?k44 ?t44 ?a45 ?l45 ?c45 ?k45 ?t45 ?a46 ?l46 ?c46 ?k46 ?t46 ?a47 ?l47 ?c47 ?k47 ?t47 ?a48 ?l48 ?c48 ?k48 ?t48 ?a49 ?l49 ?c49 ?k49 ?t49 ?a50 ?l50 ?c50 ?k50 ?t50 ?a51 ?l51 ?c51 ?k51 ?aC_Keeper ?oc0_Keeper ?oc1_Keeper ?oc2_Keeper ?oc3_Keeper ?mk0_Keeper ?mk1_Keeper ?aC_NetRun ?oc0_NetRun ?oc1_NetRun ?oc2_NetRun ?oc3_NetRun ?mk0_NetRun ?mk1_NetRun ?aC_Court ?oc0_Court ?oc1_Court ?oc2_Court ?oc3_Court ?mk0_Court ?mk1_Court ?na_Court_head_0 ?na_Court_keeper_0 ?na_Court_rows_0 ?na_Court_run_0 ?na_Court_walking_0 ?na_Keeper_at_field_0 ?na_Keeper_events_0 ?na_Keeper_last_at_0 ?na_Keeper_pairs_0 ?na_NetRun_age_0 ?na_NetRun_most_0 ?na_NetRun_net_0 ?na_NetRun_state_0 ?na_NetRun_turns_0 ?na_NetRun_wires_up_0 ?aC_NoEvent ?aC_NoHouse ?aC_NoLink ?aC_NoNumber  ?T_NoEvent ?iC_NoEvent ?tI_NoEvent ?lI_NoEvent ?cI_NoEvent ?kI_NoEvent ?nC_NoEvent_0 ?nC_NoEvent_1 ?T_NoHouse ?iC_NoHouse ?tI_NoHouse ?lI_NoHouse ?cI_NoHouse ?kI_NoHouse ?nC_NoHouse_0 ?T_NoLink ?iC_NoLink ?tI_NoLink ?lI_NoLink ?cI_NoLink ?kI_NoLink ?nC_NoLink_0 ?T_NoNumber ?iC_NoNumber ?tI_NoNumber ?lI_NoNumber ?cI_NoNumber ?kI_NoNumber ?nC_NoNumber_0   ?z_abs ?z_tuple ?z_len ?z_range ?z_sorted ?z_enumerate ?z_dict ?z_repr
    (case aC_Keeper => k_is)
    (case oc0_Keeper => k_is)
    (case oc1_Keeper => k_is)
    (case oc2_Keeper => k_is)
    (case oc3_Keeper => k_is)
    (case mk0_Keeper => k_is)
    (case mk1_Keeper => k_is)
    (case aC_NetRun => k_is)
    (case oc0_NetRun => k_is)
    (case oc1_NetRun => k_is)
    (case oc2_NetRun => k_is)
    (case oc3_NetRun => k_is)
    (case mk0_NetRun => k_is)
    (case mk1_NetRun => k_is)
    (case aC_Court => k_is)
    (case oc0_Court => k_is)
    (case oc1_Court => k_is)
    (case oc2_Court => k_is)
    (case oc3_Court => k_is)
    (case mk0_Court => k_is)
    (case mk1_Court => k_is)
    (case na_Court_head_0 => k_is)
    (case na_Court_keeper_0 => k_is)
    (case na_Court_rows_0 => k_is)
    (case na_Court_run_0 => k_is)
    (case na_Court_walking_0 => k_is)
    (case na_Keeper_at_field_0 => k_is)
    (case na_Keeper_events_0 => k_is)
    (case na_Keeper_last_at_0 => k_is)
    (case na_Keeper_pairs_0 => k_is)
    (case na_NetRun_age_0 => k_is)
    (case na_NetRun_most_0 => k_is)
    (case na_NetRun_net_0 => k_is)
    (case na_NetRun_state_0 => k_is)
    (case na_NetRun_turns_0 => k_is)
    (case na_NetRun_wires_up_0 => k_is)
    (case a0 => k_is)
    (case l0 => k_is)
    (case c0 => k_is)
    (case k0 => k_is)
    (case a1 => k_is)
    (case l1 => k_is)
    (case c1 => k_is)
    (case k1 => k_is)
    (case a2 => k_is)
    (case l2 => k_is)
    (case c2 => k_is)
    (case k2 => k_is)
    (case a3 => k_is)
    (case l3 => k_is)
    (case c3 => k_is)
    (case k3 => k_is)
    (case a4 => k_is)
    (case l4 => k_is)
    (case c4 => k_is)
    (case k4 => k_is)
    (case a5 => k_is)
    (case l5 => k_is)
    (case c5 => k_is)
    (case k5 => k_is)
    (case a6 => k_is)
    (case l6 => k_is)
    (case c6 => k_is)
    (case k6 => k_is)
    (case a7 => k_is)
    (case l7 => k_is)
    (case c7 => k_is)
    (case k7 => k_is)
    (case a8 => k_is)
    (case l8 => k_is)
    (case c8 => k_is)
    (case k8 => k_is)
    (case a9 => k_is)
    (case l9 => k_is)
    (case c9 => k_is)
    (case k9 => k_is)
    (case a10 => k_is)
    (case l10 => k_is)
    (case c10 => k_is)
    (case k10 => k_is)
    (case a11 => k_is)
    (case l11 => k_is)
    (case c11 => k_is)
    (case k11 => k_is)
    (case a12 => k_is)
    (case l12 => k_is)
    (case c12 => k_is)
    (case k12 => k_is)
    (case a13 => k_is)
    (case l13 => k_is)
    (case c13 => k_is)
    (case k13 => k_is)
    (case a14 => k_is)
    (case l14 => k_is)
    (case c14 => k_is)
    (case k14 => k_is)
    (case a15 => k_is)
    (case l15 => k_is)
    (case c15 => k_is)
    (case k15 => k_is)
    (case a16 => k_is)
    (case l16 => k_is)
    (case c16 => k_is)
    (case k16 => k_is)
    (case a17 => k_is)
    (case l17 => k_is)
    (case c17 => k_is)
    (case k17 => k_is)
    (case a18 => k_is)
    (case l18 => k_is)
    (case c18 => k_is)
    (case k18 => k_is)
    (case a19 => k_is)
    (case l19 => k_is)
    (case c19 => k_is)
    (case k19 => k_is)
    (case a20 => k_is)
    (case l20 => k_is)
    (case c20 => k_is)
    (case k20 => k_is)
    (case a21 => k_is)
    (case l21 => k_is)
    (case c21 => k_is)
    (case k21 => k_is)
    (case a22 => k_is)
    (case l22 => k_is)
    (case c22 => k_is)
    (case k22 => k_is)
    (case a23 => k_is)
    (case l23 => k_is)
    (case c23 => k_is)
    (case k23 => k_is)
    (case a24 => k_is)
    (case l24 => k_is)
    (case c24 => k_is)
    (case k24 => k_is)
    (case a25 => k_is)
    (case l25 => k_is)
    (case c25 => k_is)
    (case k25 => k_is)
    (case a26 => k_is)
    (case l26 => k_is)
    (case c26 => k_is)
    (case k26 => k_is)
    (case a27 => k_is)
    (case l27 => k_is)
    (case c27 => k_is)
    (case k27 => k_is)
    (case a28 => k_is)
    (case l28 => k_is)
    (case c28 => k_is)
    (case k28 => k_is)
    (case a29 => k_is)
    (case l29 => k_is)
    (case c29 => k_is)
    (case k29 => k_is)
    (case t29 => k_is)
    (case a30 => k_is)
    (case l30 => k_is)
    (case c30 => k_is)
    (case k30 => k_is)
    (case t30 => k_is)
    (case q30_most => k_is)
    (case x30_most => open AL in exact cv_int)
    (case q30_age => k_is)
    (case x30_age => open AL in exact cv_int)
    (case a31 => k_is)
    (case l31 => k_is)
    (case c31 => k_is)
    (case k31 => k_is)
    (case t31 => k_is)
    (case q31_most => k_is)
    (case x31_most => open AL in exact cv_int)
    (case q31_age => k_is)
    (case x31_age => open AL in exact cv_int)
    (case a32 => k_is)
    (case l32 => k_is)
    (case c32 => k_is)
    (case k32 => k_is)
    (case a33 => k_is)
    (case l33 => k_is)
    (case c33 => k_is)
    (case k33 => k_is)
    (case a34 => k_is)
    (case l34 => k_is)
    (case c34 => k_is)
    (case k34 => k_is)
    (case a35 => k_is)
    (case l35 => k_is)
    (case c35 => k_is)
    (case k35 => k_is)
    (case a36 => k_is)
    (case l36 => k_is)
    (case c36 => k_is)
    (case k36 => k_is)
    (case a37 => k_is)
    (case l37 => k_is)
    (case c37 => k_is)
    (case k37 => k_is)
    (case t37 => k_is)
    (case a38 => k_is)
    (case l38 => k_is)
    (case c38 => k_is)
    (case k38 => k_is)
    (case t38 => k_is)
    (case a39 => k_is)
    (case l39 => k_is)
    (case c39 => k_is)
    (case k39 => k_is)
    (case t39 => k_is)
    (case a40 => k_is)
    (case l40 => k_is)
    (case c40 => k_is)
    (case k40 => k_is)
    (case t40 => k_is)
    (case a41 => k_is)
    (case l41 => k_is)
    (case c41 => k_is)
    (case k41 => k_is)
    (case t41 => k_is)
    (case a42 => k_is)
    (case l42 => k_is)
    (case c42 => k_is)
    (case k42 => k_is)
    (case t42 => k_is)
    (case a43 => k_is)
    (case l43 => k_is)
    (case c43 => k_is)
    (case k43 => k_is)
    (case t43 => k_is)
    (case a44 => k_is)
    (case l44 => k_is)
    (case c44 => k_is)
    (case k44 => k_is)
    (case t44 => k_is)
    (case a45 => k_is)
    (case l45 => k_is)
    (case c45 => k_is)
    (case k45 => k_is)
    (case t45 => k_is)
    (case a46 => k_is)
    (case l46 => k_is)
    (case c46 => k_is)
    (case k46 => k_is)
    (case t46 => k_is)
    (case a47 => k_is)
    (case l47 => k_is)
    (case c47 => k_is)
    (case k47 => k_is)
    (case t47 => k_is)
    (case a48 => k_is)
    (case l48 => k_is)
    (case c48 => k_is)
    (case k48 => k_is)
    (case t48 => k_is)
    (case a49 => k_is)
    (case l49 => k_is)
    (case c49 => k_is)
    (case k49 => k_is)
    (case t49 => k_is)
    (case a50 => k_is)
    (case l50 => k_is)
    (case c50 => k_is)
    (case k50 => k_is)
    (case t50 => k_is)
    (case a51 => k_is)
    (case l51 => k_is)
    (case c51 => k_is)
    (case k51 => k_is)
    (case aC_NoEvent => k_is)
    (case aC_NoHouse => k_is)
    (case aC_NoLink => k_is)
    (case aC_NoNumber => k_is)
    (case T_NoEvent => exact ⟨⟨_, _, _, _, _, _, _, _, _, _, _, _, _, _, _, by k_is, by decide +kernel⟩, by k_is, by k_is, by k_is, by k_is⟩)
    (case iC_NoEvent => k_is)
    (case tI_NoEvent => k_is)
    (case lI_NoEvent => k_is)
    (case cI_NoEvent => k_is)
    (case kI_NoEvent => k_is)
    (case nC_NoEvent_0 => k_is)
    (case nC_NoEvent_1 => k_is)
    (case T_NoHouse => exact ⟨⟨_, _, _, _, _, _, _, _, _, _, _, _, _, _, _, by k_is, by decide +kernel⟩, by k_is, by k_is, by k_is, by k_is⟩)
    (case iC_NoHouse => k_is)
    (case tI_NoHouse => k_is)
    (case lI_NoHouse => k_is)
    (case cI_NoHouse => k_is)
    (case kI_NoHouse => k_is)
    (case nC_NoHouse_0 => k_is)
    (case T_NoLink => exact ⟨⟨_, _, _, _, _, _, _, _, _, _, _, _, _, _, _, by k_is, by decide +kernel⟩, by k_is, by k_is, by k_is, by k_is⟩)
    (case iC_NoLink => k_is)
    (case tI_NoLink => k_is)
    (case lI_NoLink => k_is)
    (case cI_NoLink => k_is)
    (case kI_NoLink => k_is)
    (case nC_NoLink_0 => k_is)
    (case T_NoNumber => exact ⟨⟨_, _, _, _, _, _, _, _, _, _, _, _, _, _, _, by k_is, by decide +kernel⟩, by k_is, by k_is, by k_is, by k_is⟩)
    (case iC_NoNumber => k_is)
    (case tI_NoNumber => k_is)
    (case lI_NoNumber => k_is)
    (case cI_NoNumber => k_is)
    (case kI_NoNumber => k_is)
    (case nC_NoNumber_0 => k_is)
    (case z_abs => k_is)
    (case z_tuple => k_is)
    (case z_len => k_is)
    (case z_range => k_is)
    (case z_sorted => k_is)
    (case z_enumerate => k_is)
    (case z_dict => k_is)
    (case z_repr => k_is)
