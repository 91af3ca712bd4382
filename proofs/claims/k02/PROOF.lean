import PyProof.Rows.All
import Wide.All
import OpenK.AllK
import Wide.FinOn
import HandS.ForMost
import HandS.More
import HandS.ForExc
import HandS.ExcInit
import HandS.FStr
import KE.KExcSuper
import KE.KExcIs
import HandS.IsInst
import PyProof.StrOps2
import HandS.StrMore
import HandS.Zip
import HandS.Wide
import HandS.Style
import HandS.RaiseMore
import HandS.Codes
import HandS.Flow
import HandS.Conv
import HandS.Walk
import HandS.NoneIn
import KE.IntTextText
import KE.KIntText
import PySem.Challenge.RW_mirrorstair_k02_what_is_no_datum
set_option Elab.async false
set_option maxRecDepth 100000
set_option maxHeartbeats 4000000
namespace PySem
namespace OwnX
open PySem.W PySem.Calls PyProof.Rows PySem.HandSPX
/-! ### the text of __init__: super().__init__(f"..{at}.."); self.at = at -/
def iA (fld : Str) (p1 p2 : Pos) : Arguments := { posonlyargs := [], args := [{ arg := "self", annotation := none, pos := p1 }, { arg := fld, annotation := none, pos := p2 }], vararg := none, kwonlyargs := [], kw_defaults := [], kwarg := none, defaults := [] }
def iB (fld : Str) (js : Expr) (q0 q1 q2 q3 q4 r1 r2 r3 r4 : Pos) : List Stmt :=
  [.Expr (.Call (.Attribute (.Call (.Name "super" q0) [] [] q1) "__init__" q2) [js] [] q3) q4, .Assign [.Attribute (.Name "self" r1) fld r2] (.Name fld r3) r4]
def iS (fld : Str) : Scope := { kind := .function, names := [(PySem.Str.ofString "self", .local), (fld, .local), (PySem.Str.ofString "__class__", .free), (PySem.Str.ofString "super", .globalImplicit)], isGenerator := false, isCoroutine := false, more := [] }
/-- what the written part says of an own error at C with one field -/
structure OwnT (prog : Program) (K : Frag) (mg : Str → Option Value) (cn fld qual : Str) (js : Expr) (C fI cc cda : Addr) : Prop where
  gC : mg cn = some (.ref C)
  cls : ∃ nm q N bs bm sn sub ab col dd k0 k1 k2 k3 k5, K.lookup C = some (excClassObj nm q C N bs bm true sn sub ab col dd k0 k1 k2 k3 k5 "ValueError.__new__") ∧ refsVE bm = true
  sa : findIn K (.ref C) "__setattr__" = some (some (.builtin "object.__setattr__"))
  ga : findIn K (.ref C) "__getattribute__" = some (some (.builtin "BaseException.__getattribute__"))
  gg : findIn K (.ref C) "__getattr__" = some none
  noN : findIn K (.ref C) fld = some none
  iC : findIn K (.ref C) "__init__" = some (some (.ref fI))
  tC : typeIn K (.ref fI) = some (.type "function")
  kC : keepIn K (.ref C) = true
  exC : subIn K (.ref C) (.type "BaseException") = some true
  veC : subIn K (.ref C) (.type "ValueError") = some true
  tyC : typeIn K (.ref C) = some (.type "type")
  hdC : hasDictIn K C = true
  supC : ks_superIn K C C "__init__" = some (some (.builtin "ValueError.__init__"))
  mroC : mroIn K C (.ref C) = some true
  opq : nsIn K cStatics "thirdparty.any" = some none
  msu : mg "super" = none
  cell : ∃ cl cld csl, K.lookup cc = some ⟨cl, cld, .cell (some (.ref C)), csl⟩
  code : ∃ ccl cdd ccs file tf, ∃ vs : Array Value, K.lookup cda = some ⟨ccl, cdd, .fields vs, ccs⟩ ∧ vs[2]? = some (.str file tf) ∧ ((prog.main.file : Str) == file) = true
  htop : (prog.main.scope.names.lookup ("super" : Str)).isSome = false
  fn : ∃ (oc : Value) (od : Option Addr) (doc pm : Value) (an : Option Addr) (ct : Value) (osl : Array (Option Value)) (p1 p2 q0 q1 q2 q3 q4 r1 r2 r3 r4 : Pos),
    K.lookup fI = some ⟨oc, od, .func (ksFn "__init__" qual (iA fld p1 p2) (iB fld js q0 q1 q2 q3 q4 r1 r2 r3 r4) (iS fld) .none .none doc pm an (.ref cda) ct cc), osl⟩ ∧ codeIn K (.ref cda) qual = true ∧
    (∀ L : Addr, ∃ pl : Sem Bool, eval (.Call (.Attribute (.Call (.Name "super" q0) [] [] q1) "__init__" q2) [js] [] q3) (ksEnv qual (iS fld) L fI (.ref cda) cc) = (do
      let ov ← attributeBase (.Call (.Name "super" q0) [] [] q1) "__init__" (ksEnv qual (iS fld) L fI (.ref cda) cc) (eval (.Call (.Name "super" q0) [] [] q1) (ksEnv qual (iS fld) L fI (.ref cda) cc))
      standAt q2.atName
      let (f, first) ← holding [ov] (getMethod ov "__init__" pl)
      callWith q3 f first (backTo q3 (starEach [js] (ksEnv qual (iS fld) L fI (.ref cda) cc))) [])) ∧
    (∀ L : Addr, starEach [js] (ksEnv qual (iS fld) L fI (.ref cda) cc) = [(false, eval js (ksEnv qual (iS fld) L fI (.ref cda) cc))])
theorem one_size (v : Value) : [v].length ≤ sizeLine := by
  rw [sizeLine_eq]
  exact (by decide : 1 ≤ 16777216)
/-- what __init__ leaves of a fresh exception at x -/
structure InitEnd (fld : Str) (h h' : Heap) (x C dx t1 : Addr) (v : Value) : Prop where
  keep : ∀ b o, b ≠ x → h.get? b = some o → h'.get? b = some o
  obj : h'.get? x = some { cls := .ref C, dict := some dx, data := .fields #[.ref t1, .none, .none, .none, .bool false, .none] }
  dbig : h.objs.size ≤ dx
  dne : dx ≠ x
  ns : h'.Ns1 dx (fun y => if y = fld then some v else none)
section
variable {prog : Program} {w : World} {A : Around} {E : Value → Shared → Prop} {R : Result → Shared → Prop} {s : Shared} {K : Frag} {mg : Str → Option Value} {fld cn qual : Str} {js : Expr} {C fI cc cda : Addr} {base : Heap}
/-- the built-in __init__, bound to the error, called with some values -/
theorem own_bound {nm q : Str} {N e t0 u : Addr} {bs bm : List Value} {sn : List Str} {sub : List Value} {ab : Bool} {col : Option Bool} {dd : Option Addr} {k0 k1 k2 k3 k5 : Option Value} {rest : List Value} {Q : Value → Shared → Prop} {h : Heap} {g : Array GenState} {dr : Drawn} {tk : Nat} {os : OsState}
    (hbm : refsVE bm = true) (hC : h.get? C = some (excClassObj nm q C N bs bm true sn sub ab col dd k0 k1 k2 k3 k5 "ValueError.__new__")) (he : h.get? e = some (excO C t0)) (hu : h.get? u = some (kxs_mw "ValueError.__init__" e)) (hz : rest.length ≤ sizeLine)
    (hq : ∀ h' t1, (∀ b o, b ≠ e → h.get? b = some o → h'.get? b = some o) → h'.get? e = some (excO C t1) → Q .none ⟨h', g, dr, tk, os⟩) : wpAny (model prog w) A (call (.ref u) rest) Q E ⟨h, g, dr, tk, os⟩ := by
  have FB := PySem.F.excBase_ValueError
  refine wpAny_call (codeAny_of_tree (show wpAny _ A.in1 (callAny (.ref u) ⟨rest, []⟩) _ _ _ from ?_))
  simp only [callAny]
  refine wpAny_bind (wpAny_load hu ?_)
  simp only [kxs_mw]
  refine KFB.if_so (by decide) (wpAny_bind (check_bound_init FB.toExcCallFacts hC he rfl (wpAny_bind (wpAny_pure (wpAny_pure ⟨plainId_quiet FB.init.plain _, codeAny_builtin FB.initEntry ?_⟩)))))
  exact exc_init_tree (cls := .ref C) (t0 := t0) (dv := none) (c2 := .none) (c3 := .none) (b4 := .bool false) he hz (fun h' k e' _ => hq h' _ k e')
theorem own_init (T : OwnT prog K mg cn "at" qual js C fI cc cda) {x t0 : Addr} {v : Value} (M : L2.Mod K mg base) (bk : ∀ b o, base.get? b = some o → s.heap.get? b = some o)
    (hx : s.heap.get? x = some (excO C t0)) (hnx : K.lookup x = none) (hroom : A.depth < recursionLimit)
    (hjs : ∀ (A' : Around) (L : Addr) (s1 : Shared) (E' : Value → Shared → Prop) (Q' : Value → Shared → Prop), s1.heap.Ns L (fun y => [((("at" : Str)), v), ("self", .ref x)].lookup y) → (∀ z tk, Q' (.str z tk) { s1 with toks := tk + 1 }) →
      wpAny (model prog w) A' (eval js (ksEnv qual (iS "at") L fI (.ref cda) cc)) Q' E' s1)
    (hq : ∀ h' tk dx t1, InitEnd "at" s.heap h' x C dx t1 v → R (.ok (.ret .none)) { s with heap := h', toks := tk }) :
    codeAny (model prog w) A (.call (.ref fI) ⟨[.ref x, v], []⟩) R s := by
  obtain ⟨oc, od, doc, pm, an, ct, osl, p1, p2, q0, q1, q2, q3, q4, r1, r2, r3, r4, ho, hcd, hev, hst⟩ := T.fn
  obtain ⟨nm, q, N, bs, bm, sn, sub, ab, col, dd, k0, k1, k2, k3, k5, hC, hbm⟩ := T.cls
  obtain ⟨ccl, cdd, ccs, file, tf, vs, hco, hvs, hfile⟩ := T.code
  obtain ⟨cl, cld, csl, hcell⟩ := T.cell
  have X : K.In s.heap := M.kin.keeps bk
  refine ks_codeAny_call_defAt (fd := ksFn "__init__" qual (iA "at" p1 p2) (iB "at" js q0 q1 q2 q3 q4 r1 r2 r3 r4) (iS "at") .none .none doc pm an (.ref cda) ct cc) (binds := [("self", .ref x), ("at", v)]) hroom (X _ _ ho) rfl (M.nolimit.keeps bk) (codeRec_of X hcd) rfl (BindsTo.of_eq (by first | rfl | with_unfolding_all rfl)) (show ∀ x ∈ (iS "at").names, x.2 ≠ .cell from by decide) ?_ (fun h₁ hns hk₁ => ?_)
  · intro y hy
    rcases List.mem_cons.mp hy with rfl | hy
    · rfl
    · rcases List.mem_cons.mp hy with rfl | hy
      · rfl
      · exact nomatch hy
  have X₁ : K.In h₁ := X.keeps hk₁
  have hx₁ := hk₁ _ _ hx
  have hxL : s.heap.objs.size ≠ x := Nat.ne_of_gt (Heap.lt_size hx)
  have hcl : clsIn K C = some { name := nm, bases := bs, mro := .ref C :: bm, ns := N, qualname := q, hasDict := true, slotNames := sn, subclasses := sub, abstract := ab, collection := col, hasDel := false } := by unfold clsIn; rw [hC] <;> rfl
  have I₁ : InstAt h₁ x (excO C t0) C none := ⟨hx₁, rfl, rfl, trivial⟩
  obtain ⟨mb, hb1, hb2⟩ := M.blt
  obtain ⟨hp, g, dr, tk, os⟩ := s
  show wpAt (model prog w) _ (.func _ (ksEnv qual (iS "at") hp.objs.size fI (.ref cda) cc)) (execs (iB "at" js q0 q1 q2 q3 q4 r1 r2 r3 r4) (ksEnv qual (iS "at") hp.objs.size fI (.ref cda) cc)) _ _ _
  obtain ⟨pl, hpl⟩ := hev hp.objs.size
  refine ks_wpAt_execs_cons (ks_wpAt_Expr_any (ks_wpAt_MethodCall (pl := pl) ?_ hpl))
  refine ks_wpAt_super_base (env := ksEnv qual (iS "at") hp.objs.size fI (.ref cda) cc) rfl rfl rfl rfl (X₁ _ _ ho) rfl rfl rfl (X₁ _ _ hco) rfl hvs hfile T.htop ?_
  refine ks_loadName_global rfl rfl (loadGlobal_builtin (env := ksEnv qual (iS "at") hp.objs.size fI (.ref cda) cc) ((M.glob.keeps bk).keeps hk₁) T.msu ((hb1.keeps bk).keeps hk₁) ((hb2 _ (by decide)).trans (by decide +kernel)) ⟨rfl, ?_⟩)
  refine wpAny_loadName_free rfl rfl rfl ⟨_, X₁ _ _ hcell, rfl⟩ ?_
  refine wpAny_loadName_local rfl rfl hns (by rfl) ?_
  refine ks_wpAny_isType_cls (X₁ _ _ hC) rfl ⟨rfl, ?_⟩
  refine ks_wpAny_call_super (X₁ _ _ hC) rfl hx₁ rfl (fun c e => nomatch e) (looks_mroIn X₁ T.mroC) (fun h₂ hso hk₂ => ?_)
  have X₂ : K.In h₂ := X₁.keeps hk₂
  have hx₂ := hk₂ _ _ hx₁
  have I₂ : InstAt h₂ x (excO C t0) C none := ⟨hx₂, rfl, rfl, trivial⟩
  have hsi := T.supC
  unfold ks_superIn at hsi
  rw [hcl, Option.bind_some] at hsi
  refine kxs_getMethod kxs_ValueError hso (looks_opaque X₂ T.opq) (l₀ := .ref C :: bm) (fun A Q E s k q => wpAny_bind ((looks_clsIn X₂ hcl) A _ E s k (wpAny_pure q))) rfl X₂ hsi (I₂.type.andThen (looks_subIn X₂ T.veC)) (ks_ne X₂ I₂ hcl) rfl ?_
  have hk₃ : ∀ b o, h₂.get? b = some o → (h₂.push (kxs_mw "ValueError.__init__" x)).get? b = some o := fun b o e => Heap.get?_push_of_some _ e
  have hu₃ : (h₂.push (kxs_mw "ValueError.__init__" x)).get? h₂.objs.size = some (kxs_mw "ValueError.__init__" x) := Heap.get?_push_at rfl rfl
  have hx₃ := hk₃ _ _ hx₂
  have X₃ := X₂.keeps hk₃
  generalize h₂.push (kxs_mw "ValueError.__init__" x) = h₃ at hk₃ hu₃ hx₃ X₃
  have hns₃ := (hns.keeps hk₂).keeps hk₃
  rw [hst]
  have hplain : (backTo q3 [(false, eval js (ksEnv qual (iS "at") hp.objs.size fI (.ref cda) cc))]).any (·.1) = false := rfl
  refine kxs_callWith (i := "ValueError.__init__") (x := x) hplain (evalArgs_plain (Calls.spliced_cons ?_))
  refine hjs _ hp.objs.size _ _ _ hns₃ (fun z tkz => Calls.spliced_nil ⟨hu₃, ?_⟩)
  refine own_bound hbm (X₃ _ _ hC) hx₃ hu₃ (one_size _) (fun h₄ t1 hk₄ hx₄ => ?_)
  have X₄ : K.In h₄ := fun a o e => hk₄ a o (fun z => by rw [z, hnx] at e; exact nomatch e) (X₃ a o e)
  have hL : h₃.Ns hp.objs.size _ := hns₃
  have hns₄ : h₄.Ns hp.objs.size (fun y => [((("at" : Str)), v), ("self", .ref x)].lookup y) := by
    obtain ⟨oL, es, ep, hL, r⟩ := hns₃
    exact ⟨oL, es, ep, hk₄ _ _ hxL hL, r⟩
  show wpAt _ _ _ _ _ _ _
  refine ks_wpAt_execs_cons (ks_wpAt_Assign_Attr ?_)
  refine wpAt_of_wpAny (wpAny_Name (wpAny_loadName_local rfl rfl hns₄ (by rfl) (wpAny_Name (wpAny_loadName_local rfl rfl hns₄ (by rfl) ?_) (by decide))) (by decide))
  refine set_plain X₄ (ox := excO C t1) (od := none) ⟨hx₄, rfl, rfl, trivial⟩ T.sa ?_
  refine exc_osa X₄ hx₄ hcl (show refsVE (.ref C :: bm) = true from hbm) rfl T.noN (fun h₅ tk₅ dx k₅ dn dne hx₅ hn₅ => ?_)
  refine wpAt_of_wpAny (wpAny_execs_nil (hq h₅ tk₅ dx t1 ⟨fun b o hb e => k₅ b o hb (hk₄ b o hb (hk₃ b o (hk₂ b o (hk₁ b o e)))), hx₅, ?_, dne, hn₅⟩))
  exact Nat.le_of_lt (Nat.lt_of_lt_of_le hns₄.lt dn)
/-- an own error as it is made -/
structure OwnMade (fld : Str) (h h' : Heap) (e C d : Addr) (v : Value) : Prop where
  keep : ∀ b o, h.get? b = some o → h'.get? b = some o
  new : h.objs.size ≤ e
  obj : ∃ oe vs, h'.get? e = some oe ∧ oe.cls = .ref C ∧ oe.dict = some d ∧ oe.data = .fields vs ∧ vs[1]? = some .none
  dbig : h.objs.size ≤ d
  dne : d ≠ e
  ns : h'.Ns1 d (fun y => if y = fld then some v else none)
/-- the f-string of __init__ can be made of this value -/
def Speaks (prog : Program) (w : World) (qual fld : Str) (js : Expr) (fI cc cda : Addr) (v : Value) : Prop :=
  ∀ (x : Addr) (A' : Around) (L : Addr) (s1 : Shared) (E' : Value → Shared → Prop) (Q' : Value → Shared → Prop), s1.heap.Ns L (fun y => [(fld, v), ("self", .ref x)].lookup y) → (∀ z tk, Q' (.str z tk) { s1 with toks := tk + 1 }) →
    wpAny (model prog w) A' (eval js (ksEnv qual (iS fld) L fI (.ref cda) cc)) Q' E' s1
theorem own_made (T : OwnT prog K mg cn "at" qual js C fI cc cda) {v : Value} (M : L2.Mod K mg base) (bk : ∀ b o, base.get? b = some o → s.heap.get? b = some o) (hroom : A.depth + 1 < recursionLimit) (sp : Speaks prog w qual "at" js fI cc cda v)
    (hq : ∀ h' tk e d, OwnMade "at" s.heap h' e C d v → R (.ok (.ret (.ref e))) { s with heap := h', toks := tk }) :
    codeAny (model prog w) A (.call (.ref C) ⟨[v], []⟩) R s := by
  obtain ⟨nm, q, N, bs, bm, sn, sub, ab, col, dd, k0, k1, k2, k3, k5, hC, hbm⟩ := T.cls
  have X : K.In s.heap := M.kin.keeps bk
  obtain ⟨hp, g, dr, tk, os⟩ := s
  have kk : ∀ b o, hp.get? b = some o → ((hp.push (kdv_tup [v])).push (excO C hp.objs.size)).get? b = some o := fun b o e => Heap.get?_push_of_some _ (Heap.get?_push_of_some _ e)
  have hget : ((hp.push (kdv_tup [v])).push (excO C hp.objs.size)).get? (hp.objs.size + 1) = some (excO C hp.objs.size) := by heap_get
  have hnx : K.lookup (hp.objs.size + 1) = none := by
    cases e : K.lookup (hp.objs.size + 1) with
    | none => rfl
    | some o => exact absurd (Nat.lt_of_succ_lt (Heap.lt_size (X _ _ e))) (Nat.lt_irrefl _)
  refine call_own F.excBase_ValueError (fun Y => refsVE_contains Y bm hbm) (X _ _ hC) (looks_findIn X T.iC) (fun self => bind_fn X self T.tC) (one_size v) ?_
  refine own_init (s := ⟨(hp.push (kdv_tup [v])).push (excO C hp.objs.size), g, dr, tk, os⟩) T M (fun b o e => kk b o (bk b o e)) hget hnx hroom (sp _) fun h' tk' dx t1 IE => ?_
  have z : hp.objs.size + 1 + 1 ≤ dx := by
    have q := IE.dbig
    rw [Heap.size_push, Heap.size_push] at q
    exact q
  exact ⟨rfl, hq h' tk' (hp.objs.size + 1) dx ⟨fun b o e => IE.keep b o (Nat.ne_of_lt (Nat.lt_succ_of_lt (Heap.lt_size e))) (kk b o e), Nat.le_succ _, ⟨_, _, IE.obj, rfl, rfl, rfl, rfl⟩, Nat.le_trans (Nat.le_trans (Nat.le_succ _) (Nat.le_succ _)) z, IE.dne, IE.ns⟩⟩
end
theorem app_len (a b : Str) : (a ++ b).length = a.length + b.length := by
  rw [TL.len_tl, TL.len_tl, TL.len_tl, TL.tl_append, List.length_append]
/-- f"a{at}b", at an int -/
theorem speaks3 {prog : Program} {w : World} {qual : Str} {a b : Str} {k1 k2 : Nat} {p1 p2 p3 p4 p5 : Pos} {fI cc cda : Addr} {n : Int} {t : Tok} (hn : n.natAbs.log2 < 1920) (hl : (Str.ofString (toString n)).length ≤ 1000) (ha : a.length ≤ 1000) (hb : b.length ≤ 1000) :
    Speaks prog w qual "at" (.JoinedStr [.Constant (.str a) k1 p1, .FormattedValue (.Name "at" p2) (-1) none p3, .Constant (.str b) k2 p4] p5) fI cc cda (.int n t) := by
  intro x A' L s1 E' Q' hns hq
  have esz := sizeLine_eq
  have e0 : Str.empty.length = 0 := rfl
  refine wpAny_JoinedStr ?_
  show wpAny _ _ (eval (.Constant (.str a) k1 p1) _) _ _ _
  refine Calls.Constant_str ⟨a, _, rfl, (by rw [app_len, e0]; omega), ?_⟩
  show wpAny _ _ (eval (.FormattedValue (.Name "at" p2) (-1) none p3) _) _ _ _
  refine wpAny_FormattedValue_plain (wpAny_Name (wpAny_loadName_local rfl rfl hns (v := .int n t) (by rfl) ?_) (by decide))
  refine wpAny_formatField_int hn ⟨_, _, rfl, (by rw [app_len, app_len, e0]; omega), ?_⟩
  show wpAny _ _ (eval (.Constant (.str b) k2 p4) _) _ _ _
  refine Calls.Constant_str ⟨b, _, rfl, (by rw [app_len, app_len, app_len, e0]; omega), ?_⟩
  exact ⟨(by rw [app_len, app_len, app_len, e0]; omega), hq _ _⟩
end OwnX
end PySem
namespace L2
open PySem PySem.Spec PyProof.Rows
/-! ### an error that was caught and is kept by a name -/
/-- at a: an error of the class cls, its own dict d -/
def ErrO (cls : Value) (d : Option Addr) (a : Addr) : HO := .ext fun h => ∃ (oe : Obj) (vs : Array Value), h.get? a = some oe ∧ Zc cls d oe ∧ oe.data = .fields vs
theorem errO_ok {P : Program} {w : World} {H : Hp} {h : Heap} {a : Addr} {cls : Value} {d : Option Addr} {oe : Obj} {vs : Array Value} (e : h.get? a = some oe) (z : Zc cls d oe) (hd : oe.data = .fields vs) : ObjOk P w H h a (ErrO cls d a) :=
  ⟨⟨oe, vs, e, z, hd⟩, ⟨oe, e⟩, fun _ _ ⟨o, v, q, r⟩ k => ⟨o, v, k o q, r⟩⟩
theorem errO_at {P : Program} {w : World} {H : Hp} {h : Heap} {a : Addr} {cls : Value} {d : Option Addr} (hok : HOk P w H h) (e : H a = some (ErrO cls d a)) : ∃ (oe : Obj) (vs : Array Value), h.get? a = some oe ∧ Zc cls d oe ∧ oe.data = .fields vs := by
  have x : ObjOk P w H h a (.ext fun h => ∃ (oe : Obj) (vs : Array Value), h.get? a = some oe ∧ Zc cls d oe ∧ oe.data = .fields vs) := hok a _ e
  exact x.1
section
variable {X : Cx} {pins : List (Addr × Obj)} {σ : St} {H : Hp} {s : Shared}
/-- what was pinned and is young is tracked from now on -/
theorem Inv.track {a : Addr} {oe : Obj} {vs : Array Value} {cls : Value} {d : Option Addr} (I : Inv X ((a, oe) :: pins) σ H s) (hz : Zc cls d oe) (hd : oe.data = .fields vs) (young : X.s_0.heap.get? a = none) (apart : ∀ p ∈ X.pn ++ pins, p.1 ≠ a) :
    Inv X pins σ (upd H a (ErrO cls d a)) s := by
  obtain ⟨ha, na, nL, nF, _⟩ := I.pin (a, oe) (List.mem_append_right _ List.mem_cons_self)
  have ha : s.heap.get? a = some oe := ha
  have na : H a = none := na
  have nL : a ≠ X.env.locals := nL
  have sm : ∀ b o, H b = some o → upd H a (ErrO cls d a) b = some o := fun b o e => by rw [upd_ne (ne_of_none e na)]; exact e
  have old : ∀ b o, X.s_0.heap.get? b = some o → b ≠ a := fun b o e z => by rw [z, young] at e; exact nomatch e
  refine ⟨I.ok, I.os, I.bare, ⟨I.base.keep, I.base.slot, fun b o e n hx => ?_, I.base.there, fun b xs e => sm b _ (I.base.tups b xs e), fun b o u e => sm b _ (I.base.frzs b o u e), fun b ps e => ?_⟩, I.loc, I.cell, ?_, fun x c e => ?_, fun p hp => ?_, fun b o e => ?_, I.len⟩
  · rw [upd_ne (old b o e)]; exact I.base.free b o e n hx
  · obtain ⟨m, q⟩ := I.base.tbls b ps e
    exact ⟨m, sm b _ q⟩
  · rw [upd_ne (Ne.symm nL)]; exact I.free
  · have hc : c ≠ a := fun z => by
      obtain ⟨v, o, ho, hcell⟩ := I.cell x c e
      rw [z, ha] at ho
      cases ho
      rw [hd] at hcell
      exact nomatch hcell
    rw [upd_ne hc]; exact I.freeC x c e
  · obtain ⟨e1, e2, e3, e4, e5⟩ := I.pin p (by
      rcases List.mem_append.mp hp with h | h
      · exact List.mem_append_left _ h
      · exact List.mem_append_right _ (List.mem_cons_of_mem _ h))
    exact ⟨e1, by rw [upd_ne (apart p hp)]; exact e2, e3, e4, e5⟩
  · by_cases hb : b = a
    · subst hb
      rw [upd_same] at e
      cases e
      exact errO_ok ha hz hd
    · rw [upd_ne hb] at e
      exact (I.hok b o e).stay (fun _ _ _ q => q) (fun c q => sm c _ q) fun c xs q => sm c _ q
theorem Inv.unsuiteK {a : Addr} {q : Addr × Obj} {pn' : List (Addr × Obj)} (I : Inv (X.suite a (q :: (X.pn ++ pins))) pn' σ H s) (ok : X.Ok) : Inv X (q :: pins) σ H s :=
  ⟨ok, I.os, I.bare, I.base, I.loc, I.cell, I.free, I.freeC, fun p hp => I.pin p (List.mem_append_left _ (by
    rcases List.mem_append.mp hp with h | h
    · exact List.mem_cons_of_mem _ (List.mem_append_left _ h)
    · rcases List.mem_cons.mp h with rfl | h
      · exact List.mem_cons_self
      · exact List.mem_cons_of_mem _ (List.mem_append_right _ h))), I.hok, I.len⟩
end
/-- what such a clause wishes of an error of the body: it is of the class named, and behind the suite the error stands tracked -/
def wKeep (K : PySem.W.Frag) (c : Value) (i : Nat) (ts : Addr → Value → Option Addr → TS) (D : Ends) : WX := fun cls d σ H =>
  PySem.W.exmOne K cls c = some true ∧ ∀ a, H a = none → ts a cls d { nx := fun σ' H' => H' a = none → D.nx (σ'.set i none) (upd H' a (ErrO cls d a)), rt := fun _ _ => False } (σ.set i (some (.ref a))) H
section
variable {X : Cx} {x n : Str} {c : Value} {i : Nat} {body suite : List Stmt} {b₀ : Stmt} {np pos pos' : Pos} {tb : WX → TS} {ts : Addr → Value → Option Addr → TS}
theorem ps_try_keep (hs : X.stack = X.env :: X.outer) (hf : X.env.frame = some X.env.locals) (hN : X.N.Nodup) (hi : X.N[i]? = some n) (hln : X.env.kindOf n = some .local) (hex : X.ex = []) (hc : Names X x c)
    (hb : ∀ (W : WX) (pn : List (Addr × Obj)) (xe : Value → Shared → Prop), Takes (X.tr pn xe) W → PassesOwn (model X.prog X.w) X.A X.env xe → PSs (X.tr pn xe) body (tb W))
    (hsu : ∀ (a : Addr) (oe : Obj) (cls : Value) (d : Option Addr) (pn : List (Addr × Obj)), Zc cls d oe → (∃ vs, oe.data = .fields vs) → PSs (X.suite a ((a, oe) :: pn)) (b₀ :: suite) (ts a cls d)) :
    PS X (.Try body [.ExceptHandler (some (.Name x np)) (some n) (b₀ :: suite) pos'] [] [] pos) (fun D σ H => tb (wKeep X.K c i ts D) D σ H) := by
  refine ⟨fun pins s0 σ0 H0 D I0 h0 => ?_⟩
  have okX := I0.ok
  have frA : X.A.frames = some (X.env :: X.outer) := by rw [okX.frames, hs]
  refine wpAny_Try_except (wpAny_mono ((hb (wKeep X.K c i ts D) (X.pn ++ pins) (fun e s₁ => wpAny (model X.prog X.w) X.A (noteFrame e X.env) (fun _ s₂ => wpAny (model X.prog X.w) X.A (setFlight e none)
    (fun _ s₃ => wpAny (model X.prog X.w) X.A (handleBy e X.env [.ExceptHandler (some (.Name x np)) (some n) (b₀ :: suite) pos']) (SP X pins D) X.xe s₃) X.xe s₂) X.xe s₁) (fun u s1 raised => ?_) PassesOwn.looking).run [] s0 σ0 H0 D (I0.toTry _) h0) (fun fl s1 went => ?_) (fun _ _ z => z))
  · obtain ⟨a, B, sI, pins1, σ1, H1, cls, d, rfl, J1, ground, up, sky, na, os1, ag, caught, wish⟩ := raised
    have J : Inv X pins σ1 H1 sI := J1.ofTry okX
    have sky1 : Sky B (X.env :: X.outer) a (Zc cls d) X.env.locals s1.heap := by rw [← hs]; exact sky
    show wpAny (model X.prog X.w) X.A (noteFrame (.ref a) X.env) _ _ _
    refine Sky.land Zc.steady frA hf sky1 fun hA flA upA => ?_
    have JA : Inv X pins σ1 H1 { s1 with heap := hA } := J.landed ground flA.1 (up.trans upA) os1 ag
    obtain ⟨oA, vA, heA, hzA, hdA⟩ := flA.there
    have nofr : a ∉ frs (X.env :: X.outer) := fun hm => by
      obtain ⟨_, o', e', hnf⟩ := flA.2.2.1.mem hm
      rw [heA] at e'
      cases e'
      exact hnf _ hdA
    have nL : a ≠ X.env.locals := fun z => nofr (List.mem_filterMap.mpr ⟨X.env, List.mem_cons_self, by rw [hf, z]⟩)
    have nF : a ∉ X.fs := fun hm => by
      obtain ⟨e, he, q⟩ := List.mem_filterMap.mp hm
      exact nofr (List.mem_filterMap.mpr ⟨e, List.mem_cons_of_mem _ he, q⟩)
    have nB : B.get? a = none := flA.2.1
    have fresh : sI.heap.get? a = none := by
      cases e : sI.heap.get? a with
      | none => rfl
      | some o =>
        have := ground a o e (by rw [hs]; exact nofr)
        rw [nB] at this
        exact nomatch this
    have young : X.s_0.heap.get? a = none := by
      cases e : X.s_0.heap.get? a with
      | none => rfl
      | some o =>
        obtain ⟨o', q⟩ := J.base.there a o e (by rw [hex]; exact fun z => nomatch z)
        rw [fresh] at q
        exact nomatch q
    have apart : ∀ p ∈ X.pn ++ pins, p.1 ≠ a := fun p hp z => by
      have := (J.pin p hp).1
      rw [z, fresh] at this
      exact nomatch this
    have SA := JA.suite heA hdA na nL nF
    have LTy : PySem.W.Looks (model X.prog X.w) hA (typeOf (.ref a)) cls := fun _ _ _ _ k q => wpAny_typeOf_ref (k _ _ heA) (by rw [hzA.1]; exact q)
    have LEx := PySem.W.exm_one (M := model X.prog X.w) (JA.kIn) LTy caught
    have named : ∀ {Q : Value → Shared → Prop} {E : Value → Shared → Prop}, Q c { s1 with heap := hA } → wpAny (model X.prog X.w) (X.A.mark (some (.ref a))) (eval (.Name x np) X.env) Q E { s1 with heap := hA } := fun {Q E} q => by
      obtain ⟨g1, g2, g3 | ⟨g3, g4, g5⟩⟩ := hc
      · exact ld_glob (X := X.suite a ((a, oA) :: (X.pn ++ pins))) SA g1 g3 q g2
      · exact ld_blt (X := X.suite a ((a, oA) :: (X.pn ++ pins))) SA g1 g3 g4 q g5 g2
    refine wpAny_handleBy_cons (codeAny_handlers_test (named (LEx.here (codeAny_handlers_suite_as (HandSPX.lands_againZ flA fun hB flB upB => ?_))))) (by intro q; cases q)
    have JB : Inv X pins σ1 H1 { s1 with heap := hB } := J.landed ground flB.1 ((up.trans upA).trans upB) os1 ag
    obtain ⟨oB, vB, heB, hzB, hdB⟩ := flB.there
    refine store_ok (X := X.suite a ((a, oB) :: (X.pn ++ pins))) (v := .ref a) (JB.suite heB hdB na nL nF) hN hi (.inl hln) rfl (fun s5 S5 => ?_) (.inr hln)
    refine wpAny_mono ((hsu a oB cls d (X.pn ++ pins) hzB ⟨_, hdB⟩).run [] s5 _ H1 _ S5 (wish a na)) (fun fl s6 went => ?_) (fun _ _ z => False.elim z)
    cases fl with
    | next =>
      obtain ⟨σ6, H6, S6, q6⟩ := went
      have K6 := S6.unsuiteK okX
      have na6 : H6 a = none := (K6.pin (a, oB) (List.mem_append_right _ List.mem_cons_self)).2.1
      exact gone_ok K6 hN hi hln fun s7 J7 => ⟨_, _, J7.track hzB hdB young apart, q6 na6⟩
    | brk =>
      obtain ⟨σ6, H6, S6, q6⟩ := went
      exact False.elim q6
    | cont =>
      obtain ⟨σ6, H6, S6, q6⟩ := went
      exact False.elim q6
    | ret v =>
      obtain ⟨v6, σ6, H6, S6, r6, q6⟩ := went
      exact False.elim q6
  · cases fl with
    | next =>
      obtain ⟨σ2, H2, J2, q⟩ := went
      exact wpAny_execs_nil ⟨σ2, H2, J2.ofTry okX, q⟩
    | brk =>
      obtain ⟨σ2, H2, J2, q⟩ := went
      exact ⟨σ2, H2, J2.ofTry okX, q⟩
    | cont =>
      obtain ⟨σ2, H2, J2, q⟩ := went
      exact ⟨σ2, H2, J2.ofTry okX, q⟩
    | ret v =>
      obtain ⟨v2, σ2, H2, J2, r, q⟩ := went
      exact ⟨v2, σ2, H2, J2.ofTry okX, r, q⟩
end
end L2
namespace L2
open PySem PySem.Spec PyProof.Rows
theorem relO_fld {fld : Str} {v : V} {v' : Value} (r : RelV v v') (f : Str) : RelO (List.lookup f [(fld, v)]) (if f = fld then some v' else none) := by
  by_cases hw : f = fld
  · subst hw
    rw [if_pos rfl, show List.lookup f [(f, v)] = some v by simp [List.lookup]]
    exact r
  · have qw : (f == fld) = false := by simpa using hw
    rw [if_neg hw, show List.lookup f [(fld, v)] = none by simp [List.lookup, qw]]
    trivial
section
variable {X : Cx} {C fI cc cda : Addr} {cn qual : Str} {js : Expr}
/-- BadText(e), e an int: a new error with its own dict at d -/
def tMkInt (C : Addr) (ta : TA) : St → Hp → XK → Prop := fun σ H Q => ta σ H fun vs H1 => ∃ n : Int, vs = [.int n] ∧ 0 ≤ n ∧ n < 10 ^ 20 ∧ ∀ d, H1 d = none → Q (.ref C) (some d) (upd H1 d (.xd [(("at" : Str), .int n)]))
theorem pmk_int {a : Expr} {ta : TA} {p pos : Pos} {k : Nat} (T : PySem.OwnX.OwnT X.prog X.K X.mg cn "at" qual js C fI cc cda) (hsp : ∀ (n : Int) (t : Tok), 0 ≤ n → n < 10 ^ 20 → PySem.OwnX.Speaks X.prog X.w qual "at" js fI cc cda (.int n t)) (hr : Room k X.A) (ha : PA X [a] ta) (hg : Gl X cn) (hdb : (cn == ("__debug__" : Str)) = false)
    (he : starEach (a :: []) X.env = (false, eval a X.env) :: starEach [] X.env := by rfl) (hpl : (backTo pos (starEach [] X.env)).any (·.1) = false := by rfl) :
    PMk X (.Call (.Name cn p) [a] [] pos) (tMkInt C ta) := by
  intro pins s σ H Q I h
  refine wpAny_Call_Name_kw (ld_glob I hg T.gC ?_ hdb)
  refine PySem.W.callWith_K (h₀ := X.base) I.ok.mod.kin T.kC (thn (ha.run pos pins s σ H _ I h) fun us s1 ⟨vs, H1, I1, r1, n, ev, hn0, hn1, q1⟩ => ⟨I1.kIn, ?_⟩) he hpl
  subst ev
  cases r1 with
  | cons rv rn =>
    cases rn
    obtain ⟨t, rfl⟩ := rv
    show wpAny _ _ (call (.ref C) [.int n t]) _ _ _
    have bk := I1.bk
    obtain ⟨hp, g, dr, tk, os⟩ := s1
    refine wpAny_call (PySem.OwnX.own_made T I1.mod bk (by have := hr.dp; omega) (hsp n t hn0 hn1) fun h' tk' e d M => ?_)
    show MkP X pins σ Q (.ref e) ⟨h', g, dr, tk', os⟩
    obtain ⟨oe, fv, hoe, hc, hd, hdat, h1⟩ := M.obj
    obtain ⟨G', g1, g2⟩ := restrict h' fun b => decide (b ≠ e)
    have gk : ∀ b, b ≠ e → G'.get? b = h'.get? b := fun b hb => g1 b (decide_eq_true hb)
    have ge : G'.get? e = none := g2 e (by simp)
    have J : Inv X pins σ (upd H1 d (.xd [(("at" : Str), .int n)])) ⟨G', g, dr, tk', os⟩ := I1.laid (t' := tk') (fun b o q => (gk b (Nat.ne_of_lt (Nat.lt_of_lt_of_le (Heap.lt_size q) M.new))).trans (M.keep b o q)) M.dbig
      (show ObjOk X.prog X.w (upd H1 d (.xd [(("at" : Str), .int n)])) G' d (.xd [(("at" : Str), .int n)]) from ⟨_, M.ns.at (fun o q => (gk d M.dne).trans q), fun f => relO_fld (v := .int n) ⟨t, rfl⟩ f⟩)
    refine ⟨e, oe, fv, ⟨G', g, dr, tk', os⟩, _, .ref C, some d, rfl, J, fun b o q => ?_, ge, hoe, ⟨hc, hd⟩, hdat, h1, ?_, rfl, I1.bare, raises_own T.exC T.tyC, q1 d (I1.hok.fresh M.dbig)⟩
    · by_cases hb : b = e
      · have q' : G'.get? b = some o := q
        rw [hb, ge] at q'
        exact nomatch q'
      · exact (gk b hb).symm.trans q
    · rw [upd_ne (Ne.symm M.dne)]
      exact I1.hok.fresh M.new
/-- raise BadText(e) -/
theorem ps_raiseInt {a : Expr} {ta : TA} {W : WX} {p pos pos2 : Pos} {k : Nat} (hc : X.calm = true) (T : PySem.OwnX.OwnT X.prog X.K X.mg cn "at" qual js C fI cc cda) (hsp : ∀ (n : Int) (t : Tok), 0 ≤ n → n < 10 ^ 20 → PySem.OwnX.Speaks X.prog X.w qual "at" js fI cc cda (.int n t)) (hr : Room k X.A) (tk : Takes X W) (ha : PA X [a] ta) (hg : Gl X cn) (hdb : (cn == ("__debug__" : Str)) = false)
    (he : starEach (a :: []) X.env = (false, eval a X.env) :: starEach [] X.env := by rfl) (hpl : (backTo pos (starEach [] X.env)).any (·.1) = false := by rfl) :
    PS X (.Raise (some (.Call (.Name cn p) [a] [] pos)) none pos2) (fun _ σ H => tMkInt C ta σ H fun cls d H' => W cls d σ H') := ps_raise hc tk (pmk_int T hsp hr ha hg hdb he hpl)
/-- e.at, e an error that was caught and kept -/
def tErrFld (K : PySem.W.Frag) (C : Addr) (fld : Str) (te : TE) : TE := fun σ H Q => te σ H fun x H1 => ∃ (a d : Addr) (v : V), x = .ref a ∧ H1 a = some (ErrO (.ref C) (some d) a) ∧ H1 d = some (.xd [(fld, v)]) ∧ Q v H1
theorem pe_errFld {fld : Str} {e : Expr} {te : TE} {pos : Pos} (ga : PySem.W.findIn X.K (.ref C) "__getattribute__" = some (some (.builtin "BaseException.__getattribute__"))) (gg : PySem.W.findIn X.K (.ref C) "__getattr__" = some none)
    (exC : PySem.W.subIn X.K (.ref C) (.type "BaseException") = some true) (hdC : PySem.W.hasDictIn X.K C = true) (noN : PySem.W.findIn X.K (.ref C) fld = some none) (he : PE X e te)
    (hb : attributeBase e fld X.env (eval e X.env) = eval e X.env := by rfl) : PE X (.Attribute e fld pos) (tErrFld X.K C fld te) := by
  refine ⟨fun pins s σ H Q I h => ?_⟩
  refine attr_of hb (thn (he.run pins s σ H _ I h) fun u s1 ⟨x, H1, I1, rx, a, d, v, ex, ea, ed, q⟩ => ?_)
  subst ex
  obtain rfl : u = Value.ref a := rx
  obtain ⟨oe, vs, hget, hz, hdat⟩ := errO_at I1.hok ea
  have hx : ObjOk X.prog X.w H1 s1.heap d (.xd [(fld, v)]) := I1.hok d _ ed
  obtain ⟨mA, hns, hr⟩ := hx
  obtain ⟨od, ho, hl⟩ := lookIn_ns hns
  have l : List.lookup fld [(fld, v)] = some v := by simp [List.lookup]
  obtain ⟨u, hu, ru⟩ := RelO.some_of (v := v) (o := mA fld) (by rw [← l]; exact hr fld)
  have J : PySem.W.InstAt s1.heap a oe C (some od) := ⟨hget, hz.1, by unfold PySem.W.notCls; rw [hdat] <;> rfl, by rw [hz.2]; exact ho⟩
  exact HandSPX.exc_get I1.kIn J ga gg exC (PySem.W.findObj_own hdC noN rfl (by rw [hl, hu])) (handed_of ru) ⟨v, H1, I1.tok _, ru, q⟩
/-- isinstance(e, c), e an error that was caught and kept -/
def rIsErr (K : PySem.W.Frag) (C : Addr) : List V → Hp → VK → Prop := fun xs H Q => ∃ (a : Addr) (d : Option Addr) (c : V) (u : Value) (b : Bool), xs = [.ref a, c] ∧ ClsV c u ∧ H a = some (ErrO (.ref C) d a) ∧ (∀ dd, d = some dd → ∃ fs, H dd = some (.xd fs)) ∧ PySem.W.kitOne K (.ref C) u = some b ∧ Q (.bl b) H
structure ErrC (K : PySem.W.Frag) (C : Addr) : Prop where
  cl : (PySem.W.clsIn K C).isSome = true
  ga : PySem.W.findIn K (.ref C) "__getattribute__" = some (some (.builtin "BaseException.__getattribute__"))
  gg : PySem.W.findIn K (.ref C) "__getattr__" = some none
  ex : PySem.W.subIn K (.ref C) (.type "BaseException") = some true
  ca : PySem.W.findIn K (.ref C) "__class__" = some (some (.builtin "object.__class__"))
  cg : PySem.W.specialIn K (.builtin "object.__class__") "__get__" = some (some (.builtin "getset_descriptor.__get__"))
  ct : PySem.W.takesIn K (.builtin "object.__class__") = some true
  ob : PySem.W.mroIn K C (.type "object") = some true
theorem call_isErr (T : ErrC X.K C) : CallR X (.builtin "isinstance") (rIsErr X.K C) := by
  intro pins s σ H xs us Q I r h
  obtain ⟨a, d, c, u, b, rfl, hcu, ea, hxd, e, q⟩ := h
  cases r with
  | cons rx rr =>
    cases rr with
    | cons rt rr =>
      cases rr
      cases rx
      have ec := hcu.eq rt
      subst ec
      obtain ⟨oe, vs, hget, hz, hdat⟩ := errO_at I.hok ea
      have nc : PySem.W.notCls oe = true := by unfold PySem.W.notCls; rw [hdat] <;> rfl
      have J : ∃ od, PySem.W.InstAt s.heap a oe C od := by
        cases d with
        | none => exact ⟨none, hget, hz.1, nc, by rw [hz.2]; trivial⟩
        | some dd =>
          obtain ⟨fs, hfs⟩ := hxd dd rfl
          have hx : ObjOk X.prog X.w H s.heap dd (.xd fs) := I.hok dd _ hfs
          obtain ⟨mA, hns, hr⟩ := hx
          obtain ⟨od, ho, hl⟩ := lookIn_ns hns
          exact ⟨some od, hget, hz.1, nc, by rw [hz.2]; exact ho⟩
      obtain ⟨od, J⟩ := J
      exact PySem.W.kia_one (PySem.W.kitx_exc T.cl T.ga T.gg T.ex T.ca T.cg T.ct T.ob) I.kIn J e (fun z => nomatch z) fun tk => ⟨.bl b, H, I.kept (t' := tk) fun _ _ z => z, rfl, q⟩
end
end L2
namespace L2
open PySem PySem.Spec PyProof.Rows
theorem fold_rep (c : Nat) : ∀ (k : Nat) (acc : Array Nat), ((List.replicate k (#[c] : Array Nat)).foldl (· ++ ·) acc).toList = acc.toList ++ List.replicate k c
  | 0, acc => by simp
  | k + 1, acc => by
    rw [List.replicate_succ, List.foldl_cons, fold_rep c k, List.replicate_succ]
    simp
/-- one sign n times -/
def rRepS : R2 := fun x y H Q => ∃ (y' : Str) (c : Nat) (n : Int), x = .str y' ∧ y'.cps.toList = [c] ∧ y = .int n ∧ 2 ≤ n ∧ n ≤ 100000 ∧ ∀ z : Str, z.cps.toList = List.replicate n.toNat c → Q (.str z) H
theorem op_mulS {X : Cx} : OpR X (binaryOp .Mult) rRepS := by
  intro pins s σ H x y v u Q I rx ry h
  obtain ⟨y', c, n, rfl, hc, rfl, hn, hn2, q⟩ := h
  obtain ⟨t, rfl⟩ := rx
  obtain ⟨t', rfl⟩ := ry
  have ey : y' = (⟨#[c]⟩ : Str) := by
    cases y' with
    | mk a =>
      have : a = #[c] := by
        apply Array.toList_inj.mp
        exact hc
      rw [this]
  subst ey
  have l1 : (⟨#[c]⟩ : Str).length = 1 := rfl
  have esz : sizeLine = 16777216 := rfl
  have hb : (n == 1 || (⟨#[c]⟩ : Str).length == 0) = false := by
    rw [l1]
    have : (n == 1) = false := by
      rw [beq_eq_false_iff_ne]; omega
    rw [this]; rfl
  refine P.mul_str ?_ (fun _ _ => ?_) (fun _ _ => ?_) ?_
  · rw [decide_eq_false (by omega), decide_eq_false (by omega)]; rfl
  · rw [l1]
    have : (1 : Int) ≤ (2 ^ 63 - 1) / n := by
      apply Int.le_ediv_of_mul_le (by omega)
      omega
    omega
  · rw [l1]
    unfold Builtin.Str.tooLong
    exact decide_eq_false (by omega)
  · rw [if_neg (by omega), hb]
    refine ⟨?_, ?_⟩
    · show (_ : Array Nat).size ≤ _
      rw [← Array.length_toList, fold_rep]
      simp
      omega
    · exact ⟨.str _, H, I.tok _, ⟨_, rfl⟩, q _ (by rw [fold_rep]; rfl)⟩
end L2
namespace K2
open PySem L2
def top (i : Nat) : Stmt := PySem.Challenge.pw_mirrorstair_k02_what_is_no_datum.main.body.getD i (.Pass ⟨0, 0, 0, 0⟩)
/-! ### texts as lists of signs -/
abbrev tl (x : Str) : List Nat := x.cps.toList
def mk (l : List Nat) : Str := ⟨l.toArray⟩
theorem tl_mk (l : List Nat) : tl (mk l) = l := rfl
theorem mk_tl (x : Str) : mk (tl x) = x := by cases x; rfl
theorem len_mk (l : List Nat) : (mk l).length = l.length := by simp [mk, Str.length]
theorem len_tl (x : Str) : x.length = (tl x).length := by simp [tl, Str.length]
abbrev isLet (c : Nat) : Bool := decide (97 ≤ c) && decide (c ≤ 122)
abbrev isDig (c : Nat) : Bool := decide (48 ≤ c) && decide (c ≤ 57)
def runLen (p : Nat → Bool) : Nat → List Nat → Nat
  | 0, _ => 0
  | _ + 1, [] => 0
  | n + 1, c :: r => if p c = true then runLen p n r + 1 else 0
theorem runLen_le (p : Nat → Bool) : ∀ (n : Nat) (l : List Nat), runLen p n l ≤ n
  | 0, _ => Nat.le_refl _
  | _ + 1, [] => Nat.zero_le _
  | n + 1, c :: r => by
    unfold runLen
    split
    · exact Nat.succ_le_succ (runLen_le p n r)
    · exact Nat.zero_le _
theorem runLen_len (p : Nat → Bool) : ∀ (n : Nat) (l : List Nat), runLen p n l ≤ l.length
  | 0, _ => Nat.zero_le _
  | _ + 1, [] => Nat.zero_le _
  | n + 1, c :: r => by
    unfold runLen
    split
    · exact Nat.succ_le_succ (runLen_len p n r)
    · exact Nat.zero_le _
/-- what may follow a leaf -/
def Stop (p : Nat → Bool) (t : List Nat) : Prop := ∀ c r, t = c :: r → p c = false
theorem runLen_app (p : Nat → Bool) : ∀ (n : Nat) (w t : List Nat), w.all p = true → w.length ≤ n → Stop p t → runLen p n (w ++ t) = w.length
  | 0, [], _, _, _, _ => rfl
  | 0, _ :: _, _, _, h, _ => by simp at h
  | n + 1, [], [], _, _, _ => rfl
  | n + 1, [], c :: r, _, _, h => by
    show (if p c = true then _ else 0) = 0
    rw [h c r rfl]; rfl
  | n + 1, c :: w, t, h1, h2, h3 => by
    rw [List.all_cons, Bool.and_eq_true] at h1
    show (if p c = true then runLen p n (w ++ t) + 1 else 0) = w.length + 1
    rw [if_pos h1.1, runLen_app p n w t h1.2 (Nat.le_of_succ_le_succ h2) h3]
/-- the end of a number that stands at the head, from its beginning; none where it is refused -/
def numLen (l : List Nat) : Except Nat Nat :=
  let s := if l.head? = some 45 then 1 else 0
  if (l.drop s).head? = some 48 then (if 0 < s then .error s else .ok (s + 1))
  else if runLen isDig 40 (l.drop s) = 0 then .error s else .ok (s + runLen isDig 40 (l.drop s))
inductive D where
  | bl (b : Bool) | num (n : Int) | wd (s : Str) | lst (ds : List D)
def yesT : List Nat := [121, 101, 115]
def noT : List Nat := [110, 111]
def leafOf (l : List Nat) : Except Nat (D × Nat) :=
  if runLen isLet 12 l = 0 then
    match numLen l with
    | .error e => .error e
    | .ok n => match intText? (mk (l.take n)) with
      | none => .error 0
      | some i => .ok (.num i, n)
  else
    if l.take (runLen isLet 12 l) = yesT then .ok (.bl true, 3)
    else if l.take (runLen isLet 12 l) = noT then .ok (.bl false, 2)
    else .ok (.wd (mk (l.take (runLen isLet 12 l))), runLen isLet 12 l)
/-! ### the text of a datum -/
def txtN (n : Int) : List Nat := tl (Str.ofString (toString n))
def txtB (b : Bool) : List Nat := if b then yesT else noT
mutual
def said : D → List Nat
  | .bl b => txtB b
  | .num n => txtN n
  | .wd s => tl s
  | .lst ds => 40 :: (sl ds ++ [41])
def sl : List D → List Nat
  | [] => []
  | d :: r => said d ++ sr r
def sr : List D → List Nat
  | [] => []
  | d :: r => 32 :: (said d ++ sr r)
end
/-- a number that may stand -/
def numOk (n : Int) : Bool :=
  decide (n.natAbs.log2 < 1920) && (decide (intText? (mk (txtN n)) = some n) && (decide ((txtN n).length ≤ 41) &&
  (if (txtN n).head? = some 45 then decide ((txtN n).drop 1 ≠ []) && ((txtN n).drop 1).all isDig && decide (((txtN n).drop 1).length ≤ 40) && decide (((txtN n).drop 1).head? ≠ some 48)
  else decide (txtN n = [48]) || (decide (txtN n ≠ []) && (txtN n).all isDig && decide ((txtN n).length ≤ 40) && decide ((txtN n).head? ≠ some 48)))))
def words16 : List Str := [Str.ofString "say", Str.ofString "if", Str.ofString "fun", Str.ofString "let", Str.ofString "hold", Str.ofString "heed", Str.ofString "up", Str.ofString "give", Str.ofString "put",
  Str.ofString "a", Str.ofString "zz", Str.ofString "abcdefghijkl", Str.ofString "yess", Str.ofString "noo", Str.ofString "plus", Str.ofString "x"]
def parts7 : List Str := [Str.ofString "say", Str.ofString "if", Str.ofString "fun", Str.ofString "let", Str.ofString "hold", Str.ofString "heed", Str.ofString "up"]
def wdOk (s : Str) : Bool := decide (tl s ≠ []) && (tl s).all isLet && decide ((tl s).length ≤ 12) && decide (tl s ≠ yesT) && decide (tl s ≠ noT)
mutual
def okD : D → Bool
  | .bl _ => true
  | .num n => numOk n
  | .wd s => wdOk s
  | .lst ds => okL ds
def okL : List D → Bool
  | [] => true
  | d :: r => okD d && okL r
end
mutual
def depth : D → Nat
  | .bl _ => 0
  | .num _ => 0
  | .wd _ => 0
  | .lst ds => depths ds + 1
def depths : List D → Nat
  | [] => 0
  | d :: r => max (depth d) (depths r)
end
theorem okL_app (a b : List D) : okL (a ++ b) = (okL a && okL b) := by
  induction a with
  | nil => rfl
  | cons d r ih => show (okD d && okL (r ++ b)) = ((okD d && okL r) && okL b); rw [ih, Bool.and_assoc]
theorem sr_app (a b : List D) : sr (a ++ b) = sr a ++ sr b := by
  induction a with
  | nil => rfl
  | cons d r ih => show 32 :: (said d ++ sr (r ++ b)) = 32 :: (said d ++ sr r) ++ sr b; rw [ih]; simp
/-! ### leaves -/
def isLeaf : D → Bool
  | .lst _ => false
  | _ => true
/-- what may stand behind a datum -/
def Behind (t : List Nat) : Prop := ∀ c r, t = c :: r → c = 32 ∨ c = 41
theorem Behind.letters {t : List Nat} (h : Behind t) : Stop isLet t := fun c r e => by
  rcases h c r e with rfl | rfl <;> rfl
theorem Behind.digits {t : List Nat} (h : Behind t) : Stop isDig t := fun c r e => by
  rcases h c r e with rfl | rfl <;> rfl
theorem leaf_word {w t : List Nat} (h0 : w ≠ []) (h1 : w.all isLet = true) (h2 : w.length ≤ 12) (ht : Behind t) :
    leafOf (w ++ t) = if w = yesT then .ok (.bl true, 3) else if w = noT then .ok (.bl false, 2) else .ok (.wd (mk w), w.length) := by
  have e := runLen_app isLet 12 w t h1 h2 ht.letters
  have n0 : ¬ w.length = 0 := fun z => h0 (List.length_eq_zero_iff.mp z)
  unfold leafOf
  rw [e, if_neg n0, List.take_left]
theorem leaf_ok {d : D} (hl : isLeaf d = true) (ok : okD d = true) {t : List Nat} (ht : Behind t) : leafOf (said d ++ t) = .ok (d, (said d).length) := by
  cases d with
  | lst ds => exact nomatch hl
  | bl b =>
    cases b
    · exact (leaf_word (w := noT) (by decide) (by decide) (by decide) ht).trans rfl
    · exact (leaf_word (w := yesT) (by decide) (by decide) (by decide) ht).trans rfl
  | wd s =>
    have ok : wdOk s = true := ok
    unfold wdOk at ok
    simp only [Bool.and_eq_true, decide_eq_true_eq] at ok
    obtain ⟨⟨⟨⟨a, b⟩, c⟩, e⟩, f⟩ := ok
    show leafOf (tl s ++ t) = .ok (.wd s, (tl s).length)
    rw [leaf_word a b c ht, if_neg e, if_neg f, mk_tl]
  | num n =>
    have ok : numOk n = true := ok
    unfold numOk at ok
    simp only [Bool.and_eq_true, decide_eq_true_eq] at ok
    obtain ⟨_, hi, _, ok⟩ := ok
    show leafOf (txtN n ++ t) = .ok (.num n, (txtN n).length)
    have key : runLen isLet 12 (txtN n ++ t) = 0 ∧ numLen (txtN n ++ t) = .ok (txtN n).length := by
      by_cases hm : (txtN n).head? = some 45
      · rw [if_pos hm] at ok
        simp only [Bool.and_eq_true, decide_eq_true_eq] at ok
        obtain ⟨⟨⟨h0, h1⟩, h2⟩, h3⟩ := ok
        cases ht' : txtN n with
        | nil => rw [ht'] at hm; exact nomatch hm
        | cons c r =>
          rw [ht'] at hm h0 h1 h2 h3
          have ec : c = 45 := by simpa using hm
          subst ec
          have h0 : r ≠ [] := h0
          have h1 : r.all isDig = true := h1
          have h2 : r.length ≤ 40 := h2
          have h3 : r.head? ≠ some 48 := h3
          refine ⟨rfl, ?_⟩
          have e := runLen_app isDig 40 r t h1 h2 ht.digits
          have hh : (r ++ t).head? ≠ some 48 := by
            cases r with
            | nil => exact absurd rfl h0
            | cons x y => simpa using h3
          have e2 : runLen isDig 40 (r ++ t) ≠ 0 := by
            rw [e]; exact fun z => h0 (List.length_eq_zero_iff.mp z)
          show (if (r ++ t).head? = some 48 then _ else if runLen isDig 40 (r ++ t) = 0 then Except.error 1 else Except.ok (1 + runLen isDig 40 (r ++ t))) = _
          rw [if_neg hh, if_neg e2, e]
          show Except.ok (1 + r.length) = Except.ok (r.length + 1)
          rw [Nat.add_comm]
      · rw [if_neg hm] at ok
        simp only [Bool.and_eq_true, Bool.or_eq_true, decide_eq_true_eq] at ok
        rcases ok with h | ⟨⟨⟨h0, h1⟩, h2⟩, h3⟩
        · rw [h]; exact ⟨rfl, rfl⟩
        · cases ht' : txtN n with
          | nil => exact absurd ht' h0
          | cons c r =>
            rw [ht'] at hm h1 h2 h3
            have hd : isDig c = true := by rw [List.all_cons, Bool.and_eq_true] at h1; exact h1.1
            have hd' : 48 ≤ c ∧ c ≤ 57 := by simpa [isDig] using hd
            have hc : isLet c = false := by
              unfold isLet
              rw [decide_eq_false (by omega : ¬ 97 ≤ c)]; rfl
            have e := runLen_app isDig 40 (c :: r) t h1 h2 ht.digits
            refine ⟨?_, ?_⟩
            · show (if isLet c = true then _ else 0) = 0
              rw [hc]; rfl
            · have a1 : ¬ ((c :: r) ++ t).head? = some 45 := by simpa using hm
              have a2 : ¬ ((c :: r) ++ t).head? = some 48 := by simpa using h3
              unfold numLen
              simp only [if_neg a1, List.drop_zero, if_neg a2, e]
              simp
    unfold leafOf
    rw [key.1, if_pos rfl, key.2]
    simp only [List.take_left, hi]
/-- a leaf's text begins neither with a bracket nor a blank -/
theorem leaf_head {d : D} (hl : isLeaf d = true) (ok : okD d = true) : ∃ c r, said d = c :: r ∧ c ≠ 40 ∧ c ≠ 41 ∧ c ≠ 32 := by
  cases d with
  | lst ds => exact nomatch hl
  | bl b => cases b <;> exact ⟨_, _, rfl, by decide, by decide, by decide⟩
  | wd s =>
    have ok : wdOk s = true := ok
    unfold wdOk at ok
    simp only [Bool.and_eq_true, decide_eq_true_eq] at ok
    obtain ⟨⟨⟨⟨a, b⟩, c⟩, e⟩, f⟩ := ok
    cases h : tl s with
    | nil => exact absurd h a
    | cons c r =>
      rw [h, List.all_cons, Bool.and_eq_true] at b
      have q : 97 ≤ c ∧ c ≤ 122 := by simpa [isLet] using b.1
      exact ⟨c, r, h, by omega, by omega, by omega⟩
  | num n =>
    have ok : numOk n = true := ok
    unfold numOk at ok
    simp only [Bool.and_eq_true, decide_eq_true_eq] at ok
    obtain ⟨_, hi, _, ok⟩ := ok
    cases h : txtN n with
    | nil => rw [h] at ok; exact nomatch ok
    | cons c r =>
      rw [h] at ok
      refine ⟨c, r, h, ?_⟩
      by_cases hm : c = 45
      · subst hm; decide
      · have a1 : ¬ (c :: r).head? = some 45 := by simpa using hm
        rw [if_neg a1] at ok
        simp only [Bool.and_eq_true, Bool.or_eq_true, decide_eq_true_eq] at ok
        rcases ok with h | ⟨⟨⟨h0, h1⟩, h2⟩, h3⟩
        · have e : c = 48 := by simpa using (List.cons.inj h).1
          subst e; decide
        · rw [List.all_cons, Bool.and_eq_true] at h1
          have q : 48 ≤ c ∧ c ≤ 57 := by simpa [isDig] using h1.1
          exact ⟨by omega, by omega, by omega⟩
theorem said_head {d : D} (ok : okD d = true) : ∃ c r, said d = c :: r ∧ c ≠ 41 ∧ c ≠ 32 := by
  cases d with
  | lst ds => exact ⟨40, _, rfl, by decide, by decide⟩
  | bl b => obtain ⟨c, r, a, _, b, e⟩ := leaf_head (d := .bl b) rfl ok; exact ⟨c, r, a, b, e⟩
  | wd s => obtain ⟨c, r, a, _, b, e⟩ := leaf_head (d := .wd s) rfl ok; exact ⟨c, r, a, b, e⟩
  | num n => obtain ⟨c, r, a, _, b, e⟩ := leaf_head (d := .num n) rfl ok; exact ⟨c, r, a, b, e⟩
/-! ### values in the heap -/
def valOf : D → V
  | .bl b => .bl b
  | .num n => .int n
  | .wd s => .str s
  | .lst _ => .non
mutual
def Rep (H : Hp) : D → V → Prop
  | .bl b, v => v = .bl b
  | .num n, v => v = .int n
  | .wd s, v => v = .str s
  | .lst ds, v => ∃ p xs, v = .ref p ∧ H p = some (.tup xs) ∧ Reps H ds xs
def Reps (H : Hp) : List D → List V → Prop
  | [], xs => xs = []
  | d :: ds, xs => ∃ x r, xs = x :: r ∧ Rep H d x ∧ Reps H ds r
end
/-- tuples stay -/
def Tups (H H' : Hp) : Prop := ∀ b xs, H b = some (.tup xs) → H' b = some (.tup xs)
theorem Tups.refl (H : Hp) : Tups H H := fun _ _ h => h
theorem Tups.trans {A B C : Hp} (h : Tups A B) (g : Tups B C) : Tups A C := fun b xs e => g b xs (h b xs e)
theorem Tups.of {H H' : Hp} (h : Same H H') : Tups H H' := fun _ _ e => h _ _ e
theorem Tups.new {H : Hp} {p : Addr} (h : H p = none) (o : HO) : Tups H (upd H p o) := fun b xs e => by rw [upd_ne (ne_of_none e h)]; exact e
theorem Tups.lst {H : Hp} {p : Addr} {ys : List V} (h : H p = some (.lst ys)) (o : HO) : Tups H (upd H p o) := fun b xs e => by
  rw [upd_ne (ne_of e h (by intro z; cases z))]; exact e
theorem same_new {H : Hp} {p : Addr} (h : H p = none) (o : HO) : Same H (upd H p o) := fun b u q => by rw [upd_ne (ne_of_none q h)]; exact q
mutual
theorem Rep.mono {H H' : Hp} (t : Tups H H') : ∀ {d : D} {v : V}, Rep H d v → Rep H' d v
  | .bl _, _, h => h
  | .num _, _, h => h
  | .wd _, _, h => h
  | .lst _, _, h => by
    obtain ⟨p, xs, e, h, r⟩ := h
    exact ⟨p, xs, e, t _ _ h, Reps.mono t r⟩
theorem Reps.mono {H H' : Hp} (t : Tups H H') : ∀ {ds : List D} {xs : List V}, Reps H ds xs → Reps H' ds xs
  | [], _, h => h
  | _ :: _, _, h => by
    obtain ⟨x, r, e, a, b⟩ := h
    exact ⟨x, r, e, Rep.mono t a, Reps.mono t b⟩
end
theorem Reps.length {H : Hp} : ∀ {ds : List D} {xs : List V}, Reps H ds xs → xs.length = ds.length
  | [], _, h => by cases h; rfl
  | _ :: _, _, h => by
    obtain ⟨x, r, rfl, a, b⟩ := h
    rw [List.length_cons, List.length_cons, Reps.length b]
theorem Reps.snoc {H : Hp} {d : D} {v : V} (q : Rep H d v) : ∀ {ds : List D} {xs : List V}, Reps H ds xs → Reps H (ds ++ [d]) (xs ++ [v])
  | [], _, h => by cases h; exact ⟨v, [], rfl, q, rfl⟩
  | _ :: _, _, h => by
    obtain ⟨x, r, rfl, a, b⟩ := h
    exact ⟨x, r ++ [v], rfl, a, Reps.snoc q b⟩
theorem Reps.get {H : Hp} : ∀ {ds : List D} {xs : List V} {i : Nat} {x : V}, Reps H ds xs → xs[i]? = some x → ∃ d, ds[i]? = some d ∧ Rep H d x
  | [], _, _, _, h, e => by cases h; simp at e
  | d :: _, _, 0, _, h, e => by
    obtain ⟨x, r, rfl, a, b⟩ := h
    cases (show some x = some _ from e); exact ⟨d, rfl, a⟩
  | _ :: _, _, i + 1, _, h, e => by
    obtain ⟨x, r, rfl, a, b⟩ := h
    exact Reps.get (i := i) b e
theorem Rep.leaf {H : Hp} {d : D} (hl : isLeaf d = true) {v : V} (h : Rep H d v) : v = valOf d := by
  cases d <;> first | exact h | exact nomatch hl
theorem Rep.ofLeaf {H : Hp} {d : D} (hl : isLeaf d = true) : Rep H d (valOf d) := by
  cases d <;> first | rfl | exact nomatch hl
end K2
namespace K2
open PySem L2
section
variable {P : Program} {w : World} {K : PySem.W.Frag} {mg : Str → Option Value} {base : Heap} {f : Addr} {fd : FuncData}
def slotI (σ : St) (i : Nat) : Int := match σ[i]? with
  | some (some (.int n)) => n
  | _ => 0
/-! ### run_end -/
abbrev sRun : Stmt := top 18
theorem scRun : FnScope ["text", "at", "most", "low", "high", "end"] ["text", "at", "most", "low", "high"] (defScope sRun) := ⟨rfl, rfl, rfl, by decide +kernel, rfl, by decide +kernel, by decide +kernel⟩
def spRun : Sp := fun vs H Q _ => ∃ (z : Str) (at_ most : Nat) (lo hi : Nat), vs = [.str z, .int at_, .int most, .str ⟨#[lo]⟩, .str ⟨#[hi]⟩] ∧ z.length ≤ sizeLine ∧
  Q (.int ((at_ + runLen (fun c => decide (lo ≤ c) && decide (c ≤ hi)) most ((tl z).drop at_) : Nat) : Int)) H
theorem ok_run (F : Fun K "run_end" "run_end" sRun f fd) (ml : mg "len" = none) : FnOk P w K mg base CX0 1 f fd ["text", "at", "most", "low", "high"] spRun := by
  refine F.ok scRun (fun vs H Q E h => ?_) (fun cdv A outer s H vs Q E hr h => ?_)
  · obtain ⟨z, a, m, lo, hi, rfl, _⟩ := h
    rfl
  obtain ⟨z, a, m, lo, hi, rfl, hz, q⟩ := h
  refine ⟨_, pss_cons (ps_set (i := 5) scRun.nd rfl (.inl rfl) (pv 1))
    (pss_cons (ps_while PassesOwn.never (PW.pt (pw_and (pt_cmpR op_lt (pv 5) (pe_callB call_len_str rfl ml PySem.boot_len (pa_cons (pv 0) pa_nil)) (nomark _))
        (pw_and (pt_cmpR op_lt (pv 5) (pe_op op_add (pv 1) (pv 2)) (nomark _))
        (pw_and1 (pt_chain op_le_str op_le_str (pv 3) (pe_item_str (pv 0) (pv 5) (fun _ _ => rfl)) (pv 4))))))
      (pss_one (ps_aug (i := 5) scRun.nd rfl (.inl rfl) pe_int ip_add)))
    (pss_one (ps_ret (pv 5)))), ?_⟩
  refine ⟨_, rfl, ?_⟩
  let p : Nat → Bool := fun c => decide (lo ≤ c) && decide (c ≤ hi)
  let W : Nat → St → Hp → Prop := fun n σ H' => ∃ k : Nat, k ≤ m ∧ n = m - k ∧ σ = [some (.str z), some (.int a), some (.int m), some (.str ⟨#[lo]⟩), some (.str ⟨#[hi]⟩), some (.int ((a + k : Nat) : Int))] ∧ H' = H ∧
      k + runLen p (m - k) ((tl z).drop (a + k)) = runLen p m ((tl z).drop a)
  refine ⟨W, ⟨m, 0, Nat.zero_le _, rfl, rfl, rfl, by simp⟩, ?_⟩
  rintro n σ H' ⟨k, hk, rfl, rfl, rfl, e⟩
  have over : runLen p (m - k) ((tl z).drop (a + k)) = 0 → Q (V.int ((a + k : Nat) : Int)) H' := fun h0 => by
    rw [h0, Nat.add_zero] at e
    rw [e]; exact q
  refine ⟨_, rfl, _, rfl, z, rfl, hz, _, _, rfl, rfl, _, rfl, ?_⟩
  refine ite2 (fun c => ?_) (fun c => ?_)
  · have c1 : ((a + k : Nat) : Int) < (z.length : Int) := of_decide_eq_true c
    have c1' : a + k < (tl z).length := by rw [← len_tl]; omega
    refine ⟨_, rfl, _, rfl, _, rfl, _, _, rfl, rfl, _, _, rfl, rfl, _, rfl, ?_⟩
    refine ite2 (fun c => ?_) (fun c => ?_)
    · have c2 : ((a + k : Nat) : Int) < (a : Int) + (m : Int) := of_decide_eq_true c
      have ek : m - k = (m - (k + 1)) + 1 := by omega
      have eg : z.cps[(((a + k : Nat) : Int)).toNat]? = some (tl z)[a + k] := by
        rw [Int.toNat_natCast, ← Array.getElem?_toList]
        exact List.getElem?_eq_getElem c1'
      have ed : (tl z).drop (a + k) = (tl z)[a + k] :: (tl z).drop (a + (k + 1)) := List.drop_eq_getElem_cons c1'
      have hl63 : z.length < 2 ^ 63 := Nat.lt_of_le_of_lt hz line63
      refine ⟨_, rfl, _, rfl, _, rfl, z, _, _, rfl, rfl, by omega, by omega, c1, eg, ?_⟩
      refine ⟨_, _, rfl, rfl, _, rfl, ?_⟩
      rw [ed, ek] at e over
      have le1 : ∀ x y : Nat, (!decide ([y] < [x])) = decide (x ≤ y) := fun x y => by
        by_cases h : x ≤ y
        · rw [decide_eq_true h, decide_eq_false (by intro z; cases z with | rel h => omega | cons h => cases h)]; rfl
        · have hlt : [y] < [x] := List.Lex.rel (by omega)
          rw [decide_eq_false h, decide_eq_true hlt]; rfl
      refine ite2 (fun c => ?_) (fun c => ?_)
      · have c3 : lo ≤ (tl z)[a + k] := of_decide_eq_true ((le1 _ _).symm.trans c)
        refine ⟨_, rfl, _, _, rfl, rfl, _, rfl, ?_⟩
        refine ite2 (fun c => ?_) (fun c => ?_)
        · have c4 : (tl z)[a + k] ≤ hi := of_decide_eq_true ((le1 _ _).symm.trans c)
          have hp : p (tl z)[a + k] = true := by
            show (decide _ && decide _) = true
            rw [decide_eq_true c3, decide_eq_true c4]; rfl
          refine ⟨fun σ' H' => ∃ m', m' < m - k ∧ W m' σ' H', fun _ _ h => h, ?_⟩
          refine ⟨_, rfl, _, _, rfl, rfl, ?_⟩
          refine ⟨m - (k + 1), by omega, k + 1, by omega, rfl, rfl, rfl, ?_⟩
          have e' : k + (if p (tl z)[a + k] = true then runLen p (m - (k + 1)) ((tl z).drop (a + (k + 1))) + 1 else 0) = runLen p m ((tl z).drop a) := e
          rw [if_pos hp] at e'
          omega
        · have c4 : ¬ (tl z)[a + k] ≤ hi := of_decide_eq_false ((le1 _ _).symm.trans (Bool.eq_false_iff.mpr c))
          refine ⟨_, rfl, over ?_⟩
          show (if p (tl z)[a + k] = true then _ else 0) = 0
          rw [if_neg]
          show ¬ (decide _ && decide _) = true
          rw [decide_eq_false c4, Bool.and_false]; exact Bool.false_ne_true
      · have c3 : ¬ lo ≤ (tl z)[a + k] := of_decide_eq_false ((le1 _ _).symm.trans (Bool.eq_false_iff.mpr c))
        refine ⟨_, rfl, iteF ?_⟩
        refine ⟨_, rfl, over ?_⟩
        show (if p (tl z)[a + k] = true then _ else 0) = 0
        rw [if_neg]
        show ¬ (decide _ && decide _) = true
        rw [decide_eq_false c3, Bool.false_and]; exact Bool.false_ne_true
    · have c2 : ¬ ((a + k : Nat) : Int) < (a : Int) + (m : Int) := of_decide_eq_false (Bool.eq_false_iff.mpr c)
      have ek : m - k = 0 := by omega
      refine iteF ⟨_, rfl, over ?_⟩
      rw [ek]; rfl
  · have c1 : ¬ ((a + k : Nat) : Int) < (z.length : Int) := of_decide_eq_false (Bool.eq_false_iff.mpr c)
    refine iteF ⟨_, rfl, over ?_⟩
    rw [List.drop_eq_nil_of_le (by rw [← len_tl]; omega)]
    cases m - k <;> rfl
/-! ### startswith a sign at a place -/
theorem sw (z : Str) (c at_ : Nat) : Txt.startswith3 z ⟨#[c]⟩ (at_ : Int) = decide (((tl z).drop at_).head? = some c) := by
  have hl : z.length = (tl z).length := len_tl z
  have ef : PySem.fromIndex z.length (at_ : Int) = at_ := by unfold PySem.fromIndex; rw [if_neg (by omega)]; omega
  have e1 : (⟨#[c]⟩ : Str).length = 1 := rfl
  unfold Txt.startswith3 Builtin.Str.subAt
  rw [ef, e1]
  by_cases h : at_ < (tl z).length
  · have ed : (tl z).drop at_ = (tl z)[at_] :: (tl z).drop (at_ + 1) := List.drop_eq_getElem_cons h
    have ex : z.cps.extract at_ (at_ + 1) = #[(tl z)[at_]] := by
      apply Array.ext'
      rw [Array.toList_extract]
      show List.extract (tl z) at_ (at_ + 1) = [(tl z)[at_]]
      rw [List.extract_eq_take_drop, ed]
      simp
    rw [ed, ex, decide_eq_true (by omega : at_ + 1 ≤ z.length), Bool.true_and]
    show (#[(tl z)[at_]] == #[c]) = decide (some (tl z)[at_] = some c)
    by_cases e : (tl z)[at_] = c
    · rw [e]; simp
    · rw [decide_eq_false (fun q => e (Option.some.inj q))]
      exact beq_eq_false_iff_ne.mpr (fun q => e (by simpa using q))
  · rw [decide_eq_false (by omega : ¬ at_ + 1 ≤ z.length), List.drop_eq_nil_of_le (by omega), Bool.false_and]; rfl
end
end K2
namespace K2
open PySem L2
/-- the error is told: of the class at C, with its own new dict, that holds this number -/
def Bad (C : Addr) (E : XK) (n : Nat) (H : Hp) : Prop := ∀ d, H d = none → E (.ref C) (some d) (upd H d (.xd [(("at" : Str), .int (n : Int))]))
section
variable {P : Program} {w : World} {K : PySem.W.Frag} {mg : Str → Option Value} {base : Heap} {f : Addr} {fd : FuncData} {js : Expr} {CB fI cc cda : Addr}
/-! ### number_end -/
abbrev sNum : Stmt := top 19
theorem scNum : FnScope ["text", "at", "start", "end"] ["text", "at"] (defScope sNum) := ⟨rfl, rfl, rfl, by decide +kernel, rfl, by decide +kernel, by decide +kernel⟩
def spNum (C : Addr) : Sp := fun vs H Q E => ∃ (z : Str) (at_ : Nat), vs = [.str z, .int at_] ∧ z.length ≤ 100000 ∧ at_ ≤ z.length ∧
  (∀ n, numLen ((tl z).drop at_) = .ok n → Q (.int ((at_ + n : Nat) : Int)) H) ∧ (∀ e, numLen ((tl z).drop at_) = .error e → Bad C E (at_ + e) H)
variable {g1 : Addr} {gd1 : FuncData}
theorem ok_num (F : Fun K "number_end" "number_end" sNum f fd) (T : PySem.OwnX.OwnT P K mg "BadText" "at" "BadText.__init__" js CB fI cc cda) (hsp : ∀ (n : Int) (t : Tok), 0 ≤ n → n < 10 ^ 20 → PySem.OwnX.Speaks P w "BadText.__init__" "at" js fI cc cda (.int n t))
    (G1 : FnOk P w K mg base CX0 1 g1 gd1 ["text", "at", "most", "low", "high"] spRun) (b1 : Binds K gd1 ["text", "at", "most", "low", "high"] []) (k1 : PySem.W.keepIn K (.ref g1) = true) (m1 : mg "run_end" = some (.ref g1))
    {tf : Tok} (mf : mg "FIGURES" = some (.int 40 tf)) : FnOk P w K mg base (L2.CX P w) 3 f fd ["text", "at"] (spNum CB) := by
  refine F.okX scNum (fun vs H Q E h => ?_) (fun cdv A outer s H vs Q E hr h => ?_)
  · obtain ⟨z, a, rfl, _⟩ := h
    rfl
  obtain ⟨z, a, rfl, hz, ha, hok, hbad⟩ := h
  have esz := sizeLine_eq
  refine ⟨_, pss_cons (ps_set (i := 2) scNum.nd rfl (.inl rfl) (pv 1))
    (C8.pss_cut (ps_if (pt_val (pe_bm PySem.F.plainAttrs_str PySem.F.slot_str_startswith PySem.F.type_str_startswith mt_startswith3 (pv 0) (pa_cons pe_str (pa_cons (pv 1) pa_nil))))
        (pss_one (ps_set (i := 2) scNum.nd rfl (.inl rfl) (pe_op op_add (pv 1) pe_int))) pss_nil)
    (pss_cons (ps_if (pt_val (pe_bm PySem.F.plainAttrs_str PySem.F.slot_str_startswith PySem.F.type_str_startswith mt_startswith3 (pv 0) (pa_cons pe_str (pa_cons (pv 2) pa_nil))))
        (pss_cons (ps_if (pt_cmpR op_gt (pv 2) (pv 1) (nomark _)) (pss_one (ps_raiseInt rfl T hsp hr (takes_of rfl rfl rfl rfl) (pa_cons (pv 2) pa_nil) rfl (by decide))) pss_nil) (pss_one (ps_ret (pe_op op_add (pv 2) pe_int)))) pss_nil)
    (pss_cons (ps_set (i := 3) scNum.nd rfl (.inl rfl) (pe_call G1 (hr.mono (by decide)) rfl m1 k1 b1 .nil pass0 (pa_cons (pv 0) (pa_cons (pv 2) (pa_cons (pe_glob (v := .int 40) rfl mf ⟨_, rfl⟩) (pa_cons pe_str (pa_cons pe_str pa_nil)))))))
    (pss_cons (ps_if (pt_cmpR op_eq (pv 3) (pv 2) (nomark _)) (pss_one (ps_raiseInt rfl T hsp hr (takes_of rfl rfl rfl rfl) (pa_cons (pv 2) pa_nil) rfl (by decide))) pss_nil)
    (pss_one (ps_ret (pv 3))))))), ?_⟩
  have s45 : (Str.ofString "-") = ⟨#[45]⟩ := by decide +kernel
  have s48 : (Str.ofString "0") = ⟨#[48]⟩ := by decide +kernel
  have s57 : (Str.ofString "9") = ⟨#[57]⟩ := by decide +kernel
  rw [s45, s48, s57]
  have ex : ∃ s : Nat, s = if ((tl z).drop a).head? = some 45 then 1 else 0 := ⟨_, rfl⟩
  obtain ⟨st, hst⟩ := ex
  have hs1 : st ≤ 1 := by rw [hst]; split <;> omega
  have hn' : numLen ((tl z).drop a) = (if ((tl z).drop (a + st)).head? = some 48 then (if 0 < st then Except.error st else .ok (st + 1))
    else if runLen isDig 40 ((tl z).drop (a + st)) = 0 then .error st else .ok (st + runLen isDig 40 ((tl z).drop (a + st)))) := by
    rw [← List.drop_drop, hst]; rfl
  have bad : numLen ((tl z).drop a) = .error st → ∀ d, H d = none → E (.ref CB) (some d) (upd H d (.xd [(("at" : Str), .int ((a + st : Nat) : Int))])) := fun e => hbad st e
  refine ⟨_, rfl, ?_⟩
  refine ⟨fun σ H' => H' = H ∧ σ = [some (.str z), some (.int a), some (.int ((a + st : Nat) : Int)), none], ?_, ?_⟩
  · refine ⟨_, rfl, rfl, _, rfl, z, _, (a : Int), rfl, rfl, _, rfl, ?_⟩
    rw [sw]
    refine ite2 (fun c => ?_) (fun c => ?_)
    · have c := of_decide_eq_true c
      rw [if_pos c] at hst
      refine ⟨_, rfl, _, _, rfl, rfl, rfl, ?_⟩
      rw [hst]; rfl
    · have c := of_decide_eq_false (Bool.eq_false_iff.mpr c)
      rw [if_neg c] at hst
      refine ⟨rfl, ?_⟩
      rw [hst]; rfl
  rintro σ H' ⟨rfl, rfl⟩
  refine ⟨_, rfl, rfl, _, rfl, z, _, ((a + st : Nat) : Int), rfl, rfl, _, rfl, ?_⟩
  rw [sw]
  refine ite2 (fun c => ?_) (fun c => ?_)
  · have c := of_decide_eq_true c
    rw [if_pos c] at hn'
    refine ⟨_, rfl, _, rfl, _, _, rfl, rfl, _, rfl, ?_⟩
    refine ite2 (fun c' => ?_) (fun c' => ?_)
    · have c' := of_decide_eq_true c'
      rw [if_pos (by omega)] at hn'
      exact ⟨_, rfl, _, rfl, by omega, by omega, bad hn'⟩
    · have c' := of_decide_eq_false (Bool.eq_false_iff.mpr c')
      rw [if_neg (by omega)] at hn'
      exact ⟨_, rfl, _, _, rfl, rfl, hok _ hn'⟩
  · have c := of_decide_eq_false (Bool.eq_false_iff.mpr c)
    rw [if_neg c] at hn'
    refine ⟨_, rfl, _, rfl, z, a + st, 40, 48, 57, rfl, by omega, ?_⟩
    refine ⟨_, rfl, _, rfl, rfl, _, rfl, ?_⟩
    have hd : (fun c => decide (48 ≤ c) && decide (c ≤ 57)) = isDig := rfl
    rw [hd]
    refine ite2 (fun c' => ?_) (fun c' => ?_)
    · have c' := V.int.inj (of_decide_eq_true c')
      rw [if_pos (by omega)] at hn'
      exact ⟨_, rfl, _, rfl, by omega, by omega, bad hn'⟩
    · have c' := of_decide_eq_false (Bool.eq_false_iff.mpr c')
      have c'' : ¬ runLen isDig 40 ((tl z).drop (a + st)) = 0 := fun z0 => c' (by rw [z0]; rfl)
      rw [if_neg c''] at hn'
      refine ⟨_, rfl, ?_⟩
      have q := hok _ hn'
      rw [← Nat.add_assoc] at q
      exact q
end
end K2
namespace K2
open PySem L2 NumText
theorem back_digits : ∀ (cs : List Nat), AllDigits cs → (cs.map Char.ofNat).map Char.toNat = cs
  | [], _ => rfl
  | c :: r, h => by
    have hc := h.head
    have e : (Char.ofNat c).toNat = c := by
      have : ∀ c : Fin 58, (Char.ofNat c.1).toNat = c.1 := by decide
      exact this ⟨c, by omega⟩
    show (Char.ofNat c).toNat :: (r.map Char.ofNat).map Char.toNat = c :: r
    rw [e, back_digits r h.tail]
/-- figures as they may stand: none is nought ahead but in 0 itself -/
def Canon (cs : List Nat) : Prop := AllDigits cs ∧ cs ≠ [] ∧ (cs = [48] ∨ cs.head? ≠ some 48)
theorem canon_digits {cs : List Nat} (h : Canon cs) : Nat.toDigits 10 (digitsVal cs) = cs.map Char.ofNat := by
  obtain ⟨h1, h2, h3⟩ := h
  cases cs with
  | nil => exact absurd rfl h2
  | cons c r =>
    refine toDigits_digitsVal r.length (c :: r) rfl h1 ?_
    rcases h3 with h3 | h3
    · left
      have := (List.cons.inj h3).2
      rw [this]; rfl
    · right
      refine ⟨c, r, rfl, ?_⟩
      have hc := h1.head
      have : c ≠ 48 := fun e => h3 (by rw [e]; rfl)
      omega
theorem txt_pos {cs : List Nat} (h : Canon cs) : txtN ((digitsVal cs : Nat) : Int) = cs := by
  show tl (Str.ofString (toString ((digitsVal cs : Nat) : Int))) = cs
  have := PySem.W.KIN.signs_num (digitsVal cs)
  rw [canon_digits h, back_digits cs h.1] at this
  exact this
theorem txt_neg {cs : List Nat} (h : Canon cs) (h0 : cs ≠ [48]) : txtN (-((digitsVal cs : Nat) : Int)) = 45 :: cs := by
  have hpos : 0 < digitsVal cs := by
    obtain ⟨h1, h2, h3⟩ := h
    cases cs with
    | nil => exact absurd rfl h2
    | cons c r =>
      have hc := h1.head
      rcases h3 with h3 | h3
      · exact absurd h3 h0
      · have : c ≠ 48 := fun e => h3 (by rw [e]; rfl)
        exact digitsVal_pos (by omega)
  obtain ⟨m, hm⟩ : ∃ m, digitsVal cs = m + 1 := ⟨digitsVal cs - 1, by omega⟩
  have e : (-((digitsVal cs : Nat) : Int)) = Int.negSucc m := by rw [hm]; rfl
  show (Str.ofString (toString (-((digitsVal cs : Nat) : Int)))).cps.toList = 45 :: cs
  rw [e, PyProof.Rows.signs_ofString]
  show ("-" ++ Nat.repr (m + 1)).toList.map Char.toNat = _
  rw [String.toList_append, List.map_append, Nat.toList_repr, ← hm, canon_digits h, back_digits cs h.1]
  rfl
theorem run_all (p : Nat → Bool) : ∀ (n : Nat) (l : List Nat), (l.take (runLen p n l)).all p = true
  | 0, _ => by simp [runLen]
  | _ + 1, [] => rfl
  | n + 1, c :: r => by
    unfold runLen
    split
    · rename_i h
      rw [List.take_succ_cons, List.all_cons, h, run_all p n r]; rfl
    · rfl
theorem digits_of {l : List Nat} (h : l.all isDig = true) : AllDigits l := fun c hc => by
  have := List.all_eq_true.mp h c hc
  simpa [isDig] using this
theorem dig_lt : ∀ (cs : List Nat), AllDigits cs → digitsVal cs < 10 ^ cs.length := by
  have key : ∀ (cs : List Nat) (a : Nat), AllDigits cs → cs.foldl (fun acc c => acc * 10 + (c - 48)) a < (a + 1) * 10 ^ cs.length := by
    intro cs
    induction cs with
    | nil => intro a _; simp
    | cons c r ih =>
      intro a h
      have hc := h.head
      have := ih (a * 10 + (c - 48)) h.tail
      show r.foldl _ (a * 10 + (c - 48)) < _
      rw [List.length_cons, Nat.pow_succ]
      have h2 : (a * 10 + (c - 48) + 1) * 10 ^ r.length ≤ (a + 1) * (10 ^ r.length * 10) := by
        rw [Nat.mul_comm (10 ^ r.length) 10, ← Nat.mul_assoc]
        exact Nat.mul_le_mul_right _ (by omega)
      omega
  intro cs h
  have := key cs 0 h
  rw [Nat.zero_add, Nat.one_mul] at this
  exact this
theorem small_log {i : Int} (h : i.natAbs < 10 ^ 40) : i.natAbs.log2 < 1920 := by
  have h2 : i.natAbs < 2 ^ 1920 := Nat.lt_of_lt_of_le h (by decide +kernel)
  exact PySem.Flt.log2_lt_of (by decide) h2
/-- a number's text is read, and written again -/
theorem num_text {l : List Nat} {n : Nat} (h : numLen l = .ok n) : ∃ i, intText? (mk (l.take n)) = some i ∧ txtN i = l.take n ∧ numOk i = true ∧ n ≤ l.length ∧ n ≤ 41 ∧ l.take n ≠ [] := by
  -- the sign, the figures
  have pos : ∀ (cs : List Nat), Canon cs → cs.length ≤ 40 → ∃ i, intText? (mk cs) = some i ∧ txtN i = cs ∧ numOk i = true := fun cs hc hl => by
    have e1 : intText? (mk cs) = some ((digitsVal cs : Nat) : Int) := intText_digits (x := mk cs) hc.1 hc.2.1 (by rw [len_mk]; omega)
    have e2 := txt_pos hc
    refine ⟨_, e1, e2, ?_⟩
    have hb : ((digitsVal cs : Nat) : Int).natAbs < 10 ^ 40 := by
      have := dig_lt cs hc.1
      exact Nat.lt_of_lt_of_le this (Nat.pow_le_pow_right (by decide) hl)
    have hm : ¬ cs.head? = some 45 := fun z => by
      cases cs with
      | nil => exact nomatch z
      | cons c r =>
        have hc' := hc.1.head
        have : c = 45 := by simpa using z
        omega
    unfold numOk
    rw [e2, e1, if_neg hm, decide_eq_true (small_log hb), decide_eq_true rfl, decide_eq_true (show cs.length ≤ 41 by omega)]
    rcases hc.2.2 with h3 | h3
    · rw [h3]; rfl
    · have ha : cs.all isDig = true := List.all_eq_true.mpr fun c hcm => by
        have := hc.1 c hcm
        simp [isDig]; omega
      rw [decide_eq_true hc.2.1, ha, decide_eq_true hl, decide_eq_true h3]; simp
  have neg : ∀ (cs : List Nat), Canon cs → cs ≠ [48] → cs.length ≤ 40 → ∃ i, intText? (mk (45 :: cs)) = some i ∧ txtN i = 45 :: cs ∧ numOk i = true := fun cs hc h0 hl => by
    have e1 : intText? (mk (45 :: cs)) = some (-((digitsVal cs : Nat) : Int)) := intText_neg (x := mk (45 :: cs)) rfl hc.1 hc.2.1 (by rw [len_mk, List.length_cons]; omega)
    have e2 := txt_neg hc h0
    refine ⟨_, e1, e2, ?_⟩
    have hb : (-((digitsVal cs : Nat) : Int)).natAbs < 10 ^ 40 := by
      have := dig_lt cs hc.1
      rw [Int.natAbs_neg]
      exact Nat.lt_of_lt_of_le this (Nat.pow_le_pow_right (by decide) hl)
    have h3 : cs.head? ≠ some 48 := by
      rcases hc.2.2 with h3 | h3
      · exact absurd h3 h0
      · exact h3
    have ha : cs.all isDig = true := List.all_eq_true.mpr fun c hcm => by
      have := hc.1 c hcm
      simp [isDig]; omega
    unfold numOk
    rw [e2, e1, if_pos (show (45 :: cs).head? = some 45 from rfl), decide_eq_true (small_log hb), decide_eq_true rfl, decide_eq_true (show (45 :: cs).length ≤ 41 by rw [List.length_cons]; omega)]
    show (true && (true && (true && (decide (cs ≠ []) && cs.all isDig && decide (cs.length ≤ 40) && decide (cs.head? ≠ some 48))))) = true
    rw [decide_eq_true hc.2.1, ha, decide_eq_true hl, decide_eq_true h3]; rfl
  have canonRun : ∀ r : List Nat, ¬ r.head? = some 48 → ¬ runLen isDig 40 r = 0 → Canon (r.take (runLen isDig 40 r)) ∧ (r.take (runLen isDig 40 r)).length = runLen isDig 40 r ∧ r.take (runLen isDig 40 r) ≠ [48] := fun r h1 h2 => by
    have hl := runLen_len isDig 40 r
    have ll : (r.take (runLen isDig 40 r)).length = runLen isDig 40 r := by rw [List.length_take]; omega
    have hh : (r.take (runLen isDig 40 r)).head? ≠ some 48 := by
      cases r with
      | nil => exact fun z => nomatch z
      | cons c t =>
        cases hk : runLen isDig 40 (c :: t) with
        | zero => exact absurd hk h2
        | succ k => rw [List.take_succ_cons]; exact h1
    refine ⟨⟨digits_of (run_all _ _ _), fun z => ?_, .inr hh⟩, ll, fun z => hh (by rw [z]; rfl)⟩
    rw [z] at ll
    exact h2 ll.symm
  unfold numLen at h
  by_cases h1 : l.head? = some 45
  · simp only [if_pos h1] at h
    cases l with
    | nil => exact nomatch h1
    | cons c r =>
      have ec : c = 45 := by simpa using h1
      subst ec
      split at h
      · cases h
      · rename_i h2
        have h2 : ¬ r.head? = some 48 := h2
        split at h
        · cases h
        · rename_i h3
          have h3 : ¬ runLen isDig 40 r = 0 := h3
          cases h
          obtain ⟨c1, c2, c3⟩ := canonRun r h2 h3
          have hle := runLen_le isDig 40 r
          have hlen := runLen_len isDig 40 r
          have et : (45 :: r).take (1 + runLen isDig 40 r) = 45 :: r.take (runLen isDig 40 r) := by rw [Nat.add_comm, List.take_succ_cons]
          show ∃ i, intText? (mk ((45 :: r).take (1 + runLen isDig 40 r))) = some i ∧ _
          obtain ⟨i, e1, e2, e3⟩ := neg _ c1 c3 (by omega)
          refine ⟨i, by rw [et]; exact e1, by rw [e2]; exact et.symm, e3, ?_, ?_, ?_⟩
          · show 1 + runLen isDig 40 r ≤ r.length + 1
            omega
          · show 1 + runLen isDig 40 r ≤ 41
            omega
          · show (45 :: r).take (1 + runLen isDig 40 r) ≠ []
            rw [et]; exact fun z => nomatch z
  · simp only [if_neg h1, List.drop_zero] at h
    split at h
    · rename_i h2
      have h' : (0 + 1 : Nat) = n := by simpa using h
      subst h'
      cases l with
      | nil => exact nomatch h2
      | cons c r =>
        have ec : c = 48 := by simpa using h2
        subst ec
        obtain ⟨i, e1, e2, e3⟩ := pos [48] ⟨fun c hc => by rw [List.mem_singleton.mp hc]; decide, by decide, .inl rfl⟩ (by decide)
        exact ⟨i, e1, e2, e3, by simp, by decide, fun z => nomatch z⟩
    · rename_i h2
      split at h
      · cases h
      · rename_i h3
        have h' : 0 + runLen isDig 40 l = n := by simpa using h
        subst h'
        rw [Nat.zero_add]
        obtain ⟨c1, c2, c3⟩ := canonRun l h2 h3
        have hle := runLen_le isDig 40 l
        have hlen := runLen_len isDig 40 l
        obtain ⟨i, e1, e2, e3⟩ := pos _ c1 (by omega)
        exact ⟨i, e1, e2, e3, hlen, by omega, c1.2.1⟩
end K2
namespace K2
open PySem L2
theorem cut_at {z : Str} {a n : Nat} (ha : a ≤ (tl z).length) : cutS z (some (a : Int)) (some ((a + n : Nat) : Int)) = mk (((tl z).drop a).take n) := by
  unfold cutS mk
  rw [HT.sIx_nat, HT.sIx_nat, len_tl z]
  congr 2
  rw [Nat.min_eq_left ha]
  apply List.take_eq_take_iff.mpr
  rw [List.length_drop]
  have key : ∀ L : Nat, a ≤ L → min (min (a + n) L - a) (L - a) = min n (L - a) := fun L h => by omega
  exact key _ ha
theorem mk_inj {a b : List Nat} (h : mk a = mk b) : a = b := by
  have := congrArg tl h
  exact this
/-- what is read as a leaf is one that may stand, and its text stood there -/
theorem leaf_back {l : List Nat} {d : D} {n : Nat} (h : leafOf l = .ok (d, n)) : isLeaf d = true ∧ okD d = true ∧ said d = l.take n ∧ n ≤ l.length ∧ 0 < n := by
  unfold leafOf at h
  split at h
  · split at h
    · cases h
    · rename_i m hm
      obtain ⟨i, e1, e2, e3, e4, e5, e6⟩ := num_text hm
      rw [e1] at h
      cases h
      refine ⟨rfl, e3, e2, e4, ?_⟩
      cases n with
      | zero => exact absurd rfl e6
      | succ n => exact Nat.succ_pos _
  · rename_i h0
    have hle := runLen_len isLet 12 l
    have hl12 := runLen_le isLet 12 l
    have ll : (l.take (runLen isLet 12 l)).length = runLen isLet 12 l := by rw [List.length_take]; omega
    split at h
    · rename_i h1
      cases h
      rw [h1] at ll
      have ll : 3 = runLen isLet 12 l := ll
      refine ⟨rfl, rfl, ?_, by omega, by decide⟩
      have e : l.take (runLen isLet 12 l) = l.take 3 := by rw [← ll]
      rw [← e, h1]; rfl
    · rename_i h1
      split at h
      · rename_i h2
        cases h
        rw [h2] at ll
        have ll : 2 = runLen isLet 12 l := ll
        refine ⟨rfl, rfl, ?_, by omega, by decide⟩
        have e : l.take (runLen isLet 12 l) = l.take 2 := by rw [← ll]
        rw [← e, h2]; rfl
      · rename_i h2
        cases h
        refine ⟨rfl, ?_, rfl, hle, by omega⟩
        show wdOk (mk (l.take (runLen isLet 12 l))) = true
        unfold wdOk
        rw [tl_mk, run_all, decide_eq_true h1, decide_eq_true h2, decide_eq_true (show (l.take (runLen isLet 12 l)).length ≤ 12 by omega), decide_eq_true (show l.take (runLen isLet 12 l) ≠ [] from fun z => by rw [z] at ll; exact h0 ll.symm)]
        rfl
/-- no figure is read that is none -/
theorem leaf_err {l : List Nat} {e : Nat} (h : leafOf l = .error e) : runLen isLet 12 l = 0 ∧ numLen l = .error e := by
  unfold leafOf at h
  split at h
  · rename_i h0
    refine ⟨h0, ?_⟩
    split at h
    · rename_i e' he
      cases h
      exact he
    · rename_i m hm
      obtain ⟨i, e1, _⟩ := num_text hm
      rw [e1] at h
      cases h
  · split at h
    · cases h
    · split at h <;> cases h
section
variable {P : Program} {w : World} {K : PySem.W.Frag} {mg : Str → Option Value} {base : Heap} {f : Addr} {fd : FuncData} {CB : Addr}
abbrev sLeaf : Stmt := top 20
theorem scLeaf : FnScope ["text", "at", "end", "word"] ["text", "at"] (defScope sLeaf) := ⟨rfl, rfl, rfl, by decide +kernel, rfl, by decide +kernel, by decide +kernel⟩
def spLeaf (C : Addr) : Sp := fun vs H Q E => ∃ (z : Str) (at_ : Nat), vs = [.str z, .int at_] ∧ z.length ≤ 100000 ∧ at_ ≤ z.length ∧
  (∀ d n, leafOf ((tl z).drop at_) = .ok (d, n) → ∀ p, H p = none → Q (.ref p) (upd H p (.tup [valOf d, .int ((at_ + n : Nat) : Int)]))) ∧ (∀ e, leafOf ((tl z).drop at_) = .error e → Bad C E (at_ + e) H)
variable {g1 g2 : Addr} {gd1 gd2 : FuncData}
theorem ok_leaf (F : Fun K "read_leaf" "read_leaf" sLeaf f fd) (G1 : FnOk P w K mg base CX0 1 g1 gd1 ["text", "at", "most", "low", "high"] spRun) (b1 : Binds K gd1 ["text", "at", "most", "low", "high"] []) (k1 : PySem.W.keepIn K (.ref g1) = true) (m1 : mg "run_end" = some (.ref g1))
    (G2 : FnOk P w K mg base (L2.CX P w) 3 g2 gd2 ["text", "at"] (spNum CB)) (b2 : Binds K gd2 ["text", "at"] []) (k2 : PySem.W.keepIn K (.ref g2) = true) (m2 : mg "number_end" = some (.ref g2))
    {tf : Tok} (mf : mg "LETTERS" = some (.int 12 tf)) (mi : mg "int" = none) : FnOk P w K mg base (L2.CX P w) 4 f fd ["text", "at"] (spLeaf CB) := by
  refine F.okX scLeaf (fun vs H Q E h => ?_) (fun cdv A outer s H vs Q E hr h => ?_)
  · obtain ⟨z, a, rfl, _⟩ := h
    rfl
  obtain ⟨z, a, rfl, hz, ha, hok, hbad⟩ := h
  have esz := sizeLine_eq
  have hzs : z.length ≤ sizeLine := by omega
  refine ⟨_, pss_cons (ps_set (i := 2) scLeaf.nd rfl (.inl rfl) (pe_call G1 (hr.mono (by decide)) rfl m1 k1 b1 .nil pass0 (pa_cons (pv 0) (pa_cons (pv 1) (pa_cons (pe_glob (v := .int 12) rfl mf ⟨_, rfl⟩) (pa_cons pe_str (pa_cons pe_str pa_nil)))))))
    (pss_cons (ps_if (pt_cmpR op_eq (pv 2) (pv 1) (nomark _))
      (pss_cons (ps_set (i := 2) scLeaf.nd rfl (.inl rfl) (pe_call G2 hr rfl m2 k2 b2 .nil (passes_call (takes_of rfl rfl rfl rfl) (fun _ _ _ _ h => h)) (pa_cons (pv 0) (pa_cons (pv 1) pa_nil))))
        (pss_one (ps_ret (pe_tup (pa_cons (pe_callTy call_int_str (by rfl) mi (by decide +kernel) (pa_cons (pe_slice sl_str (pv 0) (po_some (pv 1)) (po_some (pv 2))) pa_nil)) (pa_cons (pv 2) pa_nil)))))) pss_nil)
    (pss_cons (ps_set (i := 3) scLeaf.nd rfl (.inl rfl) (pe_slice sl_str (pv 0) (po_some (pv 1)) (po_some (pv 2))))
    (pss_cons (ps_if (PW.pt (pw_or (pt_cmpR op_eq (pv 3) pe_str (nomark _)) (pw_or1 (pt_cmpR op_eq (pv 3) pe_str (nomark _)))))
      (pss_one (ps_ret (pe_tup (pa_cons (pe_cmpR op_eq (pv 3) pe_str (nomark _)) (pa_cons (pv 2) pa_nil))))) pss_nil)
    (pss_one (ps_ret (pe_tup (pa_cons (pv 3) (pa_cons (pv 2) pa_nil)))))))), ?_⟩
  have sa : (Str.ofString "a") = ⟨#[97]⟩ := by decide +kernel
  have sz : (Str.ofString "z") = ⟨#[122]⟩ := by decide +kernel
  have sy : (Str.ofString "yes") = mk yesT := by decide +kernel
  have sn : (Str.ofString "no") = mk noT := by decide +kernel
  rw [sa, sz, sy, sn]
  have ha' : a ≤ (tl z).length := by rw [← len_tl]; exact ha
  refine ⟨_, rfl, _, rfl, z, a, 12, 97, 122, rfl, hzs, ?_⟩
  have hd : (fun c => decide (97 ≤ c) && decide (c ≤ 122)) = isLet := rfl
  rw [hd]
  refine ⟨_, rfl, _, rfl, rfl, _, rfl, ?_⟩
  refine ite2 (fun c => ?_) (fun c => ?_)
  · have c0 : runLen isLet 12 ((tl z).drop a) = 0 := by have := V.int.inj (of_decide_eq_true c); omega
    refine ⟨_, rfl, _, rfl, z, a, rfl, hz, ha, fun n hn => ?_, fun e he => hbad e ?_⟩
    · obtain ⟨i, e1, e2, e3, e4, e5, e6⟩ := num_text hn
      have hl : leafOf ((tl z).drop a) = .ok (.num i, n) := by
        unfold leafOf
        rw [if_pos c0, hn]
        simp only [e1]
      refine ⟨_, rfl, _, rfl, _, rfl, _, rfl, _, rfl, z, rfl, hzs, ?_⟩
      refine ⟨_, i, rfl, (by rw [cut_at ha']; exact e1), (by rw [cut_at ha', len_mk, List.length_take]; omega), ?_⟩
      exact ⟨_, rfl, (by show 2 ≤ sizeLine; decide), fun p hp => hok _ _ hl p hp⟩
    · unfold leafOf
      rw [if_pos c0, he]
  · have c0 : ¬ runLen isLet 12 ((tl z).drop a) = 0 := fun z0 => of_decide_eq_false (Bool.eq_false_iff.mpr c) (by rw [z0]; rfl)
    refine ⟨_, rfl, _, rfl, _, rfl, _, rfl, _, rfl, z, rfl, hzs, ?_⟩
    rw [cut_at ha']
    have hle := runLen_len isLet 12 ((tl z).drop a)
    refine ⟨_, rfl, rfl, _, rfl, ?_⟩
    by_cases h1 : ((tl z).drop a).take (runLen isLet 12 ((tl z).drop a)) = yesT
    · have hr3 : runLen isLet 12 ((tl z).drop a) = 3 := by
        have := congrArg List.length h1
        rw [List.length_take] at this
        have e3 : yesT.length = 3 := rfl
        rw [e3] at this
        omega
      have hl : leafOf ((tl z).drop a) = .ok (.bl true, 3) := by
        unfold leafOf
        rw [if_neg c0, if_pos h1]
      rw [h1, decide_eq_true rfl]
      refine iteT (iteT ?_)
      refine ⟨_, rfl, rfl, _, rfl, (by show 2 ≤ sizeLine; decide), fun p hp => ?_⟩
      have q' := hok _ _ hl p hp
      rw [hr3]
      exact q'
    · rw [decide_eq_false (fun e => h1 (mk_inj (V.str.inj e)))]
      refine iteF ⟨_, rfl, rfl, _, rfl, ?_⟩
      by_cases h2 : ((tl z).drop a).take (runLen isLet 12 ((tl z).drop a)) = noT
      · have hr2 : runLen isLet 12 ((tl z).drop a) = 2 := by
          have := congrArg List.length h2
          rw [List.length_take] at this
          have e3 : noT.length = 2 := rfl
          rw [e3] at this
          omega
        have hl : leafOf ((tl z).drop a) = .ok (.bl false, 2) := by
          unfold leafOf
          rw [if_neg c0, if_neg h1, if_pos h2]
        rw [h2, decide_eq_true rfl]
        refine iteT ?_
        refine ⟨_, rfl, rfl, _, rfl, (by show 2 ≤ sizeLine; decide), fun p hp => ?_⟩
        have q' := hok _ _ hl p hp
        rw [hr2]
        exact q'
      · have hl : leafOf ((tl z).drop a) = .ok (.wd (mk (((tl z).drop a).take (runLen isLet 12 ((tl z).drop a)))), runLen isLet 12 ((tl z).drop a)) := by
          unfold leafOf
          rw [if_neg c0, if_neg h1, if_neg h2]
        rw [decide_eq_false (fun e => h2 (mk_inj (V.str.inj e)))]
        refine iteF ?_
        exact ⟨_, rfl, _, rfl, (by show 2 ≤ sizeLine; decide), fun p hp => hok _ _ hl p hp⟩
end
end K2
namespace K2
open PySem L2
/-! ### what read_parts does, on lists: the lists that are open, the innermost first -/
mutual
def pmB : Nat → List (List D) → Nat → List Nat → Except Nat (D × Nat)
  | 0, _, a, _ => .error a
  | f + 1, stk, a, r =>
    if r.head? = some 40 then (if (r.drop 1).head? = some 41 then pmC f ([] :: stk) (a + 1) (r.drop 1) else pmB f ([] :: stk) (a + 1) (r.drop 1))
    else match leafOf r with
      | .error e => .error (a + e)
      | .ok (d, n) => match stk with
        | [] => .ok (d, a + n)
        | s :: ss => pmC f ((s ++ [d]) :: ss) (a + n) (r.drop n)
def pmC : Nat → List (List D) → Nat → List Nat → Except Nat (D × Nat)
  | 0, _, a, _ => .error a
  | _ + 1, [], a, _ => .error a
  | f + 1, s :: ss, a, r =>
    if r.head? = some 41 then (match ss with
      | [] => .ok (.lst s, a + 1)
      | t :: ts => pmC f ((t ++ [.lst s]) :: ts) (a + 1) (r.drop 1))
    else if r.head? = some 32 then pmB f (s :: ss) (a + 1) (r.drop 1)
    else .error a
end
def Stk (H0 H : Hp) (a : Nat) : List Addr → List (List D) → Prop
  | [], [] => True
  | r :: rs, s :: ss => (∃ xs, H r = some (.lst xs) ∧ Reps H s xs) ∧ s.length ≤ a ∧ okL s = true ∧ H0 r = none ∧ r ∉ rs ∧ Stk H0 H a rs ss
  | _, _ => False
theorem Stk.mono {H0 H H' : Hp} {a a' : Nat} (t : Tups H H') (ha : a ≤ a') : ∀ {rs : List Addr} {ss : List (List D)}, (∀ r ∈ rs, H' r = H r) → Stk H0 H a rs ss → Stk H0 H' a' rs ss
  | [], [], _, h => h
  | r :: rs, s :: ss, k, h => by
    obtain ⟨⟨xs, e, q⟩, l, o, n, d, st⟩ := h
    exact ⟨⟨xs, by rw [k r (by simp)]; exact e, q.mono t⟩, by omega, o, n, d, Stk.mono t ha (fun r' h' => k r' (by simp [h'])) st⟩
  | [], _ :: _, _, h => h
  | _ :: _, [], _, h => h
theorem Stk.lst {H0 H : Hp} {a : Nat} : ∀ {rs : List Addr} {ss : List (List D)}, Stk H0 H a rs ss → ∀ r ∈ rs, ∃ xs, H r = some (.lst xs)
  | [], [], _, _, h => nomatch h
  | r :: rs, s :: ss, h, r', h' => by
    obtain ⟨⟨xs, e, q⟩, l, o, n, d, st⟩ := h
    rcases List.mem_cons.mp h' with rfl | h'
    · exact ⟨xs, e⟩
    · exact Stk.lst st r' h'
  | [], _ :: _, h, _, _ => h.elim
  | _ :: _, [], h, _, _ => h.elim
theorem same_upd {H H' : Hp} (s : Same H H') {p : Addr} (h : H p = none) (o : HO) : Same H (upd H' p o) := fun b u q => by
  rw [upd_ne (ne_of_none q h)]; exact s b u q
theorem okL_snoc {s : List D} {d : D} (h1 : okL s = true) (h2 : okD d = true) : okL (s ++ [d]) = true := by
  rw [okL_app, h1]
  show (true && (okD d && true)) = true
  rw [h2]; rfl
section
variable {P : Program} {w : World} {K : PySem.W.Frag} {mg : Str → Option Value} {base : Heap} {f : Addr} {fd : FuncData} {js : Expr} {CB fI cc cda : Addr}
abbrev sParts : Stmt := top 21
theorem scParts : FnScope ["text", "around", "at", "datum"] ["text"] (defScope sParts) := ⟨rfl, rfl, rfl, by decide +kernel, rfl, by decide +kernel, by decide +kernel⟩
def spParts (C : Addr) : Sp := fun vs H Q E => ∃ (z : Str), vs = [.str z] ∧ z.length ≤ 100000 ∧
  (∀ d n, pmB (z.length + 1) [] 0 (tl z) = .ok (d, n) → ∀ p v H', Same H H' → Rep H' d v → okD d = true → H' p = some (.tup [v, .int (n : Int)]) → Q (.ref p) H') ∧
  (∀ e, pmB (z.length + 1) [] 0 (tl z) = .error e → ∀ H', Same H H' → Bad C E e H')
def WB (z : Str) (R : Except Nat (D × Nat)) (H : Hp) (n : Nat) (σ : St) (H' : Hp) : Prop := ∃ (ss : List (List D)) (rs : List Addr) (L : Addr) (a fu : Nat) (dv : Option V),
  n = z.length - a ∧ a ≤ z.length ∧ σ = [some (.str z), some (.ref L), some (.int (a : Int)), dv] ∧ H' L = some (.lst (rs.reverse.map V.ref)) ∧ H L = none ∧ L ∉ rs ∧ rs.length ≤ a ∧ Stk H H' a rs ss ∧
  z.length - a < fu ∧ pmB fu ss a ((tl z).drop a) = R ∧ Same H H'
def WC (z : Str) (R : Except Nat (D × Nat)) (H : Hp) (n : Nat) (σ : St) (H' : Hp) : Prop := ∃ (s : List D) (ss : List (List D)) (r : Addr) (rs : List Addr) (L : Addr) (a fu : Nat) (dv : Option V),
  n = z.length - a ∧ a ≤ z.length ∧ σ = [some (.str z), some (.ref L), some (.int (a : Int)), dv] ∧ H' L = some (.lst ((r :: rs).reverse.map V.ref)) ∧ H L = none ∧ L ∉ (r :: rs) ∧ (r :: rs).length ≤ a ∧ Stk H H' a (r :: rs) (s :: ss) ∧
  z.length - a < fu ∧ pmC fu (s :: ss) a ((tl z).drop a) = R ∧ Same H H'
/-- behind the closing ones: no bracket stands there -/
def WS (z : Str) (R : Except Nat (D × Nat)) (H : Hp) (n : Nat) (σ : St) (H' : Hp) : Prop := ∃ (s : List D) (ss : List (List D)) (r : Addr) (rs : List Addr) (L : Addr) (a fu : Nat) (dv : Option V),
  n = z.length - a ∧ a ≤ z.length ∧ σ = [some (.str z), some (.ref L), some (.int (a : Int)), dv] ∧ H' L = some (.lst ((r :: rs).reverse.map V.ref)) ∧ H L = none ∧ L ∉ (r :: rs) ∧ (r :: rs).length ≤ a ∧ Stk H H' a (r :: rs) (s :: ss) ∧
  z.length - a < fu ∧ pmC fu (s :: ss) a ((tl z).drop a) = R ∧ Same H H' ∧ ((tl z).drop a).head? ≠ some 41
theorem rev_refs (r : Addr) (rs : List Addr) : ((r :: rs).reverse.map V.ref) = rs.reverse.map V.ref ++ [V.ref r] := by simp
theorem head_lt {z : Str} {a c : Nat} (h : ((tl z).drop a).head? = some c) : a < z.length := by
  rw [len_tl]
  rcases Nat.lt_or_ge a (tl z).length with h1 | h1
  · exact h1
  · rw [List.drop_eq_nil_of_le h1] at h; exact nomatch h
/-- a datum is put to the innermost open list -/
theorem WC.put {z : Str} {R : Except Nat (D × Nat)} {H H' : Hp} {s : List D} {ss : List (List D)} {e : D} {v : V} {r : Addr} {rs : List Addr} {L : Addr} {a a' fu : Nat} {xs : List V} (ha : a < a') (hz : a' ≤ z.length)
    (hL : H' L = some (.lst ((r :: rs).reverse.map V.ref))) (h0 : H L = none) (hn : L ∉ r :: rs) (hl : (r :: rs).length ≤ a') (st : Stk H H' a (r :: rs) (s :: ss)) (hr : H' r = some (.lst xs))
    (hf : z.length - a' < fu) (hp : pmC fu ((s ++ [e]) :: ss) a' ((tl z).drop a') = R) (sm : Same H H') (rv : Rep H' e v) (oke : okD e = true) :
    WC z R H (z.length - a') [some (.str z), some (.ref L), some (.int (a' : Int)), some v] (upd H' r (.lst (xs ++ [v]))) := by
  obtain ⟨⟨ys, e1, q⟩, l, o, n, dd, st⟩ := st
  rw [hr] at e1
  cases e1
  have tt : Tups H' (upd H' r (.lst (xs ++ [v]))) := Tups.lst hr _
  refine ⟨s ++ [e], ss, r, rs, L, a', fu, some v, rfl, hz, rfl, ?_, h0, hn, hl, ⟨⟨xs ++ [v], upd_same, Reps.snoc (rv.mono tt) (q.mono tt)⟩, ?_, okL_snoc o oke, n, dd, ?_⟩, hf, hp, same_upd sm n _⟩
  · rw [upd_ne (fun z => hn (by simp [z]))]; exact hL
  · rw [List.length_append]
    show s.length + 1 ≤ a'
    omega
  · exact Stk.mono tt (by omega) (fun r' h' => upd_ne (fun z => dd (z ▸ h'))) st
variable {g1 : Addr} {gd1 : FuncData}
set_option maxHeartbeats 8000000 in
theorem ok_parts (F : Fun K "read_parts" "read_parts" sParts f fd) (T : PySem.OwnX.OwnT P K mg "BadText" "at" "BadText.__init__" js CB fI cc cda) (hsp : ∀ (n : Int) (t : Tok), 0 ≤ n → n < 10 ^ 20 → PySem.OwnX.Speaks P w "BadText.__init__" "at" js fI cc cda (.int n t))
    (G1 : FnOk P w K mg base (L2.CX P w) 4 g1 gd1 ["text", "at"] (spLeaf CB)) (b1 : Binds K gd1 ["text", "at"] []) (k1 : PySem.W.keepIn K (.ref g1) = true) (m1 : mg "read_leaf" = some (.ref g1))
    (mt : mg "tuple" = none) : FnOk P w K mg base (L2.CX P w) 5 f fd ["text"] (spParts CB) := by
  refine F.okX scParts (fun vs H Q E h => ?_) (fun cdv A outer s H vs Q E hr h => ?_)
  · obtain ⟨z, rfl, _⟩ := h
    rfl
  obtain ⟨z, rfl, hz, hok, hbad⟩ := h
  have esz := sizeLine_eq
  refine ⟨_, pss_cons (ps_set (i := 1) scParts.nd rfl (.inl rfl) (pe_lst pa_nil))
    (pss_cons (ps_set (i := 2) scParts.nd rfl (.inl rfl) pe_int)
    (pss_one (ps_while (passes_of rfl) (pt_val pe_bl)
      (C8.pss_cut (ps_if (pt_val (pe_bm PySem.F.plainAttrs_str PySem.F.slot_str_startswith PySem.F.type_str_startswith mt_startswith3 (pv 0) (pa_cons pe_str (pa_cons (pv 2) pa_nil))))
          (pss_cons (ps_expr (pe_bm PySem.F.plainAttrs_list PySem.F.slot_list_append PySem.F.type_list_append mt_append (pv 1) (pa_cons (pe_lst pa_nil) pa_nil)))
            (pss_cons (ps_aug (i := 2) scParts.nd rfl (.inl rfl) pe_int ip_add)
            (pss_one (ps_if (pt_not (pt_val (pe_bm PySem.F.plainAttrs_str PySem.F.slot_str_startswith PySem.F.type_str_startswith mt_startswith3 (pv 0) (pa_cons pe_str (pa_cons (pv 2) pa_nil))))) (pss_one ps_continue) pss_nil))))
          (pss_cons (ps_asg (pe_call G1 hr rfl m1 k1 b1 .nil (passes_call (takes_of rfl rfl rfl rfl) (fun _ _ _ _ h => h)) (pa_cons (pv 0) (pa_cons (pv 2) pa_nil))) (pg_tup (by rfl) (pgs_cons (pg_name (i := 3) scParts.nd rfl (.inl rfl)) (pgs_cons (pg_name (i := 2) scParts.nd rfl (.inl rfl)) pgs_nil))))
            (pss_cons (ps_if (pt_not (pt_truth (pv 1) (by intro _; rfl))) (pss_one (ps_ret (pe_tup (pa_cons (pv 3) (pa_cons (pv 2) pa_nil))))) pss_nil)
            (pss_one (ps_expr (pe_bm PySem.F.plainAttrs_list PySem.F.slot_list_append PySem.F.type_list_append mt_append (pe_ix ix_list (pv 1) (pe_un un_neg pe_int) (fun _ _ => rfl)) (pa_cons (pv 3) pa_nil)))))))
        (C8.pss_cut (ps_while (passes_of rfl) (pt_val (pe_bm PySem.F.plainAttrs_str PySem.F.slot_str_startswith PySem.F.type_str_startswith mt_startswith3 (pv 0) (pa_cons pe_str (pa_cons (pv 2) pa_nil))))
            (pss_cons (ps_set (i := 3) scParts.nd rfl (.inl rfl) (pe_callTy call_tuple_of rfl mt (by decide +kernel) (pa_cons (pe_bm0 PySem.F.plainAttrs_list PySem.F.slot_list_pop PySem.F.type_list_pop mt_pop (pv 1)) pa_nil)))
            (pss_cons (ps_aug (i := 2) scParts.nd rfl (.inl rfl) pe_int ip_add)
            (pss_cons (ps_if (pt_not (pt_truth (pv 1) (by intro _; rfl))) (pss_one (ps_ret (pe_tup (pa_cons (pv 3) (pa_cons (pv 2) pa_nil))))) pss_nil)
            (pss_one (ps_expr (pe_bm PySem.F.plainAttrs_list PySem.F.slot_list_append PySem.F.type_list_append mt_append (pe_ix ix_list (pv 1) (pe_un un_neg pe_int) (fun _ _ => rfl)) (pa_cons (pv 3) pa_nil))))))))
          (pss_cons (ps_if (pt_not (pt_val (pe_bm PySem.F.plainAttrs_str PySem.F.slot_str_startswith PySem.F.type_str_startswith mt_startswith3 (pv 0) (pa_cons pe_str (pa_cons (pv 2) pa_nil))))) (pss_one (ps_raiseInt rfl T hsp hr (takes_of rfl rfl rfl rfl) (pa_cons (pv 2) pa_nil) rfl (by decide))) pss_nil)
            (pss_one (ps_aug (i := 2) scParts.nd rfl (.inl rfl) pe_int ip_add)))))))), ?_⟩
  have s40 : (Str.ofString "(") = ⟨#[40]⟩ := by decide +kernel
  have s41 : (Str.ofString ")") = ⟨#[41]⟩ := by decide +kernel
  have s32 : (Str.ofString " ") = ⟨#[32]⟩ := by decide +kernel
  rw [s40, s41, s32]
  generalize hR : pmB (z.length + 1) [] 0 (tl z) = R at hok hbad
  refine ⟨(by show 0 ≤ sizeLine; decide), fun L hL => ?_⟩
  refine ⟨WB z R H, ⟨z.length, [], [], L, 0, z.length + 1, none, rfl, Nat.zero_le _, rfl, upd_same, hL, by simp, Nat.le_refl _, trivial, by omega, hR, same_new hL _⟩, ?_⟩
  rintro n σ H' ⟨ss, rs, L, a, fu, dv, rfl, ha, rfl, hLl, hL0, hLn, hrl, stk, hfu, hpm, sm⟩
  refine ⟨_, rfl, iteT ?_⟩
  refine ⟨fun σ' H' => ∃ m', m' < z.length - a ∧ WB z R H m' σ' H', fun _ _ h => h, ?_⟩
  obtain ⟨fu, rfl⟩ : ∃ k, fu = k + 1 := ⟨fu - 1, by omega⟩
  refine ⟨fun σ' H' => ∃ m', m' < z.length - a ∧ WC z R H m' σ' H', ?_, ?_⟩
  · refine ⟨_, rfl, rfl, _, rfl, z, _, (a : Int), rfl, rfl, _, rfl, ?_⟩
    rw [sw]
    unfold pmB at hpm
    by_cases h40 : ((tl z).drop a).head? = some 40
    · have hal := head_lt h40
      rw [decide_eq_true h40]
      rw [if_pos h40, List.drop_drop] at hpm
      refine iteT ?_
      refine ⟨_, rfl, .inl ⟨rfl, _, SqL.of hLl⟩, (by show 0 ≤ sizeLine; decide), fun r hr0 => ?_⟩
      have hrL : L ≠ r := ne_of_none hLl hr0
      refine ⟨L, _, _, rfl, rfl, (upd_ne hrL).trans hLl, (by rw [List.length_map, List.length_reverse]; omega), ?_⟩
      refine ⟨_, rfl, _, _, rfl, rfl, ?_⟩
      refine ⟨_, rfl, rfl, _, rfl, z, _, ((a + 1 : Nat) : Int), rfl, rfl, _, rfl, ?_⟩
      rw [sw]
      have hLr : (upd (upd H' r (.lst [])) L (.lst (List.map V.ref rs.reverse ++ [V.ref r]))) L = some (.lst ((r :: rs).reverse.map V.ref)) := by rw [upd_same, rev_refs]
      have hrr : (upd (upd H' r (.lst [])) L (.lst (List.map V.ref rs.reverse ++ [V.ref r]))) r = some (.lst []) := by rw [upd_ne (Ne.symm hrL), upd_same]
      have tp : Tups H' (upd (upd H' r (.lst [])) L (.lst (List.map V.ref rs.reverse ++ [V.ref r]))) := (Tups.new hr0 _).trans (Tups.lst ((upd_ne hrL).trans hLl) _)
      have h0r : H r = none := sm.free hr0
      have sp : Same H (upd (upd H' r (.lst [])) L (.lst (List.map V.ref rs.reverse ++ [V.ref r]))) := same_upd (same_upd sm h0r _) hL0 _
      have hnr : r ∉ rs := fun hm => by
        obtain ⟨xs, hx⟩ := stk.lst r hm
        rw [hr0] at hx; exact nomatch hx
      have hLn' : L ∉ r :: rs := fun hm => by
        rcases List.mem_cons.mp hm with h | h
        · exact hrL h
        · exact hLn h
      have stk1 : Stk H (upd (upd H' r (.lst [])) L (.lst (List.map V.ref rs.reverse ++ [V.ref r]))) (a + 1) rs ss := stk.mono tp (by omega) (fun r' h' => by
        obtain ⟨xs, hx⟩ := stk.lst r' h'
        have hne : r' ≠ L := fun z => hLn (by rw [← z]; exact h')
        rw [upd_ne hne, upd_ne (ne_of_none hx hr0)])
      by_cases h41 : ((tl z).drop (a + 1)).head? = some 41
      · rw [decide_eq_true h41]
        rw [if_pos h41] at hpm
        refine iteF ?_
        exact ⟨z.length - (a + 1), by omega, [], ss, r, rs, L, a + 1, fu, _, rfl, by omega, rfl, hLr, hL0, hLn', by simp; omega, ⟨⟨[], hrr, rfl⟩, Nat.zero_le _, rfl, h0r, hnr, stk1⟩, by omega, hpm, sp⟩
      · rw [decide_eq_false h41]
        rw [if_neg h41] at hpm
        refine iteT ?_
        exact ⟨z.length - (a + 1), by omega, [] :: ss, r :: rs, L, a + 1, fu, _, rfl, by omega, rfl, hLr, hL0, hLn', by simp; omega, ⟨⟨[], hrr, rfl⟩, Nat.zero_le _, rfl, h0r, hnr, stk1⟩, by omega, hpm, sp⟩
    · rw [decide_eq_false h40]
      rw [if_neg h40] at hpm
      refine iteF ?_
      refine ⟨_, rfl, _, rfl, z, a, rfl, hz, ha, fun e n hlo p hp => ?_, fun er her => ?_⟩
      · rw [hlo] at hpm
        simp only [] at hpm
        obtain ⟨hlf, oke, hsd, hnl, hn0⟩ := leaf_back hlo
        rw [List.length_drop, ← len_tl] at hnl
        refine ⟨p, _, rfl, SqT.of upd_same, rfl, _, _, rfl, _, _, rfl, rfl, ?_⟩
        have hL1 : upd H' p (.tup [valOf e, .int ((a + n : Nat) : Int)]) L = some (.lst (rs.reverse.map V.ref)) := by rw [upd_ne (ne_of_none hLl hp)]; exact hLl
        have tp : Tups H' (upd H' p (.tup [valOf e, .int ((a + n : Nat) : Int)])) := Tups.new hp _
        have sp : Same H (upd H' p (.tup [valOf e, .int ((a + n : Nat) : Int)])) := sm.trans (same_new hp _)
        refine ⟨_, rfl, _, .inl ⟨_, SqL.of hL1, rfl⟩, ?_⟩
        cases rs with
        | nil =>
          cases ss with
          | cons _ _ => exact stk.elim
          | nil =>
            refine iteT ?_
            refine ⟨_, rfl, _, rfl, (by show 2 ≤ sizeLine; decide), fun p2 hp2 => ?_⟩
            exact hok e (a + n) hpm.symm p2 (valOf e) _ (sp.trans (same_new hp2 _)) (Rep.ofLeaf hlf) oke upd_same
        | cons r rs =>
          cases ss with
          | nil => exact stk.elim
          | cons s ss =>
            have stk1 : Stk H (upd H' p (.tup [valOf e, .int ((a + n : Nat) : Int)])) a (r :: rs) (s :: ss) := stk.mono tp (Nat.le_refl _) (fun r' h' => by
              obtain ⟨xs, hx⟩ := stk.lst r' h'
              exact upd_ne (ne_of_none hx hp))
            have stk2 := stk1
            obtain ⟨⟨xs, hxr, hrp⟩, hfl, _⟩ := stk2
            have e0 : (!(!(List.map V.ref (r :: rs).reverse).isEmpty)) = false := by rw [rev_refs]; simp
            rw [e0]
            refine iteF ?_
            refine ⟨_, rfl, _, rfl, L, _, _, .ref r, rfl, rfl, SqL.of hL1, (by rw [rev_refs]; exact atI_last _ _), ?_⟩
            refine ⟨.inl ⟨rfl, _, SqL.of hxr⟩, _, rfl, r, xs, _, rfl, rfl, hxr, (by rw [hrp.length]; omega), ?_⟩
            rw [List.drop_drop] at hpm
            exact ⟨_, by omega, WC.put (a := a) (by omega) (by omega) hL1 hL0 hLn (by omega) stk1 hxr (by omega) hpm sp (Rep.ofLeaf hlf) oke⟩
      · rw [her] at hpm
        exact hbad (a + er) hpm.symm H' sm
  · rintro σ1 H1 ⟨n1, hn1, hWC⟩
    refine ⟨fun σ' H' => ∃ m', m' < z.length - a ∧ WS z R H m' σ' H', ?_, ?_⟩
    · refine ⟨fun m σ' H' => m < z.length - a ∧ WC z R H m σ' H', ⟨n1, hn1, hWC⟩, ?_⟩
      rintro n2 σ2 H2 ⟨hn2, s, ss, r, rs, L, a2, fu2, dv, rfl, ha2, rfl, hLl, hL0, hLn, hrl, stk, hfu2, hpm2, sm⟩
      refine ⟨_, rfl, rfl, _, rfl, z, _, (a2 : Int), rfl, rfl, _, rfl, ?_⟩
      rw [sw]
      by_cases h41 : ((tl z).drop a2).head? = some 41
      · have hal := head_lt h41
        rw [decide_eq_true h41]
        refine iteT ?_
        refine ⟨fun σ' H' => ∃ m', m' < z.length - a2 ∧ m' < z.length - a ∧ WC z R H m' σ' H', fun _ _ h => h, ?_⟩
        obtain ⟨fu2, rfl⟩ : ∃ k, fu2 = k + 1 := ⟨fu2 - 1, by omega⟩
        unfold pmC at hpm2
        rw [if_pos h41] at hpm2
        obtain ⟨⟨xs, hxr, hrp⟩, hfl, hok1, h0r, hnr, stk'⟩ := stk
        have hLr : L ≠ r := fun z => hLn (by simp [z])
        have hLn2 : L ∉ rs := fun z => hLn (by simp [z])
        refine ⟨_, rfl, .inl ⟨rfl, _, SqL.of hLl⟩, L, _, .ref r, rfl, rfl, hLl, (by rw [rev_refs]; simp), ?_⟩
        have edl : ((r :: rs).reverse.map V.ref).dropLast = rs.reverse.map V.ref := by rw [rev_refs, List.dropLast_concat]
        rw [edl]
        have hr1 : upd H2 L (.lst (rs.reverse.map V.ref)) r = some (.lst xs) := by rw [upd_ne (Ne.symm hLr)]; exact hxr
        refine ⟨r, xs, rfl, .inl ⟨SqL.of hr1, fun t ht => ?_⟩⟩
        refine ⟨_, rfl, _, _, rfl, rfl, ?_⟩
        have htL : L ≠ t := fun z => by rw [← z, upd_same] at ht; exact nomatch ht
        have hL3 : upd (upd H2 L (.lst (rs.reverse.map V.ref))) t (.tup xs) L = some (.lst (rs.reverse.map V.ref)) := by rw [upd_ne htL, upd_same]
        have tp : Tups H2 (upd (upd H2 L (.lst (rs.reverse.map V.ref))) t (.tup xs)) := (Tups.lst hLl _).trans (Tups.new ht _)
        have sp : Same H (upd (upd H2 L (.lst (rs.reverse.map V.ref))) t (.tup xs)) := (same_upd sm hL0 _).trans (same_new ht _)
        have rep : Rep (upd (upd H2 L (.lst (rs.reverse.map V.ref))) t (.tup xs)) (.lst s) (.ref t) := ⟨t, xs, rfl, upd_same, hrp.mono tp⟩
        have stk3 : Stk H (upd (upd H2 L (.lst (rs.reverse.map V.ref))) t (.tup xs)) a2 rs ss := stk'.mono tp (Nat.le_refl _) (fun r' h' => by
          obtain ⟨ys, hy⟩ := stk'.lst r' h'
          have hne : r' ≠ L := fun z => hLn2 (by rw [← z]; exact h')
          have hy' : upd H2 L (.lst (rs.reverse.map V.ref)) r' = some (.lst ys) := by rw [upd_ne hne]; exact hy
          rw [upd_ne (ne_of_none hy' ht), upd_ne hne])
        have okls : okD (.lst s) = true := hok1
        refine ⟨_, rfl, _, .inl ⟨_, SqL.of hL3, rfl⟩, ?_⟩
        cases rs with
        | nil =>
          cases ss with
          | cons _ _ => exact stk'.elim
          | nil =>
            refine iteT ?_
            refine ⟨_, rfl, _, rfl, (by show 2 ≤ sizeLine; decide), fun p2 hp2 => ?_⟩
            exact hok (.lst s) (a2 + 1) hpm2.symm p2 (.ref t) _ (sp.trans (same_new hp2 _)) (rep.mono (Tups.new hp2 _)) okls upd_same
        | cons r2 rs2 =>
          cases ss with
          | nil => exact stk'.elim
          | cons s2 ss2 =>
            have stk4 := stk3
            obtain ⟨⟨ys, hyr, hyp⟩, hfl2, _⟩ := stk4
            have e0 : (!(!(List.map V.ref (r2 :: rs2).reverse).isEmpty)) = false := by rw [rev_refs]; simp
            rw [e0]
            refine iteF ?_
            refine ⟨_, rfl, _, rfl, L, _, _, .ref r2, rfl, rfl, SqL.of hL3, (by rw [rev_refs]; exact atI_last _ _), ?_⟩
            refine ⟨.inl ⟨rfl, _, SqL.of hyr⟩, _, rfl, r2, ys, _, rfl, rfl, hyr, (by rw [hyp.length]; omega), ?_⟩
            simp only [List.drop_drop] at hpm2
            refine ⟨z.length - (a2 + 1), by omega, by omega, WC.put (a := a2) (a' := a2 + 1) (by omega) (by omega) hL3 hL0 hLn2 ?_ stk3 hyr (by omega) hpm2 sp rep okls⟩
            have : (r :: r2 :: rs2).length = (r2 :: rs2).length + 1 := rfl
            omega
      · rw [decide_eq_false h41]
        refine iteF ?_
        exact ⟨_, hn2, s, ss, r, rs, L, a2, fu2, dv, rfl, ha2, rfl, hLl, hL0, hLn, hrl, stk, hfu2, hpm2, sm, h41⟩
    · rintro σ2 H2 ⟨n2, hn2, s, ss, r, rs, L, a2, fu2, dv, rfl, ha2, rfl, hLl, hL0, hLn, hrl, stk, hfu2, hpm2, sm, h41⟩
      refine ⟨_, rfl, rfl, _, rfl, z, _, (a2 : Int), rfl, rfl, _, rfl, ?_⟩
      rw [sw]
      obtain ⟨fu2, rfl⟩ : ∃ k, fu2 = k + 1 := ⟨fu2 - 1, by omega⟩
      unfold pmC at hpm2
      rw [if_neg h41] at hpm2
      by_cases h32 : ((tl z).drop a2).head? = some 32
      · have hal := head_lt h32
        rw [decide_eq_true h32]
        rw [if_pos h32, List.drop_drop] at hpm2
        refine iteF ?_
        refine ⟨_, rfl, _, _, rfl, rfl, ?_⟩
        exact ⟨z.length - (a2 + 1), by omega, s :: ss, r :: rs, L, a2 + 1, fu2, dv, rfl, by omega, rfl, hLl, hL0, hLn, by omega, stk.mono (Tups.refl _) (by omega) (fun _ _ => rfl), by omega, hpm2, sm⟩
      · rw [decide_eq_false h32]
        rw [if_neg h32] at hpm2
        refine iteT ?_
        exact ⟨_, rfl, _, rfl, by omega, by omega, hbad a2 hpm2.symm H2 sm⟩
end
end K2
namespace K2
open PySem L2
/-! ### what is read has just the text that was read -/
def blank (s : List D) : List Nat := if s.isEmpty then [] else [32]
def ctxB : List (List D) → List Nat
  | [] => []
  | s :: ss => ctxB ss ++ 40 :: (sl s ++ blank s)
def ctxC (s : List D) (ss : List (List D)) : List Nat := ctxB ss ++ 40 :: sl s
theorem sl_snoc (s : List D) (d : D) : sl (s ++ [d]) = sl s ++ blank s ++ said d := by
  cases s with
  | nil => show said d ++ [] = [] ++ [] ++ said d; simp
  | cons e r =>
    show said e ++ sr (r ++ [d]) = said e ++ sr r ++ [32] ++ said d
    rw [sr_app]
    show said e ++ (sr r ++ (32 :: (said d ++ []))) = _
    simp
theorem take_cons {r : List Nat} {c m : Nat} (h : r.head? = some c) : r.take (m + 1) = c :: (r.drop 1).take m ∧ 1 ≤ r.length := by
  cases r with
  | nil => exact nomatch h
  | cons x y =>
    have : x = c := by simpa using h
    subst this
    exact ⟨rfl, by simp⟩
mutual
theorem backB : ∀ (f : Nat) (ss : List (List D)) (a : Nat) (r : List Nat) (d : D) (n : Nat), pmB f ss a r = .ok (d, n) → ∃ m, n = a + m ∧ m ≤ r.length ∧ said d = ctxB ss ++ r.take m
  | 0, _, _, _, _, _, h => by unfold pmB at h; cases h
  | f + 1, ss, a, r, d, n, h => by
    unfold pmB at h
    split at h
    · rename_i h40
      obtain ⟨e1, e2⟩ := take_cons (m := 0) h40
      split at h
      · rename_i h41
        obtain ⟨m, h1, h2, h3⟩ := backC f [] ss (a + 1) (r.drop 1) d n (.inr h41) h
        rw [List.length_drop] at h2
        refine ⟨m + 1, by omega, by omega, ?_⟩
        rw [h3, (take_cons h40).1]
        show (ctxB ss ++ [40]) ++ _ = _
        simp
      · obtain ⟨m, h1, h2, h3⟩ := backB f ([] :: ss) (a + 1) (r.drop 1) d n h
        rw [List.length_drop] at h2
        refine ⟨m + 1, by omega, by omega, ?_⟩
        rw [h3, (take_cons h40).1]
        show (ctxB ss ++ 40 :: ([] ++ [])) ++ _ = _
        simp
    · split at h
      · cases h
      · rename_i d' n' hl
        obtain ⟨_, _, hsd, hnl, _⟩ := leaf_back hl
        split at h
        · cases h
          exact ⟨n', rfl, hnl, by rw [hsd]; rfl⟩
        · rename_i s ss'
          obtain ⟨m, h1, h2, h3⟩ := backC f (s ++ [d']) ss' (a + n') (r.drop n') d n (.inl (by simp)) h
          rw [List.length_drop] at h2
          refine ⟨n' + m, by omega, by omega, ?_⟩
          rw [h3, List.take_add, ← hsd]
          show (ctxB ss' ++ 40 :: sl (s ++ [d'])) ++ _ = (ctxB ss' ++ 40 :: (sl s ++ blank s)) ++ _
          rw [sl_snoc]
          simp
theorem backC : ∀ (f : Nat) (s : List D) (ss : List (List D)) (a : Nat) (r : List Nat) (d : D) (n : Nat), s ≠ [] ∨ r.head? = some 41 → pmC f (s :: ss) a r = .ok (d, n) → ∃ m, n = a + m ∧ m ≤ r.length ∧ said d = ctxC s ss ++ r.take m
  | 0, _, _, _, _, _, _, _, h => by unfold pmC at h; cases h
  | f + 1, s, ss, a, r, d, n, hs, h => by
    unfold pmC at h
    split at h
    · rename_i h41
      obtain ⟨e1, e2⟩ := take_cons (m := 0) h41
      split at h
      · cases h
        refine ⟨1, rfl, e2, ?_⟩
        rw [e1]
        show 40 :: (sl s ++ [41]) = ([] ++ 40 :: sl s) ++ (41 :: [])
        simp
      · rename_i t ts
        obtain ⟨m, h1, h2, h3⟩ := backC f (t ++ [.lst s]) ts (a + 1) (r.drop 1) d n (.inl (by simp)) h
        rw [List.length_drop] at h2
        refine ⟨m + 1, by omega, by omega, ?_⟩
        rw [h3, (take_cons h41).1]
        show (ctxB ts ++ 40 :: sl (t ++ [.lst s])) ++ _ = ((ctxB ts ++ 40 :: (sl t ++ blank t)) ++ 40 :: sl s) ++ _
        rw [sl_snoc]
        show (ctxB ts ++ 40 :: (sl t ++ blank t ++ (40 :: (sl s ++ [41])))) ++ _ = _
        simp
    · rename_i h41
      split at h
      · rename_i h32
        have hne : s ≠ [] := by
          rcases hs with hs | hs
          · exact hs
          · exact absurd hs h41
        obtain ⟨e1, e2⟩ := take_cons (m := 0) h32
        obtain ⟨m, h1, h2, h3⟩ := backB f (s :: ss) (a + 1) (r.drop 1) d n h
        rw [List.length_drop] at h2
        refine ⟨m + 1, by omega, by omega, ?_⟩
        have hb : blank s = [32] := by
          cases s with
          | nil => exact absurd rfl hne
          | cons _ _ => rfl
        rw [h3, (take_cons h32).1]
        show (ctxB ss ++ 40 :: (sl s ++ blank s)) ++ _ = (ctxB ss ++ 40 :: sl s) ++ _
        rw [hb]
        simp
      · cases h
end
/-- what read_data does -/
def parse (l : List Nat) : Except Nat D := match pmB (l.length + 1) [] 0 l with
  | .error e => .error e
  | .ok (d, n) => if n = l.length then .ok d else .error n
theorem parse_said {l : List Nat} {d : D} (h : parse l = .ok d) : said d = l := by
  unfold parse at h
  split at h
  · cases h
  · rename_i d' n hp
    split at h
    · rename_i hn
      cases h
      obtain ⟨m, h1, h2, h3⟩ := backB _ _ _ _ _ _ hp
      rw [h3, show m = l.length by omega, List.take_length]; rfl
    · cases h
end K2
namespace K2
open PySem L2
def tyName : D → String
  | .bl _ => "bool"
  | .num _ => "int"
  | .wd _ => "str"
  | .lst _ => "tuple"
theorem Rep.ty {K : PySem.W.Frag} {H : Hp} {d : D} {v : V} (h : Rep H d v) : TyX K H v (.type (tyName d)) := by
  cases d with
  | bl b => cases (show v = .bl b from h); exact .base (.bl b)
  | num b => cases (show v = .int b from h); exact .base (.int b)
  | wd b => cases (show v = .str b from h); exact .base (.str b)
  | lst ds =>
    obtain ⟨p, xs, rfl, e, _⟩ := h
    exact .base (.tup e)
def isWd : D → Bool
  | .wd _ => true
  | _ => false
def isLs : D → Bool
  | .lst _ => true
  | _ => false
def isBl : D → Bool
  | .bl _ => true
  | _ => false
def isNum : D → Bool
  | .num _ => true
  | _ => false
theorem kit_str {K : PySem.W.Frag} (d : D) : PySem.W.kitOne K (.type (tyName d)) (.type "str") = some (isWd d) := by
  cases d with
  | bl _ => exact kit_ty (show kitB "bool" "str" = some false by decide +kernel)
  | num _ => exact kit_ty (show kitB "int" "str" = some false by decide +kernel)
  | wd _ => exact kit_ty (show kitB "str" "str" = some true by decide +kernel)
  | lst _ => exact kit_ty (show kitB "tuple" "str" = some false by decide +kernel)
theorem kit_tuple {K : PySem.W.Frag} (d : D) : PySem.W.kitOne K (.type (tyName d)) (.type "tuple") = some (isLs d) := by
  cases d with
  | bl _ => exact kit_ty (show kitB "bool" "tuple" = some false by decide +kernel)
  | num _ => exact kit_ty (show kitB "int" "tuple" = some false by decide +kernel)
  | wd _ => exact kit_ty (show kitB "str" "tuple" = some false by decide +kernel)
  | lst _ => exact kit_ty (show kitB "tuple" "tuple" = some true by decide +kernel)
theorem kit_bool {K : PySem.W.Frag} (d : D) : PySem.W.kitOne K (.type (tyName d)) (.type "bool") = some (isBl d) := by
  cases d with
  | bl _ => exact kit_ty (show kitB "bool" "bool" = some true by decide +kernel)
  | num _ => exact kit_ty (show kitB "int" "bool" = some false by decide +kernel)
  | wd _ => exact kit_ty (show kitB "str" "bool" = some false by decide +kernel)
  | lst _ => exact kit_ty (show kitB "tuple" "bool" = some false by decide +kernel)
theorem kit_int {K : PySem.W.Frag} (d : D) : PySem.W.kitOne K (.type (tyName d)) (.type "int") = some (isBl d || isNum d) := by
  cases d with
  | bl _ => exact kit_ty (show kitB "bool" "int" = some true by decide +kernel)
  | num _ => exact kit_ty (show kitB "int" "int" = some true by decide +kernel)
  | wd _ => exact kit_ty (show kitB "str" "int" = some false by decide +kernel)
  | lst _ => exact kit_ty (show kitB "tuple" "int" = some false by decide +kernel)
theorem kit_list {K : PySem.W.Frag} (d : D) : PySem.W.kitOne K (.type (tyName d)) (.type "list") = some (false) := by
  cases d with
  | bl _ => exact kit_ty (show kitB "bool" "list" = some false by decide +kernel)
  | num _ => exact kit_ty (show kitB "int" "list" = some false by decide +kernel)
  | wd _ => exact kit_ty (show kitB "str" "list" = some false by decide +kernel)
  | lst _ => exact kit_ty (show kitB "tuple" "list" = some false by decide +kernel)
section
variable {X : Cx}
/-- x is True, x is False, whatever x is -/
theorem op_isT : OpR X (compareOp .Is) (fun x y H Q => ∃ b, y = .bl b ∧ Q (.bl (decide (x = .bl b))) H) := by
  intro pins s σ H x y v u Q I rx ry h
  obtain ⟨b, rfl, q⟩ := h
  cases (show u = Value.bool b from ry)
  have no : ∀ c, plainIs v (.bool b) = true → v ≠ .bool b → x ≠ .bl b → c = v → wpAny (model X.prog X.w) X.A (compareOp .Is v (.bool b)) (EP X pins σ Q) X.xe s := fun c h1 h2 h3 _ => by
    rw [decide_eq_false h3] at q
    exact wpAny_is_other h1 h2 ⟨.bl false, H, I, rfl, q⟩
  cases x with
  | bl c =>
    cases (show v = Value.bool c from rx)
    by_cases e : c = b
    · subst e
      exact wpAny_is_self rfl ⟨.bl true, H, I, rfl, by simpa using q⟩
    · exact no _ rfl (fun z => e (Value.bool.inj z)) (fun z => e (V.bl.inj z)) rfl
  | non => cases (show v = Value.none from rx); exact no _ rfl (fun z => nomatch z) (fun z => nomatch z) rfl
  | int i => obtain ⟨t, rfl⟩ := rx; exact no _ rfl (fun z => nomatch z) (fun z => nomatch z) rfl
  | str i => obtain ⟨t, rfl⟩ := rx; exact no _ rfl (fun z => nomatch z) (fun z => nomatch z) rfl
  | byt i => obtain ⟨t, rfl⟩ := rx; exact no _ rfl (fun z => nomatch z) (fun z => nomatch z) rfl
  | flt i => obtain ⟨t, rfl⟩ := rx; exact no _ rfl (fun z => nomatch z) (fun z => nomatch z) rfl
  | ref i => cases (show v = Value.ref i from rx); exact no _ rfl (fun z => nomatch z) (fun z => nomatch z) rfl
  | ty i => cases (show v = Value.type i from rx); exact no _ rfl (fun z => nomatch z) (fun z => nomatch z) rfl
theorem call_str_any : CallR X (.type "str") (fun xs H Q => (∃ i, xs = [.int i] ∧ i.natAbs.log2 < 1920 ∧ Q (.str (Str.ofString (toString i))) H) ∨ ∃ a, xs = [.str a] ∧ Q (.str a) H) := by
  intro pins s σ H xs us Q I r h
  rcases h with h | h
  · exact call_str_int pins s σ H xs us Q I r h
  · exact SkE.call_str_str pins s σ H xs us Q I r h
end
section
variable {P : Program} {w : World} {K : PySem.W.Frag} {mg : Str → Option Value} {base : Heap} {f : Addr} {fd : FuncData}
abbrev sIsL : Stmt := top 14
theorem scIsL : FnScope ["value"] ["value"] (defScope sIsL) := ⟨rfl, rfl, rfl, by decide +kernel, rfl, by decide +kernel, by decide +kernel⟩
def spIsL : Sp := fun vs H Q _ => ∃ (d : D) (v : V), vs = [v] ∧ Rep H d v ∧ Q (.bl (isLs d)) H
theorem ok_isL (F : Fun K "is_list" "is_list" sIsL f fd) (mi : mg "isinstance" = none) (ms : mg "tuple" = none) : FnOk P w K mg base CX0 1 f fd ["value"] spIsL := by
  refine F.ok scIsL (fun vs H Q E h => ?_) (fun cdv A outer s H vs Q E hr h => ?_)
  · obtain ⟨d, v, rfl, _⟩ := h
    rfl
  obtain ⟨d, v, rfl, rp, q⟩ := h
  refine ⟨_, pss_one (ps_ret (pe_callB call_isi rfl mi (by decide +kernel) (pa_cons (pv 0) (pa_cons (pe_bltn (v := .ty "tuple") rfl ms (by decide +kernel) rfl) pa_nil)))), ?_⟩
  exact ⟨_, rfl, _, _, _, _, _, rfl, .ty "tuple", rp.ty, kit_tuple d, q⟩
/-! ### read_data -/
abbrev sRead : Stmt := top 22
theorem scRead : FnScope ["text", "datum", "end"] ["text"] (defScope sRead) := ⟨rfl, rfl, rfl, by decide +kernel, rfl, by decide +kernel, by decide +kernel⟩
def spRead (K : PySem.W.Frag) (C : Addr) : Sp := fun vs H Q E => (∃ (z : Str), vs = [.str z] ∧ z.length ≤ 100000 ∧ (∀ d, parse (tl z) = .ok d → ∀ v H', Same H H' → Rep H' d v → okD d = true → Q v H') ∧ (∀ e, parse (tl z) = .error e → ∀ H', Same H H' → Bad C E e H')) ∨
  (∃ (v : V) (t : String), vs = [v] ∧ TyX K H v (.type t) ∧ kitB t "str" = some false ∧ Bad C E 0 H)
variable {g1 : Addr} {gd1 : FuncData} {js : Expr} {CB fI cc cda : Addr}
theorem ok_read (F : Fun K "read_data" "read_data" sRead f fd) (T : PySem.OwnX.OwnT P K mg "BadText" "at" "BadText.__init__" js CB fI cc cda) (hsp : ∀ (n : Int) (t : Tok), 0 ≤ n → n < 10 ^ 20 → PySem.OwnX.Speaks P w "BadText.__init__" "at" js fI cc cda (.int n t))
    (G1 : FnOk P w K mg base (L2.CX P w) 5 g1 gd1 ["text"] (spParts CB)) (b1 : Binds K gd1 ["text"] []) (k1 : PySem.W.keepIn K (.ref g1) = true) (m1 : mg "read_parts" = some (.ref g1))
    (mi : mg "isinstance" = none) (ms : mg "str" = none) (ml : mg "len" = none) : FnOk P w K mg base (L2.CX P w) 6 f fd ["text"] (spRead K CB) := by
  refine F.okX scRead (fun vs H Q E h => ?_) (fun cdv A outer s H vs Q E hr h => ?_)
  · rcases h with ⟨z, rfl, _⟩ | ⟨v, t, rfl, _⟩ <;> rfl
  have esz := sizeLine_eq
  refine ⟨_, pss_cons (ps_if (pt_not (pt_val (pe_callB call_isi rfl mi (by decide +kernel) (pa_cons (pv 0) (pa_cons (pe_bltn (v := .ty "str") rfl ms (by decide +kernel) rfl) pa_nil))))) (pss_one (ps_raiseInt rfl T hsp hr (takes_of rfl rfl rfl rfl) (pa_cons pe_int pa_nil) rfl (by decide))) pss_nil)
    (pss_cons (ps_asg (pe_call G1 hr rfl m1 k1 b1 .nil (passes_call (takes_of rfl rfl rfl rfl) (fun _ _ _ _ h => h)) (pa_cons (pv 0) pa_nil)) (pg_tup (by rfl) (pgs_cons (pg_name (i := 1) scRead.nd rfl (.inl rfl)) (pgs_cons (pg_name (i := 2) scRead.nd rfl (.inl rfl)) pgs_nil))))
    (pss_cons (ps_if (pt_cmpR op_ne (pv 2) (pe_callB call_len_str rfl ml PySem.boot_len (pa_cons (pv 0) pa_nil)) (nomark _)) (pss_one (ps_raiseInt rfl T hsp hr (takes_of rfl rfl rfl rfl) (pa_cons (pv 2) pa_nil) rfl (by decide))) pss_nil)
    (pss_one (ps_ret (pv 1))))), ?_⟩
  rcases h with ⟨z, rfl, hz, hok, hbad⟩ | ⟨v, t, rfl, hty, hk, hbad⟩
  · refine ⟨_, rfl, _, _, _, _, true, rfl, .ty "str", .base (.str z), kit_ty (show kitB "str" "str" = some true by decide +kernel), _, rfl, iteF ?_⟩
    have hlen : (tl z).length = z.length := (len_tl z).symm
    refine ⟨_, rfl, z, rfl, hz, fun d n hp p v H' sm rp oke hpt => ?_, fun e he H' sm => hbad e ?_ H' sm⟩
    · refine ⟨p, _, rfl, SqT.of hpt, rfl, _, _, rfl, _, _, rfl, rfl, ?_⟩
      refine ⟨_, rfl, _, rfl, z, rfl, by omega, rfl, _, rfl, ?_⟩
      have hm : ∃ m, n = 0 + m ∧ m ≤ (tl z).length ∧ _ := backB _ _ _ _ _ _ hp
      obtain ⟨m, hm1, hm2, _⟩ := hm
      by_cases hn : n = z.length
      · refine iteNS (by rw [hn]) ?_
        refine ⟨_, rfl, hok d ?_ v H' sm rp oke⟩
        unfold parse
        rw [hlen, hp]
        exact if_pos hn
      · rw [decide_eq_false (fun e => hn (by have := V.int.inj e; omega))]
        refine iteT ?_
        refine ⟨_, rfl, _, rfl, by omega, by omega, hbad n ?_ H' sm⟩
        unfold parse
        rw [hlen, hp]
        exact if_neg hn
    · unfold parse
      rw [hlen, he]
  · refine ⟨_, rfl, _, _, _, _, false, rfl, .ty "str", hty, kit_ty hk, _, rfl, iteT ?_⟩
    exact ⟨_, rfl, by decide, by decide, hbad⟩
/-! ### leaf_text -/
abbrev sLtx : Stmt := top 23
theorem scLtx : FnScope ["value"] ["value"] (defScope sLtx) := ⟨rfl, rfl, rfl, by decide +kernel, rfl, by decide +kernel, by decide +kernel⟩
def spLtx : Sp := fun vs H Q _ => ∃ (d : D), vs = [valOf d] ∧ isLeaf d = true ∧ okD d = true ∧ Q (.str (mk (said d))) H
theorem ok_ltx (F : Fun K "leaf_text" "leaf_text" sLtx f fd) (mi : mg "isinstance" = none) (ms : mg "str" = none) {CF CB : Addr} (mF : mg "Fun" = some (.ref CF)) (mB : mg "Built" = some (.ref CB))
    (i1 : PySem.W.kitOne K (.type "int") (.ref CF) = some false) (i2 : PySem.W.kitOne K (.type "str") (.ref CF) = some false) (i3 : PySem.W.kitOne K (.type "int") (.ref CB) = some false) (i4 : PySem.W.kitOne K (.type "str") (.ref CB) = some false) :
    FnOk P w K mg base CX0 1 f fd ["value"] spLtx := by
  refine F.ok scLtx (fun vs H Q E h => ?_) (fun cdv A outer s H vs Q E hr h => ?_)
  · obtain ⟨d, rfl, _⟩ := h
    rfl
  obtain ⟨d, rfl, hl, ok, q⟩ := h
  refine ⟨_, pss_cons (ps_if (pt_cmpR op_isT (pv 0) pe_bl (nomark _)) (pss_one (ps_ret pe_str)) pss_nil)
    (pss_cons (ps_if (pt_cmpR op_isT (pv 0) pe_bl (nomark _)) (pss_one (ps_ret pe_str)) pss_nil)
    (pss_cons (ps_if (pt_val (pe_callB call_isi rfl mi (by decide +kernel) (pa_cons (pv 0) (pa_cons (pe_glob (v := .ref CF) rfl mF rfl) pa_nil)))) (pss_one ps_never) pss_nil)
    (pss_cons (ps_if (pt_val (pe_callB call_isi rfl mi (by decide +kernel) (pa_cons (pv 0) (pa_cons (pe_glob (v := .ref CB) rfl mB rfl) pa_nil)))) (pss_one ps_never) pss_nil)
    (pss_one (ps_ret (pe_callTy call_str_any rfl ms (by decide +kernel) (pa_cons (pv 0) pa_nil))))))), ?_⟩
  refine ⟨_, rfl, _, rfl, _, rfl, ?_⟩
  cases d with
  | lst _ => exact nomatch hl
  | bl b =>
    cases b with
    | true =>
      refine iteT ?_
      have e : (Str.ofString "yes") = mk yesT := by decide +kernel
      rw [e]; exact q
    | false =>
      refine iteF ?_
      refine ⟨_, rfl, _, rfl, _, rfl, iteT ?_⟩
      have e : (Str.ofString "no") = mk noT := by decide +kernel
      rw [e]; exact q
  | num n =>
    have hlog : n.natAbs.log2 < 1920 := by
      have ok : numOk n = true := ok
      unfold numOk at ok
      simp only [Bool.and_eq_true, decide_eq_true_eq] at ok
      exact ok.1
    refine iteF ⟨_, rfl, _, rfl, _, rfl, iteF ?_⟩
    refine ⟨_, rfl, _, _, _, _, _, rfl, .own CF, .base (.int n), i1, _, rfl, iteF ?_⟩
    refine ⟨_, rfl, _, _, _, _, _, rfl, .own CB, .base (.int n), i3, _, rfl, iteF ?_⟩
    refine ⟨_, rfl, .inl ⟨n, rfl, hlog, ?_⟩⟩
    have e : mk (said (.num n)) = Str.ofString (toString n) := mk_tl _
    rw [← e]; exact q
  | wd n =>
    refine iteF ⟨_, rfl, _, rfl, _, rfl, iteF ?_⟩
    refine ⟨_, rfl, _, _, _, _, _, rfl, .own CF, .base (.str n), i2, _, rfl, iteF ?_⟩
    refine ⟨_, rfl, _, _, _, _, _, rfl, .own CB, .base (.str n), i4, _, rfl, iteF ?_⟩
    refine ⟨_, rfl, .inr ⟨n, rfl, ?_⟩⟩
    have e : mk (said (.wd n)) = n := mk_tl _
    rw [← e]; exact q
end
end K2
namespace K2
open PySem L2
theorem okL_get : ∀ {ds : List D} {i : Nat} {d : D}, okL ds = true → ds[i]? = some d → okD d = true
  | [], _, _, _, e => by simp at e
  | e :: r, 0, d, h, q => by
    have h : (okD e && okL r) = true := h
    rw [Bool.and_eq_true] at h
    cases (show some e = some d from q); exact h.1
  | e :: r, i + 1, d, h, q => by
    have h : (okD e && okL r) = true := h
    rw [Bool.and_eq_true] at h
    exact okL_get (i := i) h.2 q
/-! ### what is left to be written -/
abbrev It := Sum (List Nat) D
def outI : It → List Nat
  | .inl t => t
  | .inr d => said d
def outT : List It → List Nat
  | [] => []
  | i :: r => outI i ++ outT r
theorem outT_app (a b : List It) : outT (a ++ b) = outT a ++ outT b := by
  induction a with
  | nil => rfl
  | cons i r ih => show outI i ++ outT (r ++ b) = (outI i ++ outT r) ++ outT b; rw [ih, List.append_assoc]
mutual
def wt : D → Nat
  | .bl _ => 1
  | .num _ => 1
  | .wd _ => 1
  | .lst ds => wts ds + 2
def wts : List D → Nat
  | [] => 0
  | d :: r => wt d + 1 + wts r
end
def wtI : It → Nat
  | .inl _ => 1
  | .inr d => wt d
def wtT : List It → Nat
  | [] => 0
  | i :: r => wtI i + wtT r
theorem wtT_app (a b : List It) : wtT (a ++ b) = wtT a + wtT b := by
  induction a with
  | nil => simp [wtT]
  | cons i r ih => show wtI i + wtT (r ++ b) = (wtI i + wtT r) + wtT b; rw [ih, Nat.add_assoc]
theorem wt_pos (d : D) : 1 ≤ wt d := by
  cases d <;> simp [wt]
theorem wtI_pos (i : It) : 1 ≤ wtI i := by
  cases i with
  | inl t => exact Nat.le_refl _
  | inr d => exact wt_pos d
theorem len_wt (l : List It) : l.length ≤ wtT l := by
  induction l with
  | nil => exact Nat.le_refl _
  | cons i r ih => have := wtI_pos i; show r.length + 1 ≤ wtI i + wtT r; omega
def srI : List D → List It
  | [] => []
  | d :: r => .inl [32] :: .inr d :: srI r
def slI : List D → List It
  | [] => []
  | d :: r => .inr d :: srI r
theorem out_srI (ds : List D) : outT (srI ds) = sr ds := by
  induction ds with
  | nil => rfl
  | cons d r ih => show [32] ++ (said d ++ outT (srI r)) = 32 :: (said d ++ sr r); rw [ih]; rfl
theorem out_slI (ds : List D) : outT (slI ds) = sl ds := by
  cases ds with
  | nil => rfl
  | cons d r => show said d ++ outT (srI r) = said d ++ sr r; rw [out_srI]
theorem wt_srI (ds : List D) : wtT (srI ds) = wts ds := by
  induction ds with
  | nil => rfl
  | cons d r ih => show 1 + (wt d + wtT (srI r)) = wt d + 1 + wts r; rw [ih]; omega
theorem wt_slI (ds : List D) : wtT (slI ds) ≤ wts ds := by
  cases ds with
  | nil => exact Nat.le_refl _
  | cons d r => show wt d + wtT (srI r) ≤ wt d + 1 + wts r; rw [wt_srI]; omega
mutual
theorem wt_said : ∀ d : D, okD d = true → wt d ≤ 2 * (said d).length
  | .bl b, ok => by obtain ⟨c, r, h, _⟩ := leaf_head (d := .bl b) rfl ok; rw [h]; simp [wt]; omega
  | .num b, ok => by obtain ⟨c, r, h, _⟩ := leaf_head (d := .num b) rfl ok; rw [h]; simp [wt]; omega
  | .wd b, ok => by obtain ⟨c, r, h, _⟩ := leaf_head (d := .wd b) rfl ok; rw [h]; simp [wt]; omega
  | .lst ds, ok => by
    have h := wts_said ds ok
    show wts ds + 2 ≤ 2 * ((sl ds ++ [41]).length + 1)
    cases ds with
    | nil => simp [wts]; omega
    | cons d r =>
      have e : (sr (d :: r)).length = (sl (d :: r)).length + 1 := rfl
      rw [List.length_append]
      show wts (d :: r) + 2 ≤ 2 * ((sl (d :: r)).length + 1 + 1)
      omega
theorem wts_said : ∀ ds : List D, okL ds = true → wts ds ≤ 2 * (sr ds).length
  | [], _ => Nat.zero_le _
  | d :: r, ok => by
    have ok' : (okD d && okL r) = true := ok
    rw [Bool.and_eq_true] at ok'
    have h1 := wt_said d ok'.1
    have h2 := wts_said r ok'.2
    have e : (sr (d :: r)).length = (said d).length + (sr r).length + 1 := by
      show (32 :: (said d ++ sr r)).length = _
      rw [List.length_cons, List.length_append]
    show wt d + 1 + wts r ≤ _
    omega
end
/-- an item in the heap -/
def IRep (H : Hp) : It → V → Prop
  | .inl t, v => ∃ p, v = .ref p ∧ H p = some (.tup [.bl true, .str (mk t)])
  | .inr d, v => ∃ p x, v = .ref p ∧ H p = some (.tup [.bl false, x]) ∧ Rep H d x ∧ okD d = true
def IReps (H : Hp) : List It → List V → Prop
  | [], ws => ws = []
  | i :: r, ws => ∃ x ws', ws = x :: ws' ∧ IRep H i x ∧ IReps H r ws'
theorem IRep.mono {H H' : Hp} (t : Tups H H') {i : It} {v : V} (h : IRep H i v) : IRep H' i v := by
  cases i with
  | inl x => obtain ⟨p, rfl, e⟩ := h; exact ⟨p, rfl, t _ _ e⟩
  | inr d => obtain ⟨p, x, rfl, e, r, o⟩ := h; exact ⟨p, x, rfl, t _ _ e, r.mono t, o⟩
theorem IReps.mono {H H' : Hp} (t : Tups H H') : ∀ {l : List It} {ws : List V}, IReps H l ws → IReps H' l ws
  | [], _, h => h
  | _ :: _, _, h => by
    obtain ⟨x, ws', e, a, b⟩ := h
    exact ⟨x, ws', e, a.mono t, IReps.mono t b⟩
theorem IReps.length {H : Hp} : ∀ {l : List It} {ws : List V}, IReps H l ws → ws.length = l.length
  | [], _, h => by cases h; rfl
  | _ :: _, _, h => by
    obtain ⟨x, ws', rfl, a, b⟩ := h
    rw [List.length_cons, List.length_cons, IReps.length b]
def flat : List (List Nat) → List Nat
  | [] => []
  | t :: r => t ++ flat r
theorem flat_snoc (a : List (List Nat)) (t : List Nat) : flat (a ++ [t]) = flat a ++ t := by
  induction a with
  | nil => show t ++ [] = t; simp
  | cons x r ih => show x ++ flat (r ++ [t]) = (x ++ flat r) ++ t; rw [ih, List.append_assoc]
theorem join_flat (ps : List (List Nat)) : Txt.join (mk []) (ps.map mk) = mk (flat ps) := by
  rw [TL.join_eq]
  apply TL.ext_tl
  rw [TL.tl_join]
  show TL.joinL [] ((ps.map mk).map TL.tl) = flat ps
  induction ps with
  | nil => rfl
  | cons x r ih =>
    cases r with
    | nil => show x = x ++ []; simp
    | cons y r => show x ++ ([] ++ TL.joinL [] (((y :: r).map mk).map TL.tl)) = x ++ flat (y :: r); rw [ih]; rfl
theorem sum_flat (ps : List (List Nat)) : ((ps.map mk).map (·.length)).sum = (flat ps).length := by
  induction ps with
  | nil => rfl
  | cons x r ih =>
    show (mk x).length + ((r.map mk).map (·.length)).sum = (x ++ flat r).length
    rw [ih, List.length_append, len_mk]
def chunk (ds : List D) (i : Nat) : List It := if ds.length - i = 0 then slI ds else srI (ds.drop (ds.length - i))
theorem len_srI (ds : List D) : (srI ds).length = 2 * ds.length := by
  induction ds with
  | nil => rfl
  | cons d r ih => show (srI r).length + 1 + 1 = 2 * (r.length + 1); omega
theorem len_chunk (ds : List D) (i : Nat) : (chunk ds i).length ≤ 2 * ds.length := by
  unfold chunk
  split
  · cases ds with
    | nil => exact Nat.le_refl _
    | cons d r =>
      show (srI r).length + 1 ≤ 2 * (r.length + 1)
      rw [len_srI]; omega
  · rw [len_srI, List.length_drop]; omega
theorem len_wts : ∀ ds : List D, ds.length ≤ wts ds
  | [] => Nat.le_refl _
  | d :: r => by have := len_wts r; show r.length + 1 ≤ wt d + 1 + wts r; omega
section
variable {P : Program} {w : World} {K : PySem.W.Frag} {mg : Str → Option Value} {base : Heap} {f : Addr} {fd : FuncData}
abbrev sDt : Stmt := top 24
theorem scDt : FnScope ["value", "pieces", "left", "ready", "one", "at"] ["value"] (defScope sDt) := ⟨rfl, rfl, rfl, by decide +kernel, rfl, by decide +kernel, by decide +kernel⟩
def spDt : Sp := fun vs H Q _ => ∃ (d : D) (v : V), vs = [v] ∧ Rep H d v ∧ okD d = true ∧ (said d).length ≤ 200000 ∧ ∀ H', Same H H' → Q (.str (mk (said d))) H'
def sV (ps : List (List Nat)) : List V := (ps.map mk).map V.str
theorem sV_snoc (ps : List (List Nat)) (t : List Nat) : sV ps ++ [V.str (mk t)] = sV (ps ++ [t]) := by simp [sV]
theorem sV_len (ps : List (List Nat)) : (sV ps).length = ps.length := by simp [sV]
def WD (v : V) (d : D) (H : Hp) (n : Nat) (σ : St) (H' : Hp) : Prop := ∃ (its : List It) (ws : List V) (ps : List (List Nat)) (Lp Lf : Addr) (r3 r4 r5 : Option V),
  n = wtT its ∧ ps.length + wtT its ≤ wt d ∧ σ = [some v, some (.ref Lp), some (.ref Lf), r3, r4, r5] ∧ H' Lp = some (.lst (sV ps)) ∧ H' Lf = some (.lst ws.reverse) ∧ Lp ≠ Lf ∧ H Lp = none ∧ H Lf = none ∧
  IReps H' its ws ∧ flat ps ++ outT its = said d ∧ Same H H'
variable {g1 g2 : Addr} {gd1 gd2 : FuncData}
set_option maxHeartbeats 8000000 in
theorem ok_dt (F : Fun K "data_text" "data_text" sDt f fd) (G1 : FnOk P w K mg base CX0 1 g1 gd1 ["value"] spIsL) (b1 : Binds K gd1 ["value"] []) (k1 : PySem.W.keepIn K (.ref g1) = true) (m1 : mg "is_list" = some (.ref g1))
    (G2 : FnOk P w K mg base CX0 1 g2 gd2 ["value"] spLtx) (b2 : Binds K gd2 ["value"] []) (k2 : PySem.W.keepIn K (.ref g2) = true) (m2 : mg "leaf_text" = some (.ref g2))
    (mr : mg "range" = none) (ml : mg "len" = none) : FnOk P w K mg base CX0 2 f fd ["value"] spDt := by
  refine F.ok scDt (fun vs H Q E h => ?_) (fun cdv A outer s H vs Q E hr h => ?_)
  · obtain ⟨d, v, rfl, _⟩ := h
    rfl
  obtain ⟨d, v, rfl, rp, hok, hsz, q⟩ := h
  refine ⟨_, pss_cons (ps_set (i := 1) scDt.nd rfl (.inl rfl) (pe_lst pa_nil))
    (pss_cons (ps_set (i := 2) scDt.nd rfl (.inl rfl) (pe_lst (pa_cons (pe_tup (pa_cons pe_bl (pa_cons (pv 0) pa_nil))) pa_nil)))
    (pss_cons (ps_while PassesOwn.never (pt_truth (pv 2) (by intro _; rfl))
      (pss_cons (ps_asg (pe_bm0 PySem.F.plainAttrs_list PySem.F.slot_list_pop PySem.F.type_list_pop mt_pop (pv 2)) (pg_tup (by rfl) (pgs_cons (pg_name (i := 3) scDt.nd rfl (.inl rfl)) (pgs_cons (pg_name (i := 4) scDt.nd rfl (.inl rfl)) pgs_nil))))
      (pss_one (ps_if (pt_val (pv 3))
        (pss_one (ps_expr (pe_bm PySem.F.plainAttrs_list PySem.F.slot_list_append PySem.F.type_list_append mt_append (pv 1) (pa_cons (pv 4) pa_nil))))
        (pss_one (ps_if (pt_val (pe_call G1 hr rfl m1 k1 b1 .nil pass0 (pa_cons (pv 4) pa_nil)))
          (pss_cons (ps_expr (pe_bm PySem.F.plainAttrs_list PySem.F.slot_list_append PySem.F.type_list_append mt_append (pv 1) (pa_cons pe_str pa_nil)))
          (pss_cons (ps_expr (pe_bm PySem.F.plainAttrs_list PySem.F.slot_list_append PySem.F.type_list_append mt_append (pv 2) (pa_cons (pe_tup (pa_cons pe_bl (pa_cons pe_str pa_nil))) pa_nil)))
          (pss_one (ps_for PassesOwn.never rfl (pi_range3 rfl mr (pa_cons (pe_op op_sub (pe_callB call_len_seq rfl ml PySem.boot_len (pa_cons (pv 4) pa_nil)) pe_int) (pa_cons (pe_un un_neg pe_int) (pa_cons (pe_un un_neg pe_int) pa_nil)))) (pg_name (i := 5) scDt.nd rfl (.inl rfl))
            (pss_cons (ps_expr (pe_bm PySem.F.plainAttrs_list PySem.F.slot_list_append PySem.F.type_list_append mt_append (pv 2) (pa_cons (pe_tup (pa_cons pe_bl (pa_cons (pe_ix ix_tup (pv 4) (pv 5) (fun _ _ => rfl)) pa_nil))) pa_nil)))
            (pss_one (ps_if (pt_cmpR op_gt (pv 5) pe_int (nomark _))
              (pss_one (ps_expr (pe_bm PySem.F.plainAttrs_list PySem.F.slot_list_append PySem.F.type_list_append mt_append (pv 2) (pa_cons (pe_tup (pa_cons pe_bl (pa_cons pe_str pa_nil))) pa_nil)))) pss_nil)))))))
          (pss_one (ps_expr (pe_bm PySem.F.plainAttrs_list PySem.F.slot_list_append PySem.F.type_list_append mt_append (pv 1) (pa_cons (pe_call G2 hr rfl m2 k2 b2 .nil pass0 (pa_cons (pv 4) pa_nil)) pa_nil))))))))))
    (pss_one (ps_ret (pe_join pe_str (pv 1)))))), ?_⟩
  have s40 : (Str.ofString "(") = mk [40] := by decide +kernel
  have s41 : (Str.ofString ")") = mk [41] := by decide +kernel
  have s32 : (Str.ofString " ") = mk [32] := by decide +kernel
  have s0 : (Str.ofString "") = mk [] := by decide +kernel
  rw [s40, s41, s32, s0]
  have hw := wt_said d hok
  have esz := sizeLine_eq
  refine ⟨(by show 0 ≤ sizeLine; decide), fun Lp hLp => ?_⟩
  refine ⟨_, rfl, (by show 2 ≤ sizeLine; decide), fun p0 hp0 => ?_⟩
  refine ⟨(by show 1 ≤ sizeLine; decide), fun Lf hLf => ?_⟩
  have e1 : upd (upd H Lp (.lst [])) p0 (.tup [.bl false, v]) Lp = some (.lst []) := by rw [upd_ne (ne_of_none upd_same hp0), upd_same]
  have hp0H : H p0 = none := (same_new hLp _).free hp0
  have hLfH : H Lf = none := ((same_new hLp _).trans (same_new hp0 _)).free hLf
  have sm0 : Same H (upd (upd (upd H Lp (.lst [])) p0 (.tup [.bl false, v])) Lf (.lst [.ref p0])) := ((same_new hLp _).trans (same_new hp0 _)).trans (same_new hLf _)
  refine ⟨WD v d H, ⟨_, [.inr d], [.ref p0], [], Lp, Lf, none, none, none, rfl, ?_, rfl, ?_, upd_same, ne_of_none e1 hLf, hLp, hLfH, ?_, ?_, sm0⟩, ?_⟩
  · show 0 + (wt d + 0) ≤ wt d
    omega
  · rw [upd_ne (ne_of_none e1 hLf)]; exact e1
  · refine ⟨.ref p0, [], rfl, ⟨p0, v, rfl, ?_, rp.mono (Tups.of sm0), hok⟩, rfl⟩
    rw [upd_ne (ne_of_none upd_same hLf), upd_same]
  · show [] ++ (said d ++ []) = said d
    simp
  clear e1 hp0H hLfH sm0 hp0 hLp hLf
  rintro n σ H' ⟨its, ws, ps, Lp, Lf, r3, r4, r5, rfl, hwt, rfl, hLp, hLf, hne, hLp0, hLf0, hit, hout, sm⟩
  refine ⟨_, rfl, _, .inl ⟨_, SqL.of hLf, rfl⟩, ?_⟩
  cases its with
  | nil =>
    cases hit
    refine iteF ?_
    have hfl : flat ps = said d := by
      have : flat ps ++ [] = said d := hout
      rwa [List.append_nil] at this
    refine ⟨⟨_, rfl⟩, _, rfl, mk [], Lp, ps.map mk, rfl, rfl, .inl (SqL.of hLp), ?_, ?_⟩
    · rw [sum_flat, hfl]
      have : (mk []).length = 0 := rfl
      rw [this]
      omega
    · rw [join_flat, hfl]; exact q H' sm
  | cons it its =>
    obtain ⟨x, ws', rfl, hx, hit⟩ := hit
    have e0 : (!(x :: ws').reverse.isEmpty) = true := by simp
    rw [e0]
    refine iteT ?_
    refine ⟨fun σ' H' => ∃ m', m' < wtT (it :: its) ∧ WD v d H m' σ' H', fun _ _ h => h, ?_⟩
    have erv : (x :: ws').reverse = ws'.reverse ++ [x] := List.reverse_cons
    rw [erv] at hLf
    refine ⟨_, rfl, .inl ⟨rfl, _, SqL.of hLf⟩, Lf, _, x, rfl, rfl, hLf, (by simp), ?_⟩
    rw [List.dropLast_concat]
    have tp : Tups H' (upd H' Lf (.lst ws'.reverse)) := Tups.lst hLf _
    have sp : Same H (upd H' Lf (.lst ws'.reverse)) := same_upd sm hLf0 _
    have hLp1 : upd H' Lf (.lst ws'.reverse) Lp = some (.lst (sV ps)) := by rw [upd_ne hne]; exact hLp
    have hit1 := hit.mono tp
    have hwt' : ps.length + (wtI it + wtT its) ≤ wt d := hwt
    have hit0 := len_wt its
    cases it with
    | inl t =>
      obtain ⟨p, rfl, hp⟩ := hx
      refine ⟨p, _, rfl, SqT.of (tp _ _ hp), rfl, _, _, rfl, _, _, rfl, rfl, ?_⟩
      refine ⟨_, rfl, _, rfl, iteT ?_⟩
      have hwt' : ps.length + (1 + wtT its) ≤ wt d := hwt
      refine ⟨_, rfl, .inl ⟨rfl, _, SqL.of hLp1⟩, _, rfl, Lp, _, _, rfl, rfl, hLp1, (by rw [sV_len]; omega), ?_⟩
      rw [sV_snoc]
      refine ⟨wtT its, ?_, its, ws', ps ++ [t], Lp, Lf, _, _, _, rfl, ?_, rfl, upd_same, ?_, hne, hLp0, hLf0, hit1.mono (Tups.lst hLp1 _), ?_, same_upd sp hLp0 _⟩
      · show wtT its < 1 + wtT its
        omega
      · rw [List.length_append]
        show ps.length + 1 + wtT its ≤ wt d
        omega
      · rw [upd_ne (Ne.symm hne), upd_same]
      · rw [flat_snoc, List.append_assoc]; exact hout
    | inr e =>
      obtain ⟨p, y, rfl, hp, hy, hoke⟩ := hx
      refine ⟨p, _, rfl, SqT.of (tp _ _ hp), rfl, _, _, rfl, _, _, rfl, rfl, ?_⟩
      refine ⟨_, rfl, _, rfl, iteF ?_⟩
      refine ⟨_, rfl, e, y, rfl, hy.mono tp, _, rfl, ?_⟩
      have hout' : flat ps ++ (said e ++ outT its) = said d := hout
      have hwe : ps.length + (wt e + wtT its) ≤ wt d := hwt
      have hwp := wt_pos e
      by_cases hlf : isLeaf e = true
      · have hls : isLs e = false := by cases e <;> first | rfl | exact nomatch hlf
        rw [hls]
        refine iteF ?_
        cases (hy.leaf hlf)
        refine ⟨_, rfl, .inl ⟨rfl, _, SqL.of hLp1⟩, _, rfl, e, rfl, hlf, hoke, ?_⟩
        refine ⟨Lp, _, _, rfl, rfl, hLp1, (by rw [sV_len]; omega), ?_⟩
        rw [sV_snoc]
        refine ⟨wtT its, ?_, its, ws', ps ++ [said e], Lp, Lf, _, _, _, rfl, ?_, rfl, upd_same, ?_, hne, hLp0, hLf0, hit1.mono (Tups.lst hLp1 _), ?_, same_upd sp hLp0 _⟩
        · show wtT its < wt e + wtT its
          omega
        · rw [List.length_append]
          show ps.length + 1 + wtT its ≤ wt d
          omega
        · rw [upd_ne (Ne.symm hne), upd_same]
        · rw [flat_snoc, List.append_assoc]; exact hout'
      · cases e with
        | bl _ => exact absurd rfl hlf
        | num _ => exact absurd rfl hlf
        | wd _ => exact absurd rfl hlf
        | lst ds =>
          refine iteT ?_
          obtain ⟨tp_, ys, rfl, htup, hreps⟩ := hy
          have hokd : okL ds = true := hoke
          have hyl : ys.length = ds.length := hreps.length
          have hwd : ps.length + (wts ds + 2 + wtT its) ≤ wt d := hwe
          have hlw := len_wts ds
          refine ⟨_, rfl, .inl ⟨rfl, _, SqL.of hLp1⟩, Lp, _, _, rfl, rfl, hLp1, (by rw [sV_len]; omega), ?_⟩
          rw [sV_snoc]
          have hLf2 : upd (upd H' Lf (.lst ws'.reverse)) Lp (.lst (sV (ps ++ [[40]]))) Lf = some (.lst ws'.reverse) := by rw [upd_ne (Ne.symm hne), upd_same]
          have tp2 : Tups H' (upd (upd H' Lf (.lst ws'.reverse)) Lp (.lst (sV (ps ++ [[40]])))) := tp.trans (Tups.lst hLp1 _)
          have sp2 : Same H (upd (upd H' Lf (.lst ws'.reverse)) Lp (.lst (sV (ps ++ [[40]])))) := same_upd sp hLp0 _
          refine ⟨_, rfl, .inl ⟨rfl, _, SqL.of hLf2⟩, (by show 2 ≤ sizeLine; decide), fun p1 hp1 => ?_⟩
          have hLf3 : upd (upd (upd H' Lf (.lst ws'.reverse)) Lp (.lst (sV (ps ++ [[40]])))) p1 (.tup [.bl true, .str (mk [41])]) Lf = some (.lst ws'.reverse) := by rw [upd_ne (ne_of_none hLf2 hp1)]; exact hLf2
          refine ⟨Lf, _, _, rfl, rfl, hLf3, (by rw [List.length_reverse, hit.length]; omega), ?_⟩
          rw [← List.reverse_cons]
          have hLp3 : upd (upd (upd H' Lf (.lst ws'.reverse)) Lp (.lst (sV (ps ++ [[40]])))) p1 (.tup [.bl true, .str (mk [41])]) Lp = some (.lst (sV (ps ++ [[40]]))) := by rw [upd_ne (ne_of_none upd_same hp1), upd_same]
          generalize hH3 : upd (upd (upd H' Lf (.lst ws'.reverse)) Lp (.lst (sV (ps ++ [[40]])))) p1 (.tup [.bl true, .str (mk [41])]) = H3 at hLf3 hLp3
          have tp3 : Tups H' H3 := by rw [← hH3]; exact tp2.trans (Tups.new hp1 _)
          have sp3 : Same H H3 := by rw [← hH3]; exact sp2.trans (same_new hp1 _)
          have hp13 : H3 p1 = some (.tup [.bl true, .str (mk [41])]) := by rw [← hH3]; exact upd_same
          have tp4 : Tups H3 (upd H3 Lf (.lst (V.ref p1 :: ws').reverse)) := Tups.lst hLf3 _
          have htup4 := tp4 _ _ (tp3 _ _ htup)
          refine ⟨_, rfl, tp_, ys, rfl, .inr (SqT.of htup4), _, _, rfl, rfl, _, rfl, _, rfl, _, _, _, _, rfl, RgC.neg (by omega) (by rw [hyl]; omega) (by omega) (by omega), ?_⟩
          have en : ((ys.length : Int) - 1 - -1).toNat = ds.length := by rw [hyl]; omega
          rw [en]
          refine for_rangeC (fun i σ' H'' => ∃ (ws'' : List V) (q5 : Option V), σ' = [some v, some (.ref Lp), some (.ref Lf), some (.bl false), some (.ref tp_), q5] ∧ H'' Lp = some (.lst (sV (ps ++ [[40]]))) ∧ H'' Lf = some (.lst ws''.reverse) ∧
            IReps H'' (chunk ds i ++ .inl [41] :: its) ws'' ∧ Same H H'' ∧ Tups H' H'') ?_ ?_ ?_
          · refine ⟨V.ref p1 :: ws', _, rfl, ?_, upd_same, ?_, same_upd sp3 hLf0 _, tp3.trans tp4⟩
            · rw [upd_ne hne]; exact hLp3
            · have ec : chunk ds 0 = [] := by
                unfold chunk
                rw [Nat.sub_zero, List.drop_length]
                split
                · rename_i h0
                  rw [List.length_eq_zero_iff.mp h0]; rfl
                · rfl
              rw [ec]
              exact ⟨_, _, rfl, ⟨p1, rfl, tp4 _ _ hp13⟩, hit.mono (tp3.trans tp4)⟩
          · rintro i σ' H'' hi ⟨ws'', q5, rfl, hLp', hLf', hit', sm', tp'⟩
            obtain ⟨k, hk⟩ : ∃ k : Nat, k + 1 + i = ds.length := ⟨ds.length - 1 - i, by omega⟩
            have eat : (ys.length : Int) - 1 + ((i : Nat) : Int) * -1 = (k : Int) := by rw [hyl]; omega
            rw [eat]
            have hkl : k < ys.length := by omega
            have hgk : ys[k]? = some ys[k] := List.getElem?_eq_getElem hkl
            obtain ⟨dk, hdk, hrk⟩ := hreps.get hgk
            have hokk : okD dk = true := okL_get hokd hdk
            have hL := hit'.length
            have hlen : ws''.length < sizeLine - 1 := by
              rw [hit'.length, List.length_append, List.length_cons]
              have := len_chunk ds i
              omega
            refine ⟨_, rfl, .inl ⟨rfl, _, SqL.of hLf'⟩, ?_⟩
            refine ⟨_, rfl, _, rfl, tp_, ys, _, _, rfl, rfl, SqT.of (tp' _ _ htup), atI_nat hgk, (by show 2 ≤ sizeLine; decide), fun p2 hp2 => ?_⟩
            have hLf5 : upd H'' p2 (.tup [.bl false, ys[k]]) Lf = some (.lst ws''.reverse) := by rw [upd_ne (ne_of_none hLf' hp2)]; exact hLf'
            have hLp5 : upd H'' p2 (.tup [.bl false, ys[k]]) Lp = some (.lst (sV (ps ++ [[40]]))) := by rw [upd_ne (ne_of_none hLp' hp2)]; exact hLp'
            refine ⟨Lf, _, _, rfl, rfl, hLf5, (by rw [List.length_reverse]; omega), ?_⟩
            rw [← List.reverse_cons]
            have tp5 : Tups H'' (upd (upd H'' p2 (.tup [.bl false, ys[k]])) Lf (.lst (V.ref p2 :: ws'').reverse)) := (Tups.new hp2 _).trans (Tups.lst hLf5 _)
            have sp5 : Same H (upd (upd H'' p2 (.tup [.bl false, ys[k]])) Lf (.lst (V.ref p2 :: ws'').reverse)) := same_upd (sm'.trans (same_new hp2 _)) hLf0 _
            have hp25 : upd (upd H'' p2 (.tup [.bl false, ys[k]])) Lf (.lst (V.ref p2 :: ws'').reverse) p2 = some (.tup [.bl false, ys[k]]) := by
              rw [upd_ne (ne_of (upd_same : upd H'' p2 (.tup [.bl false, ys[k]]) p2 = _) hLf5 (by intro z; cases z)), upd_same]
            have hLp6 : upd (upd H'' p2 (.tup [.bl false, ys[k]])) Lf (.lst (V.ref p2 :: ws'').reverse) Lp = some (.lst (sV (ps ++ [[40]]))) := by rw [upd_ne hne]; exact hLp5
            have hLf6 : upd (upd H'' p2 (.tup [.bl false, ys[k]])) Lf (.lst (V.ref p2 :: ws'').reverse) Lf = some (.lst (V.ref p2 :: ws'').reverse) := upd_same
            have irep : IReps (upd (upd H'' p2 (.tup [.bl false, ys[k]])) Lf (.lst (V.ref p2 :: ws'').reverse)) (.inr dk :: (chunk ds i ++ .inl [41] :: its)) (V.ref p2 :: ws'') :=
              ⟨_, _, rfl, ⟨p2, _, rfl, hp25, hrk.mono (tp'.trans tp5), hokk⟩, hit'.mono tp5⟩
            have ech : chunk ds i = srI (ds.drop (k + 1)) := by
              unfold chunk
              rw [if_neg (by omega)]
              congr 2
              omega
            have ecut : ds.drop k = dk :: ds.drop (k + 1) := by
              have hkd : k < ds.length := by omega
              rw [List.drop_eq_getElem_cons hkd]
              congr 1
              have := List.getElem?_eq_getElem hkd
              rw [hdk] at this
              exact (Option.some.inj this).symm
            refine ⟨_, rfl, _, _, rfl, rfl, _, rfl, ?_⟩
            refine ite2 (fun c => ?_) (fun c => ?_)
            · have c' : (0 : Int) < (k : Int) := of_decide_eq_true c
              refine ⟨_, rfl, .inl ⟨rfl, _, SqL.of hLf6⟩, (by show 2 ≤ sizeLine; decide), fun p3 hp3 => ?_⟩
              generalize hH6 : upd (upd H'' p2 (.tup [.bl false, ys[k]])) Lf (.lst (V.ref p2 :: ws'').reverse) = H6 at tp5 sp5 hLp6 hLf6 irep hp3
              have hLf7 : upd H6 p3 (.tup [.bl true, .str (mk [32])]) Lf = some (.lst (V.ref p2 :: ws'').reverse) := by rw [upd_ne (ne_of_none hLf6 hp3)]; exact hLf6
              have hLp7 : upd H6 p3 (.tup [.bl true, .str (mk [32])]) Lp = some (.lst (sV (ps ++ [[40]]))) := by rw [upd_ne (ne_of_none hLp6 hp3)]; exact hLp6
              refine ⟨Lf, _, _, rfl, rfl, hLf7, (by rw [List.length_reverse, List.length_cons]; omega), ?_⟩
              rw [← List.reverse_cons]
              have tp7 : Tups H6 (upd (upd H6 p3 (.tup [.bl true, .str (mk [32])])) Lf (.lst (V.ref p3 :: V.ref p2 :: ws'').reverse)) := (Tups.new hp3 _).trans (Tups.lst hLf7 _)
              refine ⟨V.ref p3 :: V.ref p2 :: ws'', _, rfl, ?_, upd_same, ?_, same_upd (sp5.trans (same_new hp3 _)) hLf0 _, tp'.trans (tp5.trans tp7)⟩
              · rw [upd_ne hne]; exact hLp7
              · have e2 : chunk ds (i + 1) = .inl [32] :: .inr dk :: chunk ds i := by
                  rw [ech]
                  unfold chunk
                  rw [if_neg (by omega)]
                  have : ds.length - (i + 1) = k := by omega
                  rw [this, ecut]; rfl
                rw [e2]
                refine ⟨_, _, rfl, ⟨p3, rfl, ?_⟩, irep.mono tp7⟩
                rw [upd_ne (ne_of (upd_same : upd H6 p3 (.tup [.bl true, .str (mk [32])]) p3 = _) hLf7 (by intro z; cases z)), upd_same]
            · have c' : ¬ (0 : Int) < (k : Int) := of_decide_eq_false (Bool.eq_false_iff.mpr c)
              have k0 : k = 0 := by omega
              refine ⟨V.ref p2 :: ws'', _, rfl, hLp6, hLf6, ?_, sp5, tp'.trans tp5⟩
              have e2 : chunk ds (i + 1) = .inr dk :: chunk ds i := by
                rw [ech]
                unfold chunk
                rw [if_pos (by omega)]
                subst k0
                rw [List.drop_zero] at ecut
                rw [ecut]; rfl
              rw [e2]
              exact irep
          · rintro σ' H'' ⟨ws'', q5, rfl, hLp', hLf', hit', sm', tp'⟩
            have e3 : chunk ds ds.length = slI ds := by
              unfold chunk
              rw [Nat.sub_self, if_pos rfl]
            rw [e3] at hit'
            have e4 : wtT (slI ds ++ .inl [41] :: its) = wtT (slI ds) + (1 + wtT its) := wtT_app _ _
            have e5 := wt_slI ds
            refine ⟨wtT (slI ds ++ .inl [41] :: its), ?_, slI ds ++ .inl [41] :: its, ws'', ps ++ [[40]], Lp, Lf, _, _, _, rfl, ?_, rfl, hLp', hLf', hne, hLp0, hLf0, hit', ?_, sm'⟩
            · rw [e4]
              show _ < (wts ds + 2) + wtT its
              omega
            · rw [e4, List.length_append]
              show ps.length + 1 + _ ≤ _
              omega
            · rw [outT_app, out_slI, flat_snoc, ← hout', List.append_assoc]
              show flat ps ++ ([40] ++ (sl ds ++ ([41] ++ outT its))) = flat ps ++ ((40 :: (sl ds ++ [41])) ++ outT its)
              simp
end
end K2
namespace K2
open PySem L2
theorem wd_of {d : D} (h : isWd d = true) : ∃ s, d = .wd s := by
  cases d with
  | wd s => exact ⟨s, rfl⟩
  | bl _ => exact Bool.noConfusion h
  | num _ => exact Bool.noConfusion h
  | lst _ => exact Bool.noConfusion h
theorem ls_of {d : D} (h : isLs d = true) : ∃ ds, d = .lst ds := by
  cases d with
  | lst s => exact ⟨s, rfl⟩
  | bl _ => exact Bool.noConfusion h
  | num _ => exact Bool.noConfusion h
  | wd _ => exact Bool.noConfusion h
section
variable {P : Program} {w : World} {K : PySem.W.Frag} {mg : Str → Option Value} {base : Heap} {f : Addr} {fd : FuncData}
/-! ### _law_leaf_text -/
abbrev sLT : Stmt := top 30
theorem scLT : FnScope ["_law_item"] ["_law_item"] (defScope sLT) := ⟨rfl, rfl, rfl, by decide +kernel, rfl, by decide +kernel, by decide +kernel⟩
def spLT : Sp := fun vs H Q _ => ∃ (d : D), vs = [valOf d] ∧ isLeaf d = true ∧ okD d = true ∧ ∀ H', Same H H' → Q (.str (mk (said d))) H'
theorem ok_lt (F : Fun K "_law_leaf_text" "_law_leaf_text" sLT f fd) (mi : mg "isinstance" = none) (ms : mg "str" = none) (ml : mg "list" = none) (mb : mg "bool" = none) (mn : mg "int" = none) : FnOk P w K mg base CX0 1 f fd ["_law_item"] spLT := by
  refine F.ok scLT (fun vs H Q E h => ?_) (fun cdv A outer s H vs Q E hr h => ?_)
  · obtain ⟨d, rfl, _⟩ := h
    rfl
  obtain ⟨d, rfl, hlf, ok, q⟩ := h
  refine ⟨_, pss_cons (ps_if (pt_val (pe_callB call_isi rfl mi (by decide +kernel) (pa_cons (pv 0) (pa_cons (pe_bltn (v := .ty "list") rfl ml (by decide +kernel) rfl) pa_nil)))) (pss_cons ps_never (pss_one ps_never)) pss_nil)
    (pss_cons (ps_if (pt_val (pe_callB call_isi rfl mi (by decide +kernel) (pa_cons (pv 0) (pa_cons (pe_bltn (v := .ty "bool") rfl mb (by decide +kernel) rfl) pa_nil))))
      (pss_one (ps_ret (pe_ix ix_list (pe_lst (pa_cons pe_str (pa_cons pe_str pa_nil))) (pe_callTy call_int1 rfl mn (by decide +kernel) (pa_cons (pv 0) pa_nil)) (fun _ _ => rfl)))) pss_nil)
    (pss_one (ps_ret (pe_callTy call_str_any rfl ms (by decide +kernel) (pa_cons (pv 0) pa_nil))))), ?_⟩
  refine ⟨_, rfl, _, _, _, _, _, rfl, .ty "list", (Rep.ofLeaf (H := H) hlf).ty, kit_list d, _, rfl, iteF ?_⟩
  refine ⟨_, rfl, _, _, _, _, _, rfl, .ty "bool", (Rep.ofLeaf (H := H) hlf).ty, kit_bool d, _, rfl, ?_⟩
  cases d with
  | lst _ => exact Bool.noConfusion hlf
  | bl b =>
    refine iteT ?_
    refine ⟨(by show 2 ≤ sizeLine; decide), fun p hp => ?_⟩
    refine ⟨_, rfl, .inr ⟨b, rfl, ?_⟩⟩
    cases b with
    | true =>
      have e : (Str.ofString "yes") = mk yesT := by decide +kernel
      refine ⟨p, _, _, _, rfl, rfl, SqL.of upd_same, atI_nat (j := 1) rfl, ?_⟩
      rw [e]; exact q _ (same_new hp _)
    | false =>
      have e : (Str.ofString "no") = mk noT := by decide +kernel
      refine ⟨p, _, _, _, rfl, rfl, SqL.of upd_same, atI_nat (j := 0) rfl, ?_⟩
      rw [e]; exact q _ (same_new hp _)
  | num n =>
    have hlog : n.natAbs.log2 < 1920 := by
      have ok : numOk n = true := ok
      unfold numOk at ok
      simp only [Bool.and_eq_true, decide_eq_true_eq] at ok
      exact ok.1
    refine iteF ⟨_, rfl, .inl ⟨n, rfl, hlog, ?_⟩⟩
    have e : mk (said (.num n)) = Str.ofString (toString n) := mk_tl _
    rw [← e]; exact q H (Same.refl _)
  | wd n =>
    refine iteF ⟨_, rfl, .inr ⟨n, rfl, ?_⟩⟩
    have e : mk (said (.wd n)) = n := mk_tl _
    rw [← e]; exact q H (Same.refl _)
end
end K2
namespace K2
open PySem L2
/-- nothing is asked of a promise that can't be asked -/
theorem ok_no {P : Program} {w : World} {K : PySem.W.Frag} {mg : Str → Option Value} {base : Heap} {f : Addr} {fd : FuncData} {ps : List Str} {sp : Sp} {k : Nat} (no : ∀ vs H Q E, ¬ sp vs H Q E) : FnOk P w K mg base CX0 k f fd ps sp :=
  ⟨fun vs H Q E h => absurd h (no vs H Q E), fun _ _ _ H _ _ vs Q E _ _ _ _ h => absurd h (no vs H Q E)⟩
theorem mk_app (a b : List Nat) : mk a ++ mk b = mk (a ++ b) := by
  apply TL.ext_tl
  rw [TL.tl_append]
  rfl
theorem joinL_said (ds : List D) : TL.joinL [32] (ds.map said) = sl ds := by
  cases ds with
  | nil => rfl
  | cons d r =>
    show TL.joinL [32] (said d :: r.map said) = said d ++ sr r
    induction r generalizing d with
    | nil => show said d = said d ++ []; simp
    | cons e r ih =>
      show said d ++ ([32] ++ TL.joinL [32] (said e :: r.map said)) = said d ++ (32 :: (said e ++ sr r))
      rw [ih e]; rfl
theorem join_said (ds : List D) : Txt.join (mk [32]) (ds.map fun d => mk (said d)) = mk (sl ds) := by
  rw [TL.join_eq]
  apply TL.ext_tl
  rw [TL.tl_join, List.map_map]
  exact joinL_said ds
theorem sum_said (ds : List D) : ((ds.map fun d => mk (said d)).map (·.length)).sum + ds.length = (sr ds).length := by
  induction ds with
  | nil => rfl
  | cons d r ih =>
    show (mk (said d)).length + ((r.map fun d => mk (said d)).map (·.length)).sum + (r.length + 1) = (32 :: (said d ++ sr r)).length
    rw [len_mk, List.length_cons, List.length_append]
    omega
theorem sr_sl (ds : List D) : (sr ds).length ≤ (sl ds).length + 1 := by
  cases ds with
  | nil => exact Nat.zero_le _
  | cons d r => exact Nat.le_refl _
theorem sl_get : ∀ {ds : List D} {i : Nat} {d : D}, ds[i]? = some d → (said d).length < (sr ds).length
  | [], _, _, h => by simp at h
  | e :: r, 0, d, h => by
    cases (show some e = some d from h)
    show (said e).length < (32 :: (said e ++ sr r)).length
    rw [List.length_cons, List.length_append]; omega
  | e :: r, i + 1, d, h => by
    have := sl_get (ds := r) (i := i) h
    show (said d).length < (32 :: (said e ++ sr r)).length
    rw [List.length_cons, List.length_append]; omega
theorem depth_get : ∀ {ds : List D} {i : Nat} {d : D}, ds[i]? = some d → depth d ≤ depths ds
  | [], _, _, h => by simp at h
  | e :: r, 0, d, h => by
    cases (show some e = some d from h)
    exact Nat.le_max_left _ _
  | e :: r, i + 1, d, h => Nat.le_trans (depth_get (ds := r) (i := i) h) (Nat.le_max_right _ _)
section
variable {P : Program} {w : World} {K : PySem.W.Frag} {mg : Str → Option Value} {base : Heap} {f : Addr} {fd : FuncData}
/-! ### _law_said -/
abbrev sSaid : Stmt := top 31
theorem scSaid : FnScope ["_law_item", "_law_part"] ["_law_item"] (defScope sSaid) := ⟨rfl, rfl, rfl, by decide +kernel, rfl, by decide +kernel, by decide +kernel⟩
def spSaid (n : Nat) : Sp := fun vs H Q _ => ∃ (d : D) (v : V), vs = [v] ∧ Rep H d v ∧ okD d = true ∧ depth d < n ∧ (said d).length ≤ 200000 ∧ ∀ H', Same H H' → Q (.str (mk (said d))) H'
variable {g1 : Addr} {gd1 : FuncData}
theorem ok_said1 {n : Nat} (F : Fun K "_law_said" "_law_said" sSaid f fd) (mi : mg "isinstance" = none) (mt : mg "tuple" = none)
    (G1 : FnOk P w K mg base CX0 1 g1 gd1 ["_law_item"] spLT) (b1 : Binds K gd1 ["_law_item"] []) (k1 : PySem.W.keepIn K (.ref g1) = true) (m1 : mg "_law_leaf_text" = some (.ref g1))
    (G : FnOk P w K mg base CX0 (n + 1) f fd ["_law_item"] (spSaid n)) (bS : Binds K fd ["_law_item"] []) (mS : mg "_law_said" = some (.ref f)) : FnOk P w K mg base CX0 (n + 2) f fd ["_law_item"] (spSaid (n + 1)) := by
  refine F.ok scSaid (fun vs H Q E h => ?_) (fun cdv A outer s H vs Q E hr h => ?_)
  · obtain ⟨d, v, rfl, _⟩ := h
    rfl
  obtain ⟨d, v, rfl, rp, ok, hdp, hsz, q⟩ := h
  refine ⟨_, pss_cons (ps_if (pt_val (pe_callB call_isi rfl mi (by decide +kernel) (pa_cons (pv 0) (pa_cons (pe_bltn (v := .ty "tuple") rfl mt (by decide +kernel) rfl) pa_nil))))
      (pss_one (ps_ret (pe_op op_add_str (pe_op op_add_str pe_str (pe_join pe_str
        (pe_lc (own := [("_law_part", 1)]) (g := gName 1) (tt := tYes) rfl scSaid.nd (pi_tup (pv 0)) (blkOk_by (N := ["_law_item", "_law_part"]) (sc := defScope sSaid) (by decide +kernel))
          (fun _ _ _ _ _ => pg_name (i := 1) scSaid.nd rfl (Or.inl rfl)) (fun _ _ _ _ _ => pts_nil) (fun _ _ _ _ _ => pe_call G hr rfl mS F.kp bS .nil pass0 (pa_cons (pv 1) pa_nil))))) pe_str))) pss_nil)
    (pss_one (ps_ret (pe_call G1 (hr.mono (by omega)) rfl m1 k1 b1 .nil pass0 (pa_cons (pv 0) pa_nil)))), ?_⟩
  have s40 : (Str.ofString "(") = mk [40] := by decide +kernel
  have s41 : (Str.ofString ")") = mk [41] := by decide +kernel
  have s32 : (Str.ofString " ") = mk [32] := by decide +kernel
  rw [s40, s41, s32]
  refine ⟨_, rfl, _, _, _, _, _, rfl, .ty "tuple", rp.ty, kit_tuple d, _, rfl, ?_⟩
  by_cases hl : isLs d = true
  · obtain ⟨ds, rfl⟩ := ls_of hl
    refine iteT ?_
    obtain ⟨p, xs, rfl, hp, hreps⟩ := rp
    have okd : okL ds = true := ok
    have hdp' : depths ds + 1 < n + 1 := hdp
    have hsl : (said (.lst ds)).length = (sl ds).length + 2 := by
      show (40 :: (sl ds ++ [41])).length = _
      rw [List.length_cons, List.length_append]; rfl
    have hsr := sr_sl ds
    have hxl := hreps.length
    have hsum := sum_said ds
    have esz := sizeLine_eq
    refine ⟨⟨_, rfl⟩, _, rfl, p, rfl, ⟨_, SqT.of hp⟩, fun L hL => ?_⟩
    refine lc_tup (xs := xs) (fun i H'' => H'' L = some (.lst ((ds.take i).map fun d => V.str (mk (said d)))) ∧ Same H H'') ⟨upd_same, same_new hL _⟩ (fun i H'' _ h => SqT.of (h.2 _ _ hp)) ?_ ?_
    · rintro i x H1 hx ⟨hL1, sm1⟩
      obtain ⟨e, he, hre⟩ := hreps.get hx
      have h1 := depth_get he
      have h2 := sl_get he
      have hi : i < ds.length := (List.getElem?_eq_some_iff.mp he).1
      have hlen : ds.length ≤ (sr ds).length := by omega
      refine ⟨rfl, ?_⟩
      unfold tYes
      refine iteT ?_
      refine ⟨_, rfl, e, x, rfl, hre.mono (Tups.of sm1), okL_get okd he, by omega, by omega, fun H4 sm4 => ⟨_, sm4 _ _ hL1, ?_, ?_, ?_⟩⟩
      · rw [List.length_map, List.length_take]; omega
      · rw [upd_same, List.take_add_one, he]; simp
      · exact same_upd (sm1.trans sm4) hL _
    · rintro H1 ⟨hL1, sm1⟩
      rw [hxl, List.take_length] at hL1
      have e1 : (ds.map fun d => mk (said d)).map V.str = ds.map fun d => V.str (mk (said d)) := by rw [List.map_map]; rfl
      refine ⟨mk [32], L, ds.map fun d => mk (said d), rfl, rfl, .inl (SqL.of (by rw [e1]; exact hL1)), ?_, ?_⟩
      · rw [List.length_map]
        have : (mk [32]).length = 1 := rfl
        rw [this]; omega
      · rw [join_said]
        refine ⟨_, _, rfl, rfl, ?_, _, _, rfl, rfl, ?_, ?_⟩
        · rw [len_mk, len_mk]
          show 1 + _ ≤ _
          omega
        · rw [mk_app, len_mk, len_mk]
          show (sl ds).length + 1 + 1 ≤ _
          omega
        · rw [mk_app, mk_app]
          exact q _ sm1
  · rw [Bool.eq_false_iff.mpr hl]
    refine iteF ?_
    have hlf : isLeaf d = true := by
      cases d with
      | lst _ => exact absurd rfl hl
      | bl _ => rfl
      | num _ => rfl
      | wd _ => rfl
    cases (rp.leaf hlf)
    exact ⟨_, rfl, d, rfl, hlf, ok, q⟩
theorem ok_said (F : Fun K "_law_said" "_law_said" sSaid f fd) (mi : mg "isinstance" = none) (mt : mg "tuple" = none)
    (G1 : FnOk P w K mg base CX0 1 g1 gd1 ["_law_item"] spLT) (b1 : Binds K gd1 ["_law_item"] []) (k1 : PySem.W.keepIn K (.ref g1) = true) (m1 : mg "_law_leaf_text" = some (.ref g1))
    (bS : Binds K fd ["_law_item"] []) (mS : mg "_law_said" = some (.ref f)) : ∀ n : Nat, FnOk P w K mg base CX0 (n + 1) f fd ["_law_item"] (spSaid n)
  | 0 => ok_no fun vs H Q E h => by
    obtain ⟨d, v, _, _, _, h, _⟩ := h
    omega
  | n + 1 => ok_said1 F mi mt G1 b1 k1 m1 (ok_said F mi mt G1 b1 k1 m1 bS mS n) bS mS
end
end K2
namespace K2
open PySem L2
section
variable {X : Cx}
theorem op_powW : OpR X (binaryOp .Pow) (rI (fun i j => 0 ≤ j ∧ (Builtin.Int.intBits i : Int) * j ≤ 2 ^ 27) fun i j => .int (i ^ j.toNat)) := opI fun _ _ _ _ _ _ _ hc q => PyProof.Rows.pow_int hc.1 hc.2 q
end
theorem m18 : (10 : Int) ^ (18 : Int).toNat = 1000000000000000000 := by decide +kernel
theorem m60 : (10 : Int) ^ (60 : Int).toNat = 1000000000000000000000000000000000000000000000000000000000000 := by decide +kernel
theorem m600 : (1000000000000000000000000000000000000000000000000000000000000 : Int) ^ (10 : Int).toNat = 10 ^ 600 := by decide +kernel
theorem lt600 : (10 : Int) ^ 600 < 2 ^ 2000 := by decide +kernel
section
variable {P : Program} {w : World} {K : PySem.W.Frag} {mg : Str → Option Value} {base : Heap} {f : Addr} {fd : FuncData}
/-! ### _law_mixed -/
abbrev sMix : Stmt := top 26
theorem scMix : FnScope ["_law_cell", "_law_k", "_law_number"] ["_law_cell", "_law_k"] (defScope sMix) := ⟨rfl, rfl, rfl, by decide +kernel, rfl, by decide +kernel, by decide +kernel⟩
abbrev M60 : Int := 1000000000000000000000000000000000000000000000000000000000007
def spMix : Sp := fun vs H Q _ => ∃ (c k : Int), vs = [.int c, .int k] ∧ 0 ≤ k ∧ k < 2 ^ 40 ∧ ∀ m, 0 ≤ m → m < M60 → Q (.int m) H
abbrev mixN (c k : Int) : Int := (c % (10 ^ (18 : Int).toNat + 9) + 7 * k) * 739108512309184756019283746561 + 7919 * k + 1
abbrev mixM (n : Int) : Int := n * n % (10 ^ (60 : Int).toNat + 7)
theorem ok_mix (F : Fun K "_law_mixed" "_law_mixed" sMix f fd) : FnOk P w K mg base CX0 1 f fd ["_law_cell", "_law_k"] spMix := by
  refine F.ok scMix (fun vs H Q E h => ?_) (fun cdv A outer s H vs Q E hr h => ?_)
  · obtain ⟨c, k, rfl, _⟩ := h
    rfl
  obtain ⟨c, k, rfl, hk0, hk1, q⟩ := h
  refine ⟨_, pss_cons (ps_set (i := 2) scMix.nd rfl (.inl rfl) (pe_op op_add (pe_op op_add (pe_op op_mul (pe_op op_add (pe_op op_mod (pv 0) (pe_op op_add (pe_op op_pow pe_int pe_int) pe_int)) (pe_op op_mul pe_int (pv 1))) pe_int) (pe_op op_mul pe_int (pv 1))) pe_int))
    (pss_cons (ps_set (i := 2) scMix.nd rfl (.inl rfl) (pe_op op_mod (pe_op op_mulW (pv 2) (pv 2)) (pe_op op_add (pe_op op_pow pe_int pe_int) pe_int)))
    (pss_one (ps_ret (pe_op op_mod (pe_op op_mulW (pe_op op_add (pv 2) pe_int) (pe_op op_add (pv 2) pe_int)) (pe_op op_add (pe_op op_pow pe_int pe_int) pe_int))))), ?_⟩
  have p0 : (0 : Int) < 10 ^ (18 : Int).toNat + 9 := by rw [m18]; decide
  have p1 : (0 : Int) < 10 ^ (60 : Int).toNat + 7 := by rw [m60]; decide
  have a0 := Int.emod_nonneg c (Int.ne_of_gt p0)
  have a1 := Int.emod_lt_of_pos c p0
  have hA : -(2 ^ 64) < c % (10 ^ (18 : Int).toNat + 9) + 7 * k ∧ c % (10 ^ (18 : Int).toNat + 9) + 7 * k < 2 ^ 64 := by
    rw [m18] at a0 a1 ⊢
    omega
  have hn1 : (mixN c k).natAbs < 2 ^ 170 := by
    unfold mixN
    rw [m18] at a0 a1 ⊢
    omega
  have b0 := Int.emod_nonneg (mixN c k * mixN c k) (Int.ne_of_gt p1)
  have b1 := Int.emod_lt_of_pos (mixN c k * mixN c k) p1
  have h1 : (mixM (mixN c k) + 40503).natAbs < 2 ^ 201 := by
    unfold mixM
    rw [m60] at b0 b1 ⊢
    omega
  have h2 : (mixM (mixN c k) + 57).natAbs < 2 ^ 201 := by
    unfold mixM
    rw [m60] at b0 b1 ⊢
    omega
  refine ⟨_, rfl, 10, 18, rfl, rfl, ⟨by decide, by decide, by decide⟩, _, _, rfl, rfl, _, _, rfl, rfl, p0, ?_⟩
  refine ⟨_, rfl, 7, k, rfl, rfl, .inl ⟨by decide, by decide⟩, _, _, rfl, rfl, ?_⟩
  refine ⟨_, _, rfl, rfl, .inl hA, ?_⟩
  refine ⟨_, rfl, 7919, k, rfl, rfl, .inl ⟨by decide, by decide⟩, _, _, rfl, rfl, _, _, rfl, rfl, ?_⟩
  refine ⟨_, rfl, _, rfl, mixN c k, mixN c k, rfl, rfl, wide_mul hn1 hn1 (by decide) (by decide) (by decide), ?_⟩
  refine ⟨10, 60, rfl, rfl, ⟨by decide, by decide, by decide⟩, _, _, rfl, rfl, _, _, rfl, rfl, p1, ?_⟩
  refine ⟨_, rfl, mixM (mixN c k), _, rfl, rfl, _, rfl, mixM (mixN c k), _, rfl, rfl, _, _, rfl, rfl, wide_mul h1 h2 (by decide) (by decide) (by decide), ?_⟩
  refine ⟨10, 60, rfl, rfl, ⟨by decide, by decide, by decide⟩, _, _, rfl, rfl, _, _, rfl, rfl, p1, ?_⟩
  refine q _ (Int.emod_nonneg _ (Int.ne_of_gt p1)) ?_
  have c1 := Int.emod_lt_of_pos ((mixM (mixN c k) + 40503) * (mixM (mixN c k) + 57)) p1
  have e : (10 : Int) ^ (60 : Int).toNat + 7 = M60 := by rw [m60]; rfl
  rw [e] at c1
  rw [e]
  exact c1
/-! ### _law_purse -/
abbrev sPur : Stmt := top 27
theorem scPur : FnScope ["_law_cell", "_law_k"] ["_law_cell", "_law_k"] (defScope sPur) := ⟨rfl, rfl, rfl, by decide +kernel, rfl, by decide +kernel, by decide +kernel⟩
def purse (a b c : Int) : List V := [.int a, .int b, .int c]
def PO (a b c : Int) : Prop := 0 ≤ a ∧ a < 2 ^ 2000 ∧ 0 ≤ b ∧ 0 ≤ c ∧ c < 2 ^ 61
def spPur : Sp := fun vs H Q _ => ∃ (c : Int), vs = [.int c, .int 2] ∧ ∀ a x p, PO a 0 x → H p = none → Q (.ref p) (upd H p (.lst (purse a 0 x)))
variable {g1 : Addr} {gd1 : FuncData}
theorem ok_pur (F : Fun K "_law_purse" "_law_purse" sPur f fd) (G1 : FnOk P w K mg base CX0 1 g1 gd1 ["_law_cell", "_law_k"] spMix) (b1 : Binds K gd1 ["_law_cell", "_law_k"] []) (k1 : PySem.W.keepIn K (.ref g1) = true) (m1 : mg "_law_mixed" = some (.ref g1)) :
    FnOk P w K mg base CX0 2 f fd ["_law_cell", "_law_k"] spPur := by
  refine F.ok scPur (fun vs H Q E h => ?_) (fun cdv A outer s H vs Q E hr h => ?_)
  · obtain ⟨c, rfl, _⟩ := h
    rfl
  obtain ⟨c, rfl, q⟩ := h
  refine ⟨_, pss_cons (ps_if (pt_cmpR op_ge (pv 0) (pe_op op_pow pe_int pe_int) (nomark _))
      (pss_one (ps_ret (pe_lst (pa_cons (pe_op op_mod (pe_op op_sub (pv 0) (pe_op op_pow pe_int pe_int)) (pe_op op_powW (pe_op op_pow pe_int pe_int) pe_int)) (pa_cons pe_int (pa_cons (pv 1) pa_nil)))))) pss_nil)
    (pss_one (ps_ret (pe_lst (pa_cons (pe_call G1 hr rfl m1 k1 b1 .nil pass0 (pa_cons (pv 0) (pa_cons (pv 1) pa_nil))) (pa_cons pe_int (pa_cons (pe_op op_add (pe_op op_mod (pv 0) (pe_op op_add (pe_op op_pow pe_int pe_int) pe_int)) (pv 1)) pa_nil)))))), ?_⟩
  refine ⟨_, rfl, 10, 18, rfl, rfl, ⟨by decide, by decide, by decide⟩, _, _, rfl, rfl, _, rfl, ?_⟩
  have p0 : (0 : Int) < 10 ^ (18 : Int).toNat + 9 := by rw [m18]; decide
  have p6 : (0 : Int) < (10 ^ (60 : Int).toNat) ^ (10 : Int).toNat := by rw [m60, m600]; decide +kernel
  refine ite2 (fun _ => ?_) (fun _ => ?_)
  · refine ⟨_, rfl, 10, 18, rfl, rfl, ⟨by decide, by decide, by decide⟩, _, _, rfl, rfl, ?_⟩
    refine ⟨10, 60, rfl, rfl, ⟨by decide, by decide, by decide⟩, _, _, rfl, rfl, ⟨by decide, ?_⟩, _, _, rfl, rfl, p6, ?_⟩
    · rw [m60]; decide +kernel
    · refine ⟨_, rfl, (by show 3 ≤ sizeLine; decide), fun p hp => ?_⟩
      refine q _ _ p ⟨Int.emod_nonneg _ (Int.ne_of_gt p6), ?_, by decide, by decide, by decide⟩ hp
      have h := Int.emod_lt_of_pos (c - 10 ^ (18 : Int).toNat) p6
      have e : ((10 : Int) ^ (60 : Int).toNat) ^ (10 : Int).toNat = 10 ^ 600 := by rw [m60, m600]
      rw [e] at h
      rw [e]
      exact Int.lt_trans h lt600
  · refine ⟨_, rfl, _, rfl, c, 2, rfl, by decide, by decide, fun m hm0 hm1 => ?_⟩
    have a0 := Int.emod_nonneg c (Int.ne_of_gt p0)
    have a1 := Int.emod_lt_of_pos c p0
    refine ⟨_, rfl, 10, 18, rfl, rfl, ⟨by decide, by decide, by decide⟩, _, _, rfl, rfl, _, _, rfl, rfl, p0, _, rfl, _, _, rfl, rfl, (by show 3 ≤ sizeLine; decide), fun p hp => ?_⟩
    rw [m18] at a0 a1
    rw [m18]
    refine q _ _ p ⟨hm0, ?_, by decide, by omega, by omega⟩ hp
    have : M60 < (2 : Int) ^ 2000 := by decide +kernel
    exact Int.lt_trans hm1 this
/-! ### _law_take -/
abbrev sTake : Stmt := top 28
theorem scTake : FnScope ["_law_purse_here", "_law_steps", "_law_got"] ["_law_purse_here", "_law_steps"] (defScope sTake) := ⟨rfl, rfl, rfl, by decide +kernel, rfl, by decide +kernel, by decide +kernel⟩
def spTake : Sp := fun vs H Q _ => ∃ (p : Addr) (n a b c : Int), vs = [.ref p, .int n] ∧ 1 ≤ n ∧ n ≤ 100000 ∧ H p = some (.lst (purse a b c)) ∧ PO a b c ∧ b ≤ 100000 ∧
  ∀ r a' b', 0 ≤ r → r < n → PO a' b' c → b' ≤ b + 1 → Q (.int r) (upd H p (.lst (purse a' b' c)))
theorem ok_take (F : Fun K "_law_take" "_law_take" sTake f fd) (G1 : FnOk P w K mg base CX0 1 g1 gd1 ["_law_cell", "_law_k"] spMix) (b1 : Binds K gd1 ["_law_cell", "_law_k"] []) (k1 : PySem.W.keepIn K (.ref g1) = true) (m1 : mg "_law_mixed" = some (.ref g1)) :
    FnOk P w K mg base CX0 2 f fd ["_law_purse_here", "_law_steps"] spTake := by
  refine F.ok scTake (fun vs H Q E h => ?_) (fun cdv A outer s H vs Q E hr h => ?_)
  · obtain ⟨p, n, a, b, c, rfl, _⟩ := h
    rfl
  obtain ⟨p, n, a, b, c, rfl, hn1, hn2, hp, ⟨ha0, ha1, hb0, hc0, hc1⟩, hb1, q⟩ := h
  refine ⟨_, C8.pss_cut (ps_if (pt_cmpR op_lt (pe_ix ix_list (pv 0) pe_int (fun _ _ => rfl)) (pv 1) (nomark _))
      (pss_cons (ps_asg (pe_op op_add (pe_ix ix_list (pv 0) pe_int (fun _ _ => rfl)) pe_int) (pg_sub (pv 0) pe_int set_list))
      (pss_one (ps_asg (pe_op op_add (pe_ix ix_list (pv 0) pe_int (fun _ _ => rfl)) (pe_op op_mul (pv 1) (pe_call G1 hr rfl m1 k1 b1 .nil pass0 (pa_cons (pe_ix ix_list (pv 0) pe_int (fun _ _ => rfl)) (pa_cons (pe_op op_add (pe_op op_mul pe_int (pe_ix ix_list (pv 0) pe_int (fun _ _ => rfl))) pe_int) pa_nil))))) (pg_sub (pv 0) pe_int set_list)))) pss_nil)
    (pss_cons (ps_set (i := 2) scTake.nd rfl (.inl rfl) (pe_op op_mod (pe_ix ix_list (pv 0) pe_int (fun _ _ => rfl)) (pv 1)))
    (pss_cons (ps_asg (pe_op op_fdiv (pe_ix ix_list (pv 0) pe_int (fun _ _ => rfl)) (pv 1)) (pg_sub (pv 0) pe_int set_list))
    (pss_one (ps_ret (pv 2))))), ?_⟩
  refine ⟨fun σ H' => ∃ a' b', H' = upd H p (.lst (purse a' b' c)) ∧ σ = [some (.ref p), some (.int n), none] ∧ PO a' b' c ∧ b' ≤ b + 1, ?_, ?_⟩
  · refine ⟨_, rfl, p, _, _, _, rfl, rfl, SqL.of hp, atI_nat (j := 0) rfl, _, rfl, _, _, rfl, rfl, _, rfl, ?_⟩
    refine ite2 (fun cc => ?_) (fun _ => ?_)
    · have cc : a < n := of_decide_eq_true cc
      refine ⟨_, rfl, p, _, _, _, rfl, rfl, SqL.of hp, atI_nat (j := 1) rfl, _, _, rfl, rfl, ?_⟩
      refine ⟨_, rfl, p, _, _, 1, rfl, rfl, hp, rfl, ?_⟩
      have hp1 : upd H p (.lst ((purse a b c).set 1 (.int (b + 1)))) p = some (.lst (purse a (b + 1) c)) := upd_same
      refine ⟨_, rfl, p, _, _, _, rfl, rfl, SqL.of hp1, atI_nat (j := 0) rfl, _, rfl, ?_⟩
      refine ⟨_, rfl, p, _, _, _, rfl, rfl, SqL.of hp1, atI_nat (j := 2) rfl, ?_⟩
      refine ⟨_, rfl, p, _, _, _, rfl, rfl, SqL.of hp1, atI_nat (j := 1) rfl, 11, b + 1, rfl, rfl, .inl ⟨by decide, by decide⟩, _, _, rfl, rfl, ?_⟩
      refine ⟨c, _, rfl, by omega, by omega, fun m hm0 hm1 => ?_⟩
      refine ⟨n, m, rfl, rfl, .inl ⟨by omega, by omega⟩, _, _, rfl, rfl, ?_⟩
      refine ⟨_, rfl, p, _, _, 0, rfl, rfl, hp1, rfl, ?_⟩
      refine ⟨a + n * m, b + 1, upd_upd, rfl, ⟨?_, ?_, by omega, hc0, hc1⟩, by omega⟩
      · have : 0 ≤ n * m := Int.mul_nonneg (by omega) hm0
        omega
      · have h1 : n * m ≤ 100000 * m := Int.mul_le_mul_of_nonneg_right hn2 hm0
        have h2 : a + n * m < 100000 + 100000 * M60 := by omega
        have h3 : (100000 + 100000 * M60 : Int) < 2 ^ 2000 := by decide +kernel
        exact Int.lt_trans h2 h3
    · refine ⟨a, b, ?_, rfl, ⟨ha0, ha1, hb0, hc0, hc1⟩, by omega⟩
      funext x
      unfold upd
      split
      · rename_i e; rw [e]; exact hp
      · rfl
  · rintro σ H' ⟨a', b', rfl, rfl, ⟨ha0', ha1', hb0', _, _⟩, hb'⟩
    have hp1 : upd H p (.lst (purse a' b' c)) p = some (.lst (purse a' b' c)) := upd_same
    refine ⟨_, rfl, p, _, _, _, rfl, rfl, SqL.of hp1, atI_nat (j := 0) rfl, _, rfl, _, _, rfl, rfl, by omega, ?_⟩
    refine ⟨_, rfl, p, _, _, _, rfl, rfl, SqL.of hp1, atI_nat (j := 0) rfl, _, rfl, _, _, rfl, rfl, ⟨by omega, by omega⟩, ?_⟩
    refine ⟨_, rfl, p, _, _, 0, rfl, rfl, hp1, rfl, ?_⟩
    refine ⟨_, rfl, ?_⟩
    rw [upd_upd]
    refine q _ _ _ (Int.emod_nonneg _ (by omega)) (Int.emod_lt_of_pos _ (by omega)) ⟨Int.ediv_nonneg ha0' (by omega), ?_, hb0', hc0, hc1⟩ hb'
    exact Int.lt_of_le_of_lt (Int.ediv_le_self _ ha0') ha1'
end
end K2
namespace K2
open PySem L2
def Td : Nat → Nat
  | 0 => 2
  | n + 1 => 2 + 3 * Td n
def Wd : Nat → Nat
  | 0 => 41
  | n + 1 => 3 * (Wd n + 1) + 2
theorem Td_ge (n : Nat) : 2 ≤ Td n := by cases n <;> simp [Td]
theorem Wd_ge (n : Nat) : 41 ≤ Wd n := by
  induction n with
  | zero => exact Nat.le_refl _
  | succ n ih => show 41 ≤ 3 * (Wd n + 1) + 2; omega
/-- all but what stands at p is as it was -/
def SB (p : Addr) (H H' : Hp) : Prop := ∀ b o, b ≠ p → H b = some o → H' b = some o
theorem SB.trans {p : Addr} {A B C : Hp} (h : SB p A B) (g : SB p B C) : SB p A C := fun b o n e => g b o n (h b o n e)
theorem SB.upd {p : Addr} {H : Hp} (o : HO) : SB p H (upd H p o) := fun b u n e => by rw [upd_ne n]; exact e
theorem SB.of {p : Addr} {H H' : Hp} (h : Same H H') : SB p H H' := fun b o _ e => h b o e
theorem SB.updNew {p L : Addr} {H H' : Hp} (h : SB p H H') (n : H L = none) (o : HO) : SB p H (L2.upd H' L o) := fun b u m e => by
  rw [upd_ne (ne_of_none e n)]; exact h b u m e
theorem SB.tups {p : Addr} {H H' : Hp} (h : SB p H H') {ys : List V} (hp : H p = some (.lst ys)) : Tups H H' := fun b xs e => h b _ (ne_of e hp (by intro z; cases z)) e
theorem depths_snoc (ds : List D) (d : D) : depths (ds ++ [d]) = max (depths ds) (depth d) := by
  induction ds with
  | nil => show max (depth d) 0 = max 0 (depth d); omega
  | cons e r ih => show max (depth e) (depths (r ++ [d])) = max (max (depth e) (depths r)) (depth d); rw [ih]; omega
theorem sl_sr (ds : List D) : (sl ds).length ≤ (sr ds).length := by
  cases ds with
  | nil => exact Nat.le_refl _
  | cons d r => exact Nat.le_succ _
theorem leafB (b : Bool) (m : Nat) : okD (.bl b) = true ∧ depth (.bl b) ≤ m ∧ (said (.bl b)).length ≤ Wd m := by
  have := Wd_ge m
  refine ⟨rfl, Nat.zero_le _, ?_⟩
  cases b
  · exact Nat.le_trans (by decide : 2 ≤ 41) this
  · exact Nat.le_trans (by decide : 3 ≤ 41) this
theorem leafN {n : Int} (h : numOk n = true) (m : Nat) : okD (.num n) = true ∧ depth (.num n) ≤ m ∧ (said (.num n)).length ≤ Wd m := by
  have := Wd_ge m
  refine ⟨h, Nat.zero_le _, ?_⟩
  unfold numOk at h
  simp only [Bool.and_eq_true, decide_eq_true_eq] at h
  exact Nat.le_trans h.2.2.1 this
theorem leafW {s : Str} (h : wdOk s = true) (m : Nat) : okD (.wd s) = true ∧ depth (.wd s) ≤ m ∧ (said (.wd s)).length ≤ Wd m := by
  have := Wd_ge m
  refine ⟨h, Nat.zero_le _, ?_⟩
  unfold wdOk at h
  simp only [Bool.and_eq_true, decide_eq_true_eq] at h
  exact Nat.le_trans (Nat.le_trans h.1.1.2 (by decide : 12 ≤ 41)) this
def nums7 : List V := [.int 0, .int 7, .int (-3), .int (10 ^ (39 : Int).toNat), .int (0 - 10 ^ (40 : Int).toNat + 1), .int 120, .int (-10)]
theorem seven {r : Int} (h0 : 0 ≤ r) (h : r < 7) : r = ((0 : Nat) : Int) ∨ r = ((1 : Nat) : Int) ∨ r = ((2 : Nat) : Int) ∨ r = ((3 : Nat) : Int) ∨ r = ((4 : Nat) : Int) ∨ r = ((5 : Nat) : Int) ∨ r = ((6 : Nat) : Int) := by omega
theorem nums_at {r : Int} (h0 : 0 ≤ r) (h : r < 7) : ∃ x, atI nums7 r = some (.int x) ∧ numOk x = true := by
  rcases seven h0 h with rfl | rfl | rfl | rfl | rfl | rfl | rfl
  · exact ⟨_, atI_nat (j := 0) rfl, by decide +kernel⟩
  · exact ⟨_, atI_nat (j := 1) rfl, by decide +kernel⟩
  · exact ⟨_, atI_nat (j := 2) rfl, by decide +kernel⟩
  · exact ⟨_, atI_nat (j := 3) rfl, by decide +kernel⟩
  · exact ⟨_, atI_nat (j := 4) rfl, by decide +kernel⟩
  · exact ⟨_, atI_nat (j := 5) rfl, by decide +kernel⟩
  · exact ⟨_, atI_nat (j := 6) rfl, by decide +kernel⟩
def words9 : List V := [.str (Str.ofString "say"), .str (Str.ofString "if"), .str (Str.ofString "fun"), .str (Str.ofString "let"), .str (Str.ofString "hold"), .str (Str.ofString "heed"), .str (Str.ofString "up"), .str (Str.ofString "give"), .str (Str.ofString "put")]
def words7 : List V := [.str (Str.ofString "a"), .str (Str.ofString "zz"), .str (Str.ofString "abcdefghijkl"), .str (Str.ofString "yess"), .str (Str.ofString "noo"), .str (Str.ofString "plus"), .str (Str.ofString "x")]
theorem words7_at {r : Int} (h0 : 0 ≤ r) (h : r < 7) : ∃ x, atI words7 r = some (.str x) ∧ wdOk x = true := by
  rcases seven h0 h with rfl | rfl | rfl | rfl | rfl | rfl | rfl
  · exact ⟨_, atI_nat (j := 0) rfl, by decide +kernel⟩
  · exact ⟨_, atI_nat (j := 1) rfl, by decide +kernel⟩
  · exact ⟨_, atI_nat (j := 2) rfl, by decide +kernel⟩
  · exact ⟨_, atI_nat (j := 3) rfl, by decide +kernel⟩
  · exact ⟨_, atI_nat (j := 4) rfl, by decide +kernel⟩
  · exact ⟨_, atI_nat (j := 5) rfl, by decide +kernel⟩
  · exact ⟨_, atI_nat (j := 6) rfl, by decide +kernel⟩
theorem words9_at {r : Int} (h0 : 0 ≤ r) (h : r < 9) : ∃ x, atI words9 r = some (.str x) ∧ wdOk x = true := by
  have : r < 7 ∨ r = ((7 : Nat) : Int) ∨ r = ((8 : Nat) : Int) := by omega
  rcases this with h | rfl | rfl
  · rcases seven h0 h with rfl | rfl | rfl | rfl | rfl | rfl | rfl
    · exact ⟨_, atI_nat (j := 0) rfl, by decide +kernel⟩
    · exact ⟨_, atI_nat (j := 1) rfl, by decide +kernel⟩
    · exact ⟨_, atI_nat (j := 2) rfl, by decide +kernel⟩
    · exact ⟨_, atI_nat (j := 3) rfl, by decide +kernel⟩
    · exact ⟨_, atI_nat (j := 4) rfl, by decide +kernel⟩
    · exact ⟨_, atI_nat (j := 5) rfl, by decide +kernel⟩
    · exact ⟨_, atI_nat (j := 6) rfl, by decide +kernel⟩
  · exact ⟨_, atI_nat (j := 7) rfl, by decide +kernel⟩
  · exact ⟨_, atI_nat (j := 8) rfl, by decide +kernel⟩
section
variable {P : Program} {w : World} {K : PySem.W.Frag} {mg : Str → Option Value} {base : Heap} {f : Addr} {fd : FuncData}
/-! ### _law_datum -/
abbrev sDat : Stmt := top 32
theorem scDat : FnScope ["_law_purse_here", "_law_deep", "_law_way", "_law_k"] ["_law_purse_here", "_law_deep"] (defScope sDat) := ⟨rfl, rfl, rfl, by decide +kernel, rfl, by decide +kernel, by decide +kernel⟩
def spDat (n : Nat) : Sp := fun vs H Q _ => ∃ (p : Addr) (m : Nat) (a b c : Int), vs = [.ref p, .int (m : Int)] ∧ m < n ∧ H p = some (.lst (purse a b c)) ∧ PO a b c ∧ b + (Td m : Nat) ≤ 100000 ∧
  ∀ d v H' a' b', SB p H H' → H' p = some (.lst (purse a' b' c)) → PO a' b' c → b' ≤ b + (Td m : Nat) → Rep H' d v → okD d = true → depth d ≤ m → (said d).length ≤ Wd m → Q v H'
variable {g1 : Addr} {gd1 : FuncData}
theorem ok_dat1 {n : Nat} (F : Fun K "_law_datum" "_law_datum" sDat f fd) (mt : mg "tuple" = none) (mr : mg "range" = none)
    (G1 : FnOk P w K mg base CX0 2 g1 gd1 ["_law_purse_here", "_law_steps"] spTake) (b1 : Binds K gd1 ["_law_purse_here", "_law_steps"] []) (k1 : PySem.W.keepIn K (.ref g1) = true) (m1 : mg "_law_take" = some (.ref g1))
    (G : FnOk P w K mg base CX0 (n + 2) f fd ["_law_purse_here", "_law_deep"] (spDat n)) (bS : Binds K fd ["_law_purse_here", "_law_deep"] []) (mS : mg "_law_datum" = some (.ref f)) :
    FnOk P w K mg base CX0 (n + 3) f fd ["_law_purse_here", "_law_deep"] (spDat (n + 1)) := by
  refine F.ok scDat (fun vs H Q E h => ?_) (fun cdv A outer s H vs Q E hr h => ?_)
  · obtain ⟨p, m, a, b, c, rfl, _⟩ := h
    rfl
  obtain ⟨p, m, a, b, c, rfl, hm, hp, po, hb, q⟩ := h
  refine ⟨_, pss_cons (ps_set (i := 2) scDat.nd rfl (.inl rfl) (pe_call G1 (hr.mono (by omega)) rfl m1 k1 b1 .nil pass0 (pa_cons (pv 0) (pa_cons pe_int pa_nil))))
    (C8.pss_cut (ps_if (PW.pt (pw_and (pt_cmpR op_gt (pv 1) pe_int (nomark _)) (pw_and1 (pt_cmpR op_gt (pv 2) pe_int (nomark _)))))
      (pss_one (ps_ret (pe_callTy call_tuple_of rfl mt (by decide +kernel) (pa_cons
        (pe_lc (own := [("_law_k", 3)]) (g := gName 3) (tt := tYes) rfl scDat.nd (pi_range1 rfl mr (pa_cons (pe_call G1 (hr.mono (by omega)) rfl m1 k1 b1 .nil pass0 (pa_cons (pv 0) (pa_cons pe_int pa_nil))) pa_nil)) (blkOk_by (N := ["_law_purse_here", "_law_deep", "_law_way", "_law_k"]) (sc := defScope sDat) (by decide +kernel))
          (fun _ _ _ _ _ => pg_name (i := 3) scDat.nd rfl (Or.inl rfl)) (fun _ _ _ _ _ => pts_nil) (fun _ _ _ _ _ => pe_call G hr rfl mS F.kp bS .nil pass0 (pa_cons (pv 0) (pa_cons (pe_op op_sub (pv 1) pe_int) pa_nil)))) pa_nil)))) pss_nil)
    (pss_cons (ps_if (pt_cmpR op_eq (pv 2) pe_int (nomark _))
      (pss_one (ps_ret (pe_cmpR op_eq (pe_call G1 (hr.mono (by omega)) rfl m1 k1 b1 .nil pass0 (pa_cons (pv 0) (pa_cons pe_int pa_nil))) pe_int (nomark _)))) pss_nil)
    (pss_cons (ps_if (pt_cmpR op_eq (pv 2) pe_int (nomark _))
      (pss_one (ps_ret (pe_ix ix_list (pe_lst (pa_cons pe_int (pa_cons pe_int (pa_cons (pe_un un_neg pe_int) (pa_cons (pe_op op_pow pe_int pe_int) (pa_cons (pe_op op_add (pe_op op_sub pe_int (pe_op op_pow pe_int pe_int)) pe_int) (pa_cons pe_int (pa_cons (pe_un un_neg pe_int) pa_nil))))))))
        (pe_call G1 (hr.mono (by omega)) rfl m1 k1 b1 .nil pass0 (pa_cons (pv 0) (pa_cons pe_int pa_nil))) (fun _ _ => rfl)))) pss_nil)
    (pss_cons (ps_if (pt_cmpR op_eq (pv 2) pe_int (nomark _))
      (pss_one (ps_ret (pe_ix ix_list (pe_lst (pa_cons pe_str (pa_cons pe_str (pa_cons pe_str (pa_cons pe_str (pa_cons pe_str (pa_cons pe_str (pa_cons pe_str (pa_cons pe_str (pa_cons pe_str pa_nil))))))))))
        (pe_call G1 (hr.mono (by omega)) rfl m1 k1 b1 .nil pass0 (pa_cons (pv 0) (pa_cons pe_int pa_nil))) (fun _ _ => rfl)))) pss_nil)
    (pss_one (ps_ret (pe_ix ix_list (pe_lst (pa_cons pe_str (pa_cons pe_str (pa_cons pe_str (pa_cons pe_str (pa_cons pe_str (pa_cons pe_str (pa_cons pe_str pa_nil))))))))
        (pe_call G1 (hr.mono (by omega)) rfl m1 k1 b1 .nil pass0 (pa_cons (pv 0) (pa_cons pe_int pa_nil))) (fun _ _ => rfl)))))))), ?_⟩
  have hT := Td_ge m
  refine ⟨_, rfl, p, 7, a, b, c, rfl, by decide, by decide, hp, po, by omega, fun r a1 b1' hr0 hr1 po1 hb1 => ?_⟩
  have hp1 : upd H p (.lst (purse a1 b1' c)) p = some (.lst (purse a1 b1' c)) := upd_same
  have sb1 : SB p H (upd H p (.lst (purse a1 b1' c))) := SB.upd _
  generalize upd H p (.lst (purse a1 b1' c)) = H1 at hp1 sb1 ⊢
  refine ⟨fun σ' H' => H' = H1 ∧ σ' = [some (.ref p), some (.int (m : Int)), some (.int r), none], ?_, ?_⟩
  · refine ⟨_, rfl, _, _, rfl, rfl, _, rfl, ?_⟩
    refine ite2 (fun c1 => ?_) (fun _ => iteF ⟨rfl, rfl⟩)
    have c1 : (0 : Int) < (m : Int) := of_decide_eq_true c1
    refine ⟨_, rfl, _, _, rfl, rfl, _, rfl, ?_⟩
    refine ite2 (fun c2 => ?_) (fun _ => ⟨rfl, rfl⟩)
    obtain ⟨k, rfl⟩ : ∃ k, m = k + 1 := ⟨m - 1, by omega⟩
    have eT : Td (k + 1) = 2 + 3 * Td k := rfl
    have eW : Wd (k + 1) = 3 * (Wd k + 1) + 2 := rfl
    refine ⟨_, rfl, p, 4, a1, b1', c, rfl, by decide, by decide, hp1, po1, by omega, fun r2 a2 b2 hr20 hr21 po2 hb2 => ?_⟩
    have hp2 : upd H1 p (.lst (purse a2 b2 c)) p = some (.lst (purse a2 b2 c)) := upd_same
    have sb2 : SB p H (upd H1 p (.lst (purse a2 b2 c))) := sb1.trans (SB.upd _)
    generalize upd H1 p (.lst (purse a2 b2 c)) = H2 at hp2 sb2 ⊢
    refine ⟨r2, rfl, by omega, by omega, fun L hL => ?_⟩
    have hLp : L ≠ p := Ne.symm (ne_of_none hp2 hL)
    have hrn : r2.toNat ≤ 3 := by omega
    refine lc_range (lo := 0) (n := r2.toNat) (fun i H'' => ∃ (ds : List D) (xs : List V) (a' b' : Int), H'' L = some (.lst xs) ∧ Reps H'' ds xs ∧ okL ds = true ∧ depths ds ≤ k ∧ ds.length = i ∧ (sr ds).length ≤ i * (Wd k + 1) ∧
      H'' p = some (.lst (purse a' b' c)) ∧ PO a' b' c ∧ b' ≤ b2 + (i * Td k : Nat) ∧ SB p H2 H'') ?_ ?_ ?_
    · refine ⟨[], [], a2, b2, upd_same, rfl, rfl, Nat.zero_le _, rfl, Nat.zero_le _, ?_, po2, by omega, SB.of (same_new hL _)⟩
      rw [upd_ne (Ne.symm hLp)]; exact hp2
    · rintro i H3 hi ⟨ds, xs, a3, b3, hL3, hreps, hok, hdp, hlen, hsr, hp3, po3, hb3, sb3⟩
      refine ⟨rfl, ?_⟩
      unfold tYes
      refine iteT ?_
      have hik : i * Td k + Td k ≤ 3 * Td k := by
        have : i + 1 ≤ 3 := by omega
        have := Nat.mul_le_mul_right (Td k) this
        rw [Nat.add_mul, Nat.one_mul] at this
        exact this
      refine ⟨_, rfl, _, rfl, _, _, rfl, rfl, p, k, a3, b3, c, ?_, by omega, hp3, po3, by omega, fun d v H4 a4 b4 sb4 hp4 po4 hb4 rp4 ok4 dp4 sd4 => ?_⟩
      · have : ((k + 1 : Nat) : Int) - 1 = (k : Int) := by omega
        show [V.ref p, V.int (((k + 1 : Nat) : Int) - 1)] = [V.ref p, V.int (k : Int)]
        rw [this]
      have hL4 : H4 L = some (.lst xs) := sb4 _ _ hLp hL3
      have tp4 : Tups H3 H4 := sb4.tups hp3
      have hxl := hreps.length
      have esz := sizeLine_eq
      refine ⟨xs, hL4, by omega, ds ++ [d], xs ++ [v], a4, b4, upd_same, ?_, ?_, ?_, ?_, ?_, ?_, po4, ?_, ?_⟩
      · exact Reps.snoc (rp4.mono (Tups.lst hL4 _)) (hreps.mono (tp4.trans (Tups.lst hL4 _)))
      · rw [okL_app, hok]
        show (true && (okD d && true)) = true
        rw [ok4]; rfl
      · rw [depths_snoc]; omega
      · rw [List.length_append, hlen]; rfl
      · rw [sr_app, List.length_append]
        have e1 : (sr [d]).length = (said d).length + 1 := by
          show (32 :: (said d ++ [])).length = _
          rw [List.append_nil, List.length_cons]
        have e2 : (i + 1) * (Wd k + 1) = i * (Wd k + 1) + (Wd k + 1) := by rw [Nat.add_mul, Nat.one_mul]
        omega
      · rw [upd_ne (Ne.symm hLp)]; exact hp4
      · have e2 : (i + 1) * Td k = i * Td k + Td k := by rw [Nat.add_mul, Nat.one_mul]
        omega
      · exact (sb3.trans sb4).updNew hL _
    · rintro H3 ⟨ds, xs, a3, b3, hL3, hreps, hok, hdp, hlen, hsr, hp3, po3, hb3, sb3⟩
      refine ⟨L, xs, rfl, .inl ⟨SqL.of hL3, fun t ht => ?_⟩⟩
      have hrk : r2.toNat * Td k ≤ 3 * Td k := Nat.mul_le_mul_right _ hrn
      have hrw : r2.toNat * (Wd k + 1) ≤ 3 * (Wd k + 1) := Nat.mul_le_mul_right _ hrn
      have tp3 : Tups H3 (upd H3 t (.tup xs)) := Tups.new ht _
      refine q (.lst ds) (.ref t) _ a3 b3 ((sb2.trans sb3).trans (SB.of (same_new ht _))) ?_ po3 (by omega) ⟨t, xs, rfl, upd_same, hreps.mono tp3⟩ hok (by show depths ds + 1 ≤ k + 1; omega) ?_
      · rw [upd_ne (ne_of_none hp3 ht)]; exact hp3
      · show (40 :: (sl ds ++ [41])).length ≤ _
        rw [List.length_cons, List.length_append]
        have := sl_sr ds
        show (sl ds).length + 1 + 1 ≤ _
        omega
  rintro σ' H' ⟨rfl, rfl⟩
  refine ⟨_, rfl, rfl, _, rfl, ?_⟩
  refine ite2 (fun _ => ?_) (fun _ => ?_)
  · refine ⟨_, rfl, p, 2, a1, b1', c, rfl, by decide, by decide, hp1, po1, by omega, fun r2 a2 b2 hr20 hr21 po2 hb2 => ?_⟩
    refine ⟨rfl, ?_⟩
    obtain ⟨h1, h2, h3⟩ := leafB (decide (V.int r2 = V.int 1)) m
    exact q (.bl _) _ _ a2 b2 (sb1.trans (SB.upd _)) upd_same po2 (by omega) rfl h1 h2 h3
  refine ⟨_, rfl, rfl, _, rfl, ?_⟩
  refine ite2 (fun _ => ?_) (fun _ => ?_)
  · refine ⟨_, rfl, 10, 39, rfl, rfl, ⟨by decide, by decide, by decide⟩, 10, 40, rfl, rfl, ⟨by decide, by decide, by decide⟩, _, _, rfl, rfl, _, _, rfl, rfl, _, rfl, (by show 7 ≤ sizeLine; decide), fun L hL => ?_⟩
    have hLp : p ≠ L := ne_of_none hp1 hL
    have hp3 : upd H' L (.lst nums7) p = some (.lst (purse a1 b1' c)) := by rw [upd_ne hLp]; exact hp1
    refine ⟨_, rfl, p, 7, a1, b1', c, rfl, by decide, by decide, hp3, po1, by omega, fun r2 a2 b2 hr20 hr21 po2 hb2 => ?_⟩
    obtain ⟨x, hx, okx⟩ := nums_at hr20 hr21
    refine ⟨L, nums7, r2, .int x, rfl, rfl, SqL.of (by rw [upd_ne (Ne.symm hLp)]; exact upd_same), hx, ?_⟩
    obtain ⟨h1, h2, h3⟩ := leafN okx m
    exact q (.num x) _ _ a2 b2 ((sb1.trans (SB.of (same_new hL _))).trans (SB.upd _)) upd_same po2 (by omega) rfl h1 h2 h3
  refine ⟨_, rfl, rfl, _, rfl, ?_⟩
  refine ite2 (fun _ => ?_) (fun _ => ?_)
  · refine ⟨(by show 9 ≤ sizeLine; decide), fun L hL => ?_⟩
    have hLp : p ≠ L := ne_of_none hp1 hL
    have hp3 : upd H' L (.lst words9) p = some (.lst (purse a1 b1' c)) := by rw [upd_ne hLp]; exact hp1
    refine ⟨_, rfl, p, 9, a1, b1', c, rfl, by decide, by decide, hp3, po1, by omega, fun r2 a2 b2 hr20 hr21 po2 hb2 => ?_⟩
    obtain ⟨x, hx, okx⟩ := words9_at hr20 hr21
    refine ⟨L, words9, r2, .str x, rfl, rfl, SqL.of (by rw [upd_ne (Ne.symm hLp)]; exact upd_same), hx, ?_⟩
    obtain ⟨h1, h2, h3⟩ := leafW okx m
    exact q (.wd x) _ _ a2 b2 ((sb1.trans (SB.of (same_new hL _))).trans (SB.upd _)) upd_same po2 (by omega) rfl h1 h2 h3
  · refine ⟨(by show 7 ≤ sizeLine; decide), fun L hL => ?_⟩
    have hLp : p ≠ L := ne_of_none hp1 hL
    have hp3 : upd H' L (.lst words7) p = some (.lst (purse a1 b1' c)) := by rw [upd_ne hLp]; exact hp1
    refine ⟨_, rfl, p, 7, a1, b1', c, rfl, by decide, by decide, hp3, po1, by omega, fun r2 a2 b2 hr20 hr21 po2 hb2 => ?_⟩
    obtain ⟨x, hx, okx⟩ := words7_at hr20 hr21
    refine ⟨L, words7, r2, .str x, rfl, rfl, SqL.of (by rw [upd_ne (Ne.symm hLp)]; exact upd_same), hx, ?_⟩
    obtain ⟨h1, h2, h3⟩ := leafW okx m
    exact q (.wd x) _ _ a2 b2 ((sb1.trans (SB.of (same_new hL _))).trans (SB.upd _)) upd_same po2 (by omega) rfl h1 h2 h3
theorem ok_dat (F : Fun K "_law_datum" "_law_datum" sDat f fd) (mt : mg "tuple" = none) (mr : mg "range" = none)
    (G1 : FnOk P w K mg base CX0 2 g1 gd1 ["_law_purse_here", "_law_steps"] spTake) (b1 : Binds K gd1 ["_law_purse_here", "_law_steps"] []) (k1 : PySem.W.keepIn K (.ref g1) = true) (m1 : mg "_law_take" = some (.ref g1))
    (bS : Binds K fd ["_law_purse_here", "_law_deep"] []) (mS : mg "_law_datum" = some (.ref f)) : ∀ n : Nat, FnOk P w K mg base CX0 (n + 2) f fd ["_law_purse_here", "_law_deep"] (spDat n)
  | 0 => ok_no fun vs H Q E h => by
    obtain ⟨p, m, a, b, c, _, h, _⟩ := h
    omega
  | n + 1 => ok_dat1 F mt mr G1 b1 k1 m1 (ok_dat F mt mr G1 b1 k1 m1 bS mS n) bS mS
end
end K2
namespace K2
open PySem L2
section
variable {P : Program} {w : World} {K : PySem.W.Frag} {mg : Str → Option Value} {base : Heap} {f : Addr} {fd : FuncData}
/-! ### _law_at -/
abbrev sAt : Stmt := top 29
theorem scAt : FnScope ["_law_script", "_law_k"] ["_law_script", "_law_k"] (defScope sAt) := ⟨rfl, rfl, rfl, by decide +kernel, rfl, by decide +kernel, by decide +kernel⟩
def spAt (K : PySem.W.Frag) : Sp := fun vs H Q _ => ∃ (a : Addr) (ns : List Int), vs = [.ref a, .int 4] ∧ SqL K H a (ns.map V.int) ∧ ∀ x : Int, Q (.int x) H
theorem ok_at (F : Fun K "_law_at" "_law_at" sAt f fd) (ml : mg "len" = none) : FnOk P w K mg base CX0 1 f fd ["_law_script", "_law_k"] (spAt K) := by
  refine F.ok scAt (fun vs H Q E h => ?_) (fun cdv A outer s H vs Q E hr h => ?_)
  · obtain ⟨a, ns, rfl, _⟩ := h
    rfl
  obtain ⟨a, ns, rfl, hS, q⟩ := h
  refine ⟨_, pss_cons (ps_if (pt_cmpR op_lt (pv 1) (pe_callB call_len_seq rfl ml PySem.boot_len (pa_cons (pv 0) pa_nil)) (nomark _)) (pss_one (ps_ret (pe_ix ix_list (pv 0) (pv 1) (fun _ _ => rfl)))) pss_nil)
    (pss_one (ps_ret (pe_op op_add (pe_op op_mul pe_int (pv 1)) pe_int))), ?_⟩
  refine ⟨_, rfl, _, rfl, a, _, rfl, .inl hS, _, _, rfl, rfl, _, rfl, ?_⟩
  refine ite2 (fun c => ?_) (fun _ => ?_)
  · have c : (4 : Int) < ((ns.map V.int).length : Int) := of_decide_eq_true c
    rw [List.length_map] at c
    have hl : 4 < ns.length := by omega
    refine ⟨_, rfl, _, rfl, a, _, _, .int ns[4], rfl, rfl, hS, atI_nat (j := 4) ?_, q _⟩
    rw [List.getElem?_map, List.getElem?_eq_getElem hl]; rfl
  · exact ⟨_, rfl, 3, 4, rfl, rfl, .inl ⟨by decide, by decide⟩, _, _, rfl, rfl, q _⟩
end
end K2
namespace K2
open PySem L2
/-! ### signs of the common kind -/
def Asc (l : List Nat) : Prop := ∀ c ∈ l, c < 128
theorem dig128 : ∀ c : Fin 128, Txt.isdigit (mk [c.1]) = isDig c.1 := by decide +kernel
theorem low128 : ∀ c : Fin 128, Txt.islower (mk [c.1]) = isLet c.1 := by decide +kernel
def hd (p : Nat → Bool) (l : List Nat) : Bool := match l with
  | [] => false
  | c :: _ => p c
theorem isdig1 {l : List Nat} (h : Asc l) : Txt.isdigit (mk (l.take 1)) = hd isDig l := by
  cases l with
  | nil => decide +kernel
  | cons c r => exact dig128 ⟨c, h c (by simp)⟩
theorem islow1 {l : List Nat} (h : Asc l) : Txt.islower (mk (l.take 1)) = hd isLet l := by
  cases l with
  | nil => decide +kernel
  | cons c r => exact low128 ⟨c, h c (by simp)⟩
theorem Asc.drop {l : List Nat} (h : Asc l) (n : Nat) : Asc (l.drop n) := fun c hc => h c (List.mem_of_mem_drop hc)
theorem sign1 (l : List Nat) (c : Nat) : decide (V.str (mk (l.take 1)) = V.str (mk [c])) = decide (l.head? = some c) := by
  by_cases h : l.head? = some c
  · rw [decide_eq_true h]
    refine decide_eq_true ?_
    cases l with
    | nil => exact nomatch h
    | cons x r =>
      have e : x = c := by simpa using h
      rw [e]; rfl
  · rw [decide_eq_false h]
    refine decide_eq_false fun e => h ?_
    have e := mk_inj (V.str.inj e)
    cases l with
    | nil => exact nomatch e
    | cons x r =>
      have e : [x] = [c] := e
      rw [(List.cons.inj e).1]; rfl
theorem run_hd {p : Nat → Bool} {n : Nat} {l : List Nat} (h : hd p l = false) : runLen p n l = 0 := by
  cases n with
  | zero => rfl
  | succ n =>
    cases l with
    | nil => rfl
    | cons c r =>
      show (if p c = true then _ else 0) = 0
      rw [show p c = false from h]; rfl
theorem run_step {p : Nat → Bool} {n : Nat} {l : List Nat} (h : hd p l = true) : runLen p (n + 1) l = runLen p n (l.drop 1) + 1 := by
  cases l with
  | nil => exact Bool.noConfusion h
  | cons c r =>
    show (if p c = true then _ else 0) = _
    rw [if_pos (show p c = true from h)]; rfl
theorem hd_head {p : Nat → Bool} {l : List Nat} (h : hd p l = true) : ∃ c r, l = c :: r ∧ p c = true := by
  cases l with
  | nil => exact Bool.noConfusion h
  | cons c r => exact ⟨c, r, rfl, h⟩
theorem leaf_letters {r : List Nat} (h : ¬ runLen isLet 12 r = 0) : ∃ d, leafOf r = .ok (d, runLen isLet 12 r) := by
  have hle := runLen_len isLet 12 r
  have ll : (r.take (runLen isLet 12 r)).length = runLen isLet 12 r := by rw [List.length_take]; omega
  unfold leafOf
  rw [if_neg h]
  split
  · rename_i h1
    rw [h1] at ll
    have ll : 3 = runLen isLet 12 r := ll
    exact ⟨_, by rw [← ll]⟩
  · split
    · rename_i h2
      rw [h2] at ll
      have ll : 2 = runLen isLet 12 r := ll
      exact ⟨_, by rw [← ll]⟩
    · exact ⟨_, rfl⟩
theorem leaf_num {r : List Nat} {n : Nat} (h0 : runLen isLet 12 r = 0) (h : numLen r = .ok n) : ∃ d, leafOf r = .ok (d, n) := by
  obtain ⟨i, e1, _⟩ := num_text h
  refine ⟨.num i, ?_⟩
  unfold leafOf
  rw [if_pos h0, h]
  simp only [e1]
theorem leaf_bad {r : List Nat} {e : Nat} (h0 : runLen isLet 12 r = 0) (h : numLen r = .error e) : leafOf r = .error e := by
  unfold leafOf
  rw [if_pos h0, h]
/-- both ways of an or, of an and, come to one -/
theorem tOr_by {tA tB : TT} {σ : St} {H : Hp} {Kont : Bool → Hp → Prop} (c1 c2 : Bool) (h1 : ∀ k : Bool → Hp → Prop, k c1 H → tA σ H k) (h2 : ∀ k : Bool → Hp → Prop, k c2 H → tB σ H k) (all : Kont (c1 || c2) H) : tOr tA tB σ H Kont := by
  refine h1 _ ?_
  cases c1
  · exact iteF (h2 _ all)
  · exact iteT all
theorem seq_at {t u : TS} {D : Ends} {σ : St} {H : Hp} (h : t { D with nx := u D } σ H) : tSeq t u D σ H := h
theorem if_at {t : TT} {tb te : TS} {D : Ends} {σ : St} {H : Hp} (h : t σ H fun b H1 => if b = true then tb D σ H1 else te D σ H1) : tIfS t tb te D σ H := h
theorem tAnd_by {tA tB : TT} {σ : St} {H : Hp} {Kont : Bool → Hp → Prop} (c1 c2 : Bool) (h1 : ∀ k : Bool → Hp → Prop, k c1 H → tA σ H k) (h2 : ∀ k : Bool → Hp → Prop, k c2 H → tB σ H k) (all : Kont (c1 && c2) H) : tAnd tA tB σ H Kont := by
  refine h1 _ ?_
  cases c1
  · exact iteF all
  · exact iteT (h2 _ all)
section
variable {P : Program} {w : World} {K : PySem.W.Frag} {mg : Str → Option Value} {base : Heap} {f : Addr} {fd : FuncData}
abbrev sLE : Stmt := top 33
theorem scLE : FnScope ["_law_line", "_law_at_here", "_law_sign", "_law_start", "_law_first", "_law_end"] ["_law_line", "_law_at_here"] (defScope sLE) := ⟨rfl, rfl, rfl, by decide +kernel, rfl, by decide +kernel, by decide +kernel⟩
def spLE : Sp := fun vs H Q _ => ∃ (z : Str) (a : Nat), vs = [.str z, .int a] ∧ z.length ≤ 100000 ∧ a ≤ z.length ∧ Asc (tl z) ∧
  (∀ d n, leafOf ((tl z).drop a) = .ok (d, n) → ∀ p, H p = none → Q (.ref p) (upd H p (.lst [.int ((a + n : Nat) : Int), .non]))) ∧ (∀ e, leafOf ((tl z).drop a) = .error e → ∀ p, H p = none → Q (.ref p) (upd H p (.lst [.non, .int ((a + e : Nat) : Int)])))
set_option maxHeartbeats 8000000 in
theorem ok_le (F : Fun K "_law_leaf_end" "_law_leaf_end" sLE f fd) (mn : mg "int" = none) : FnOk P w K mg base CX0 1 f fd ["_law_line", "_law_at_here"] spLE := by
  refine F.ok scLE (fun vs H Q E h => ?_) (fun cdv A outer s H vs Q E hr h => ?_)
  · obtain ⟨z, a, rfl, _⟩ := h
    rfl
  obtain ⟨z, a, rfl, hz, ha, hasc, hok, hbad⟩ := h
  have esz := sizeLine_eq
  have hzs : z.length ≤ sizeLine := by omega
  have hlen : (tl z).length = z.length := (len_tl z).symm
  refine ⟨_, pss_cons (ps_set (i := 2) scLE.nd rfl (.inl rfl) (pe_slice sl_str (pv 0) (po_some (pv 1)) (po_some (pe_op op_add (pv 1) pe_int))))
    (pss_cons (ps_if (PW.pt (pw_or (pt_cmpR op_eq (pv 2) pe_str (nomark _)) (pw_or1 (pt_val (pe_m0 PySem.F.slot_str_isdigit PySem.F.type_str_isdigit mt_isdigit (pv 2))))))
      (pss_cons (ps_set (i := 3) scLE.nd rfl (.inl rfl) (pe_op op_add (pv 1) (pe_callTy call_int1 rfl mn (by decide +kernel) (pa_cons (pe_cmpR op_eq (pv 2) pe_str (nomark _)) pa_nil))))
      (pss_cons (ps_set (i := 4) scLE.nd rfl (.inl rfl) (pe_slice sl_str (pv 0) (po_some (pv 3)) (po_some (pe_op op_add (pv 3) pe_int))))
      (pss_cons (ps_if (PW.pt (pw_or (PW.pt (pw_and (pt_cmpR op_eq (pv 4) pe_str (nomark _)) (pw_and1 (pt_cmpR op_eq (pv 2) pe_str (nomark _))))) (pw_or1 (pt_not (pt_val (pe_m0 PySem.F.slot_str_isdigit PySem.F.type_str_isdigit mt_isdigit (pv 4)))))))
        (pss_one (ps_ret (pe_lst (pa_cons pe_non (pa_cons (pv 3) pa_nil))))) pss_nil)
      (pss_cons (ps_if (pt_cmpR op_eq (pv 4) pe_str (nomark _)) (pss_one (ps_ret (pe_lst (pa_cons (pe_op op_add (pv 3) pe_int) (pa_cons pe_non pa_nil))))) pss_nil)
      (pss_cons (ps_set (i := 5) scLE.nd rfl (.inl rfl) (pv 3))
      (pss_cons (ps_while PassesOwn.never (PW.pt (pw_and (pt_val (pe_m0 PySem.F.slot_str_isdigit PySem.F.type_str_isdigit mt_isdigit (pe_slice sl_str (pv 0) (po_some (pv 5)) (po_some (pe_op op_add (pv 5) pe_int))))) (pw_and1 (pt_cmpR op_lt (pv 5) (pe_op op_add (pv 3) pe_int) (nomark _)))))
        (pss_one (ps_set (i := 5) scLE.nd rfl (.inl rfl) (pe_op op_add (pv 5) pe_int))))
      (pss_one (ps_ret (pe_lst (pa_cons (pv 5) (pa_cons pe_non pa_nil)))))))))))
      pss_nil)
    (pss_cons (ps_set (i := 5) scLE.nd rfl (.inl rfl) (pv 1))
    (pss_cons (ps_while PassesOwn.never (PW.pt (pw_and (pt_val (pe_m0 PySem.F.slot_str_islower PySem.F.type_str_islower mt_islower (pe_slice sl_str (pv 0) (po_some (pv 5)) (po_some (pe_op op_add (pv 5) pe_int))))) (pw_and1 (pt_cmpR op_lt (pv 5) (pe_op op_add (pv 1) pe_int) (nomark _)))))
        (pss_one (ps_set (i := 5) scLE.nd rfl (.inl rfl) (pe_op op_add (pv 5) pe_int))))
    (pss_cons (ps_if (pt_cmpR op_eq (pv 5) (pv 1) (nomark _)) (pss_one (ps_ret (pe_lst (pa_cons pe_non (pa_cons (pv 1) pa_nil))))) pss_nil)
    (pss_one (ps_ret (pe_lst (pa_cons (pv 5) (pa_cons pe_non pa_nil))))))))), ?_⟩
  have s45 : (Str.ofString "-") = mk [45] := by decide +kernel
  have s48 : (Str.ofString "0") = mk [48] := by decide +kernel
  rw [s45, s48]
  have cutz : ∀ b : Nat, b ≤ z.length → cutS z (some (b : Int)) (some ((b : Int) + 1)) = mk (((tl z).drop b).take 1) := fun b hb => cut_at (n := 1) (by omega)
  have back : ∀ (p : Addr) (n : Nat), (∃ d, leafOf ((tl z).drop a) = .ok (d, n)) → H p = none → Q (.ref p) (upd H p (.lst [.int ((a + n : Nat) : Int), .non])) := fun p n ⟨d, hd⟩ hp => hok d n hd p hp
  refine ⟨_, rfl, _, rfl, _, rfl, _, rfl, _, _, rfl, rfl, _, rfl, z, rfl, hzs, ?_⟩
  rw [cutz a ha]
  have num : (((tl z).drop a).head? = some 45 ∨ hd isDig ((tl z).drop a) = true) → runLen isLet 12 ((tl z).drop a) = 0 := fun h => run_hd (by
    rcases h with h | h
    · cases e : (tl z).drop a with
      | nil => rfl
      | cons c r =>
        rw [e] at h
        have : c = 45 := by simpa using h
        rw [this]; rfl
    · obtain ⟨c, r, e, hc⟩ := hd_head h
      rw [e]
      have hc : 48 ≤ c ∧ c ≤ 57 := by simpa [isDig] using hc
      show isLet c = false
      unfold isLet
      rw [decide_eq_false (by omega : ¬ 97 ≤ c)]; rfl)
  have mono1 : ∀ (b k m : Nat) (p : Nat → Bool), hd p ((tl z).drop (b + k)) = true → k < m → k + runLen p (m - k) ((tl z).drop (b + k)) = (k + 1) + runLen p (m - (k + 1)) ((tl z).drop (b + (k + 1))) := fun b k m p h hk => by
    have e : m - k = (m - (k + 1)) + 1 := by omega
    rw [e, run_step h, List.drop_drop]
    have e2 : b + k + 1 = b + (k + 1) := by omega
    rw [e2]; omega
  have inb : ∀ (b : Nat) (p : Nat → Bool), hd p ((tl z).drop b) = true → b < z.length := fun b p h => by
    rw [← hlen]
    rcases Nat.lt_or_ge b (tl z).length with h1 | h1
    · exact h1
    · rw [List.drop_eq_nil_of_le h1] at h; exact Bool.noConfusion h
  dsimp only [gName]
  refine seq_at (if_at (tOr_by (decide (((tl z).drop a).head? = some 45)) (hd isDig ((tl z).drop a)) (fun k h => ⟨_, rfl, rfl, _, rfl, by rw [sign1]; exact h⟩) (fun k h => ⟨_, rfl, ⟨_, rfl⟩, _, rfl, rfl, trivial, _, rfl, by rw [isdig1 (hasc.drop a)]; exact h⟩) ?_))
  refine ite2 (fun cc => ?_) (fun cc => ?_)
  · rw [Bool.or_eq_true, decide_eq_true_eq] at cc
    have h0 := num cc
    obtain ⟨st, hst⟩ : ∃ st : Nat, st = if ((tl z).drop a).head? = some 45 then 1 else 0 := ⟨_, rfl⟩
    have hsz : a + st ≤ z.length := by
      rw [hst]
      rcases cc with h | h
      · have := head_lt h
        split <;> omega
      · have := inb _ _ h
        split <;> omega
    have hn' : numLen ((tl z).drop a) = (if ((tl z).drop (a + st)).head? = some 48 then (if 0 < st then Except.error st else .ok (st + 1))
      else if runLen isDig 40 ((tl z).drop (a + st)) = 0 then .error st else .ok (st + runLen isDig 40 ((tl z).drop (a + st)))) := by
      rw [← List.drop_drop, hst]; rfl
    refine ⟨_, rfl, _, rfl, rfl, .inr ⟨_, rfl, _, _, rfl, rfl, ?_⟩⟩
    rw [sign1]
    have est : (a : Int) + (if decide (((tl z).drop a).head? = some 45) = true then 1 else 0) = ((a + st : Nat) : Int) := by
      rw [hst]
      by_cases h : ((tl z).drop a).head? = some 45
      · rw [decide_eq_true h, if_pos rfl, if_pos h]; rfl
      · rw [decide_eq_false h, if_neg Bool.false_ne_true, if_neg h]; rfl
    dsimp only [gName]
    rw [est]
    refine ⟨_, rfl, _, rfl, _, rfl, _, rfl, _, _, rfl, rfl, _, rfl, z, rfl, hzs, ?_⟩
    rw [cutz (a + st) hsz]
    have bad : numLen ((tl z).drop a) = .error st → ∀ p, H p = none → Q (.ref p) (upd H p (.lst [.non, .int ((a + st : Nat) : Int)])) := fun h p hp => hbad st (leaf_bad h0 h) p hp
    refine ⟨_, rfl, rfl, _, rfl, ?_⟩
    rw [sign1]
    -- the first figure
    by_cases h48 : ((tl z).drop (a + st)).head? = some 48
    · rw [if_pos h48] at hn'
      rw [decide_eq_true h48]
      refine iteT ⟨_, rfl, rfl, _, rfl, ?_⟩
      rw [sign1]
      by_cases h45 : ((tl z).drop a).head? = some 45
      · rw [decide_eq_true h45]
        rw [if_pos h45] at hst
        rw [if_pos (by omega)] at hn'
        refine iteT (iteT ⟨_, rfl, (by show 2 ≤ sizeLine; decide), fun p hp => bad hn' p hp⟩)
      · rw [decide_eq_false h45]
        rw [if_neg h45] at hst
        rw [if_neg (by omega)] at hn'
        refine iteF ⟨_, rfl, ⟨_, rfl⟩, _, rfl, rfl, trivial, _, rfl, ?_⟩
        have hdd : hd isDig ((tl z).drop (a + st)) = true := by
          cases e3 : (tl z).drop (a + st) with
          | nil => rw [e3] at h48; exact nomatch h48
          | cons x y =>
            rw [e3] at h48
            have : x = 48 := by simpa using h48
            rw [this]; rfl
        rw [isdig1 (hasc.drop _), hdd]
        refine iteF ⟨_, rfl, rfl, _, rfl, ?_⟩
        rw [sign1, decide_eq_true h48]
        refine iteT ⟨_, rfl, _, _, rfl, rfl, (by show 2 ≤ sizeLine; decide), fun p hp => ?_⟩
        have q := back p (st + 1) (leaf_num h0 hn') hp
        rw [← Nat.add_assoc] at q
        exact q
    · rw [if_neg h48] at hn'
      rw [decide_eq_false h48]
      refine iteF (iteF ⟨_, rfl, ⟨_, rfl⟩, _, rfl, rfl, trivial, _, rfl, ?_⟩)
      rw [isdig1 (hasc.drop _)]
      by_cases hdd : hd isDig ((tl z).drop (a + st)) = true
      · rw [hdd]
        refine iteF ⟨_, rfl, rfl, _, rfl, ?_⟩
        rw [sign1, decide_eq_false h48]
        refine iteF ⟨_, rfl, ?_⟩
        let W : Nat → St → Hp → Prop := fun n σ H' => ∃ k : Nat, k ≤ 40 ∧ n = 40 - k ∧ a + st + k ≤ z.length ∧ σ = [some (.str z), some (.int a), some (.str (mk (((tl z).drop a).take 1))), some (.int ((a + st : Nat) : Int)), some (.str (mk (((tl z).drop (a + st)).take 1))), some (.int ((a + st + k : Nat) : Int))] ∧ H' = H ∧
          k + runLen isDig (40 - k) ((tl z).drop (a + st + k)) = runLen isDig 40 ((tl z).drop (a + st))
        refine ⟨W, ⟨40, 0, by omega, rfl, hsz, rfl, rfl, by simp⟩, ?_⟩
        rintro n σ H' ⟨k, hk, rfl, hkz, rfl, rfl, e⟩
        refine tAnd_by (hd isDig ((tl z).drop (a + st + k))) (decide (((a + st + k : Nat) : Int) < ((a + st : Nat) : Int) + 40))
          (fun q h => ⟨_, rfl, _, rfl, _, rfl, _, rfl, _, _, rfl, rfl, _, rfl, z, rfl, hzs, ⟨_, rfl⟩, _, rfl, rfl, trivial, _, rfl, by rw [cutz (a + st + k) hkz, isdig1 (hasc.drop _)]; exact h⟩)
          (fun q h => ⟨_, rfl, _, rfl, _, _, rfl, rfl, _, _, rfl, rfl, _, rfl, h⟩) ?_
        refine ite2 (fun c3 => ?_) (fun c3 => ?_)
        · rw [Bool.and_eq_true, decide_eq_true_eq] at c3
          have hb := inb _ _ c3.1
          refine ⟨fun σ' H' => ∃ m', m' < 40 - k ∧ W m' σ' H', fun _ _ h => h, ?_⟩
          refine ⟨_, rfl, _, _, rfl, rfl, 40 - (k + 1), by omega, k + 1, by omega, rfl, by omega, rfl, rfl, ?_⟩
          rw [← mono1 (a + st) k 40 isDig c3.1 (by omega)]; exact e
        · have hend : runLen isDig 40 ((tl z).drop (a + st)) = k := by
            rw [Bool.and_eq_true, decide_eq_true_eq] at c3
            by_cases h1 : hd isDig ((tl z).drop (a + st + k)) = true
            · have h2 : ¬ ((a + st + k : Nat) : Int) < ((a + st : Nat) : Int) + 40 := fun h => c3 ⟨h1, h⟩
              have : 40 - k = 0 := by omega
              rw [this] at e
              have e : k + 0 = _ := e
              omega
            · rw [run_hd (Bool.eq_false_iff.mpr h1)] at e
              omega
          have hk0 : ¬ runLen isDig 40 ((tl z).drop (a + st)) = 0 := by
            rw [run_step hdd]; omega
          rw [if_neg hk0, hend] at hn'
          refine ⟨_, rfl, (by show 2 ≤ sizeLine; decide), fun p hp => ?_⟩
          have q := back p (st + k) (leaf_num h0 hn') hp
          rw [← Nat.add_assoc] at q
          exact q
      · have hdd' := Bool.eq_false_iff.mpr hdd
        rw [hdd']
        rw [if_pos (run_hd hdd')] at hn'
        exact iteT ⟨_, rfl, (by show 2 ≤ sizeLine; decide), fun p hp => bad hn' p hp⟩
  · have cc := Bool.eq_false_iff.mpr cc
    rw [Bool.or_eq_false_iff] at cc
    have c := of_decide_eq_false cc.1
    have c2 : hd isDig ((tl z).drop a) = false := cc.2
    refine ⟨_, rfl, ?_⟩
    let W : Nat → St → Hp → Prop := fun n σ H' => ∃ k : Nat, k ≤ 12 ∧ n = 12 - k ∧ a + k ≤ z.length ∧ σ = [some (.str z), some (.int a), some (.str (mk (((tl z).drop a).take 1))), none, none, some (.int ((a + k : Nat) : Int))] ∧ H' = H ∧
      k + runLen isLet (12 - k) ((tl z).drop (a + k)) = runLen isLet 12 ((tl z).drop a)
    refine ⟨W, ⟨12, 0, by omega, rfl, ha, rfl, rfl, by simp⟩, ?_⟩
    rintro n σ H' ⟨k, hk, rfl, hkz, rfl, rfl, e⟩
    refine tAnd_by (hd isLet ((tl z).drop (a + k))) (decide (((a + k : Nat) : Int) < (a : Int) + 12))
      (fun q h => ⟨_, rfl, _, rfl, _, rfl, _, rfl, _, _, rfl, rfl, _, rfl, z, rfl, hzs, ⟨_, rfl⟩, _, rfl, rfl, trivial, _, rfl, by rw [cutz (a + k) hkz, islow1 (hasc.drop _)]; exact h⟩)
      (fun q h => ⟨_, rfl, _, rfl, _, _, rfl, rfl, _, _, rfl, rfl, _, rfl, h⟩) ?_
    refine ite2 (fun c3 => ?_) (fun c3 => ?_)
    · rw [Bool.and_eq_true, decide_eq_true_eq] at c3
      have hb := inb _ _ c3.1
      refine ⟨fun σ' H' => ∃ m', m' < 12 - k ∧ W m' σ' H', fun _ _ h => h, ?_⟩
      refine ⟨_, rfl, _, _, rfl, rfl, 12 - (k + 1), by omega, k + 1, by omega, rfl, by omega, rfl, rfl, ?_⟩
      rw [← mono1 a k 12 isLet c3.1 (by omega)]; exact e
    · have hk0 : runLen isLet 12 ((tl z).drop a) = k := by
        rw [Bool.and_eq_true, decide_eq_true_eq] at c3
        by_cases h1 : hd isLet ((tl z).drop (a + k)) = true
        · have h2 : ¬ ((a + k : Nat) : Int) < (a : Int) + 12 := fun h => c3 ⟨h1, h⟩
          have : 12 - k = 0 := by omega
          rw [this] at e
          have e : k + 0 = _ := e
          omega
        · rw [run_hd (Bool.eq_false_iff.mpr h1)] at e
          omega
      refine ⟨_, rfl, _, rfl, rfl, _, rfl, ?_⟩
      refine ite2 (fun c3 => ?_) (fun c3 => ?_)
      · have c3 := V.int.inj (of_decide_eq_true c3)
        have hk00 : k = 0 := by omega
        subst hk00
        refine ⟨_, rfl, (by show 2 ≤ sizeLine; decide), fun p hp => ?_⟩
        refine hbad 0 (leaf_bad hk0 ?_) p hp
        have n48 : ¬ ((tl z).drop a).head? = some 48 := fun h => by
          cases e3 : (tl z).drop a with
          | nil => rw [e3] at h; exact nomatch h
          | cons x y =>
            rw [e3] at h c2
            have : x = 48 := by simpa using h
            rw [this] at c2
            exact Bool.noConfusion c2
        unfold numLen
        simp only [if_neg c, List.drop_zero, if_neg n48, run_hd c2, if_true]
      · have c3 : ¬ k = 0 := fun h0 => of_decide_eq_false (Bool.eq_false_iff.mpr c3) (by rw [h0]; rfl)
        refine ⟨_, rfl, (by show 2 ≤ sizeLine; decide), fun p hp => ?_⟩
        exact back p k (by rw [← hk0]; exact leaf_letters (by rw [hk0]; exact c3)) hp
end
end K2
namespace K2
open PySem L2
section
variable {P : Program} {w : World} {K : PySem.W.Frag} {mg : Str → Option Value} {base : Heap} {f : Addr} {fd : FuncData}
abbrev sWA : Stmt := top 34
theorem scWA : FnScope ["_law_line", "_law_still", "_law_at_here", "_law_wants", "_law_sign", "_law_wrong"] ["_law_line"] (defScope sWA) := ⟨rfl, rfl, rfl, by decide +kernel, rfl, by decide +kernel, by decide +kernel⟩
def spWA : Sp := fun vs H Q _ => ∃ (z : Str), vs = [.str z] ∧ z.length ≤ 100000 ∧ Asc (tl z) ∧ (∀ d, parse (tl z) = .ok d → ∀ H', Same H H' → Q .non H') ∧ (∀ e : Nat, parse (tl z) = .error e → ∀ H', Same H H' → Q (.int (e : Int)) H')
/-- where the law's reader stands -/
def At (z : Str) (R : Except Nat (D × Nat)) (a : Nat) (wants : Bool) (still : Nat) : Prop :=
  (∃ (ss : List (List D)) (fu : Nat), wants = true ∧ still = ss.length ∧ z.length - a < fu ∧ pmB fu ss a ((tl z).drop a) = R) ∨
  (∃ (s : List D) (ss : List (List D)) (fu : Nat), wants = false ∧ still = ss.length + 1 ∧ z.length - a < fu ∧ pmC fu (s :: ss) a ((tl z).drop a) = R) ∨
  (wants = false ∧ still = 0 ∧ ∃ d, R = .ok (d, a))
def endOf (k : Nat) (R : Except Nat (D × Nat)) : Except Nat D := match R with
  | .error e => .error e
  | .ok (d, n) => if n = k then .ok d else .error n
theorem parse_by (z : Str) : ∃ R, pmB (z.length + 1) [] 0 (tl z) = R ∧ parse (tl z) = endOf z.length R := by
  have hlen : (tl z).length = z.length := (len_tl z).symm
  refine ⟨_, rfl, ?_⟩
  unfold parse endOf
  rw [hlen] <;> rfl
variable {g1 : Addr} {gd1 : FuncData}
set_option maxHeartbeats 8000000 in
theorem ok_wa (F : Fun K "_law_wrong_at" "_law_wrong_at" sWA f fd) (mn : mg "int" = none) (ml : mg "len" = none) (G1 : FnOk P w K mg base CX0 1 g1 gd1 ["_law_line", "_law_at_here"] spLE) (b1 : Binds K gd1 ["_law_line", "_law_at_here"] []) (k1 : PySem.W.keepIn K (.ref g1) = true) (m1 : mg "_law_leaf_end" = some (.ref g1)) :
    FnOk P w K mg base CX0 2 f fd ["_law_line"] spWA := by
  refine F.ok scWA (fun vs H Q E h => ?_) (fun cdv A outer s H vs Q E hr h => ?_)
  · obtain ⟨z, rfl, _⟩ := h
    rfl
  obtain ⟨z, rfl, hz, hasc, hok, hbad⟩ := h
  have esz := sizeLine_eq
  have hzs : z.length ≤ sizeLine := by omega
  have hlen : (tl z).length = z.length := (len_tl z).symm
  refine ⟨_, pss_cons (ps_set (i := 1) scWA.nd rfl (.inl rfl) pe_int)
    (pss_cons (ps_set (i := 2) scWA.nd rfl (.inl rfl) pe_int)
    (pss_cons (ps_set (i := 3) scWA.nd rfl (.inl rfl) pe_bl)
    (pss_cons (ps_while PassesOwn.never (PW.pt (pw_or (pt_val (pv 3)) (pw_or1 (pt_cmpR op_gt (pv 1) pe_int (nomark _)))))
      (pss_cons (ps_set (i := 4) scWA.nd rfl (.inl rfl) (pe_slice sl_str (pv 0) (po_some (pv 2)) (po_some (pe_op op_add (pv 2) pe_int))))
      (pss_one (ps_if (PW.pt (pw_and (pt_val (pv 3)) (pw_and1 (pt_cmpR op_eq (pv 4) pe_str (nomark _)))))
        (pss_cons (ps_set (i := 1) scWA.nd rfl (.inl rfl) (pe_op op_add (pv 1) pe_int))
        (pss_cons (ps_set (i := 2) scWA.nd rfl (.inl rfl) (pe_op op_add (pv 2) pe_int))
        (pss_one (ps_set (i := 3) scWA.nd rfl (.inl rfl) (pe_cmpR op_ne (pe_slice sl_str (pv 0) (po_some (pv 2)) (po_some (pe_op op_add (pv 2) pe_int))) pe_str (nomark _))))))
        (pss_one (ps_if (pt_val (pv 3))
          (pss_cons (ps_asg (pe_call G1 hr rfl m1 k1 b1 .nil pass0 (pa_cons (pv 0) (pa_cons (pv 2) pa_nil))) (pg_unl (by rfl) (pgs_cons (pg_name (i := 2) scWA.nd rfl (.inl rfl)) (pgs_cons (pg_name (i := 5) scWA.nd rfl (.inl rfl)) pgs_nil))))
          (pss_cons (ps_if (pt_cmpR op_isN (pv 2) pe_non (nomark _)) (pss_one (ps_ret (pv 5))) pss_nil)
          (pss_one (ps_set (i := 3) scWA.nd rfl (.inl rfl) pe_bl))))
          (pss_one (ps_if (pt_cmpR op_eq (pv 4) pe_str (nomark _))
            (pss_cons (ps_set (i := 1) scWA.nd rfl (.inl rfl) (pe_op op_sub (pv 1) pe_int)) (pss_one (ps_set (i := 2) scWA.nd rfl (.inl rfl) (pe_op op_add (pv 2) pe_int))))
            (pss_one (ps_if (pt_cmpR op_eq (pv 4) pe_str (nomark _))
              (pss_cons (ps_set (i := 2) scWA.nd rfl (.inl rfl) (pe_op op_add (pv 2) pe_int)) (pss_one (ps_set (i := 3) scWA.nd rfl (.inl rfl) pe_bl)))
              (pss_one (ps_ret (pv 2)))))))))))))
    (pss_one (ps_ret (pe_ix ix_list (pe_lst (pa_cons pe_non (pa_cons (pv 2) pa_nil))) (pe_callTy call_int1 rfl mn (by decide +kernel) (pa_cons (pe_cmpR op_lt (pv 2) (pe_callB call_len_str rfl ml PySem.boot_len (pa_cons (pv 0) pa_nil)) (nomark _)) pa_nil)) (fun _ _ => rfl))))))), ?_⟩
  have s40 : (Str.ofString "(") = mk [40] := by decide +kernel
  have s41 : (Str.ofString ")") = mk [41] := by decide +kernel
  have s32 : (Str.ofString " ") = mk [32] := by decide +kernel
  rw [s40, s41, s32]
  have cutz : ∀ b : Nat, b ≤ z.length → cutS z (some (b : Int)) (some ((b : Int) + 1)) = mk (((tl z).drop b).take 1) := fun b hb => cut_at (n := 1) (by omega)
  obtain ⟨R, hR, hpar⟩ := parse_by z
  have err : ∀ e, R = .error e → ∀ H', Same H H' → Q (.int (e : Int)) H' := fun e he => hbad e (by rw [hpar, he]; rfl)
  let W : Nat → St → Hp → Prop := fun n σ H' => ∃ (a still : Nat) (wants : Bool) (q4 q5 : Option V), n = z.length - a ∧ a ≤ z.length ∧ σ = [some (.str z), some (.int (still : Int)), some (.int (a : Int)), some (.bl wants), q4, q5] ∧ Same H H' ∧ At z R a wants still
  refine ⟨W, ⟨z.length, 0, 0, true, none, none, rfl, Nat.zero_le _, rfl, Same.refl _, .inl ⟨[], z.length + 1, rfl, rfl, by omega, hR⟩⟩, ?_⟩
  rintro n σ H' ⟨a, still, wants, q4, q5, rfl, ha, rfl, sm, hAt⟩
  refine tOr_by wants (decide ((0 : Int) < (still : Int))) (fun k h => ⟨_, rfl, _, rfl, h⟩) (fun k h => ⟨_, rfl, _, _, rfl, rfl, _, rfl, h⟩) ?_
  have go : ∀ (a' still' : Nat) (wants' : Bool) (p4 p5 : Option V) (H2 : Hp), a < a' → a' ≤ z.length → Same H H2 → At z R a' wants' still' → ∃ m', m' < z.length - a ∧ W m' [some (.str z), some (.int (still' : Int)), some (.int (a' : Int)), some (.bl wants'), p4, p5] H2 := fun a' still' wants' p4 p5 H2 h1 h2 h3 h4 =>
    ⟨z.length - a', by omega, a', still', wants', p4, p5, rfl, h2, rfl, h3, h4⟩
  rcases hAt with ⟨ss, fu, rfl, rfl, hfu, hpm⟩ | ⟨s, ss, fu, rfl, rfl, hfu, hpm⟩ | ⟨rfl, rfl, d, hRd⟩
  · -- a datum is wanted
    refine iteT ?_
    refine ⟨fun σ' H' => ∃ m', m' < z.length - a ∧ W m' σ' H', fun _ _ h => h, ?_⟩
    obtain ⟨fu, rfl⟩ : ∃ k, fu = k + 1 := ⟨fu - 1, by omega⟩
    refine ⟨_, rfl, _, rfl, _, rfl, _, rfl, _, _, rfl, rfl, _, rfl, z, rfl, hzs, ?_⟩
    rw [cutz a ha]
    refine ⟨_, rfl, _, rfl, iteT ?_⟩
    refine ⟨_, rfl, rfl, _, rfl, ?_⟩
    rw [sign1]
    unfold pmB at hpm
    by_cases h40 : ((tl z).drop a).head? = some 40
    · have hal := head_lt h40
      rw [decide_eq_true h40]
      rw [if_pos h40, List.drop_drop] at hpm
      refine iteT ?_
      refine ⟨_, rfl, _, _, rfl, rfl, _, rfl, _, _, rfl, rfl, ?_⟩
      refine ⟨_, rfl, _, rfl, _, rfl, _, rfl, _, _, rfl, rfl, _, rfl, z, rfl, hzs, rfl, ?_⟩
      have e1 : cutS z (some ((a : Int) + 1)) (some ((a : Int) + 1 + 1)) = mk (((tl z).drop (a + 1)).take 1) := cutz (a + 1) (by omega)
      rw [e1, sign1]
      by_cases h41 : ((tl z).drop (a + 1)).head? = some 41
      · rw [decide_eq_true h41]
        rw [if_pos h41] at hpm
        exact go (a + 1) (ss.length + 1) false _ _ _ (by omega) (by omega) sm (.inr (.inl ⟨[], ss, fu, rfl, rfl, by omega, hpm⟩))
      · rw [decide_eq_false h41]
        rw [if_neg h41] at hpm
        exact go (a + 1) (ss.length + 1) true _ _ _ (by omega) (by omega) sm (.inl ⟨[] :: ss, fu, rfl, rfl, by omega, hpm⟩)
    · rw [decide_eq_false h40]
      rw [if_neg h40] at hpm
      refine iteF ?_
      refine ⟨_, rfl, _, rfl, iteT ?_⟩
      refine ⟨_, rfl, _, rfl, z, a, rfl, hz, ha, hasc, fun e m hlo p hp => ?_, fun er her p hp => ?_⟩
      · obtain ⟨_, _, _, hnl, hn0⟩ := leaf_back hlo
        rw [List.length_drop, hlen] at hnl
        refine ⟨p, _, rfl, SqL.of upd_same, rfl, _, _, rfl, _, _, rfl, rfl, ?_⟩
        refine ⟨_, rfl, rfl, _, rfl, ?_⟩
        refine iteF ?_
        rw [hlo] at hpm
        simp only [] at hpm
        cases ss with
        | nil => exact go (a + m) 0 false _ _ _ (by omega) (by omega) (sm.trans (same_new hp _)) (.inr (.inr ⟨rfl, rfl, e, hpm.symm⟩))
        | cons s ss =>
          rw [List.drop_drop] at hpm
          exact go (a + m) (ss.length + 1) false _ _ _ (by omega) (by omega) (sm.trans (same_new hp _)) (.inr (.inl ⟨_, ss, fu, rfl, rfl, by omega, hpm⟩))
      · refine ⟨p, _, rfl, SqL.of upd_same, rfl, _, _, rfl, _, _, rfl, rfl, ?_⟩
        refine ⟨_, rfl, rfl, _, rfl, ?_⟩
        refine iteT ?_
        rw [her] at hpm
        exact ⟨_, rfl, err _ hpm.symm _ (sm.trans (same_new hp _))⟩
  · -- behind a datum, within a list
    rw [decide_eq_true (by omega : (0 : Int) < ((ss.length + 1 : Nat) : Int))]
    refine iteT ?_
    refine ⟨fun σ' H' => ∃ m', m' < z.length - a ∧ W m' σ' H', fun _ _ h => h, ?_⟩
    obtain ⟨fu, rfl⟩ : ∃ k, fu = k + 1 := ⟨fu - 1, by omega⟩
    refine ⟨_, rfl, _, rfl, _, rfl, _, rfl, _, _, rfl, rfl, _, rfl, z, rfl, hzs, ?_⟩
    rw [cutz a ha]
    refine ⟨_, rfl, _, rfl, iteF (iteF ?_)⟩
    refine ⟨_, rfl, _, rfl, iteF ?_⟩
    refine ⟨_, rfl, rfl, _, rfl, ?_⟩
    rw [sign1]
    unfold pmC at hpm
    by_cases h41 : ((tl z).drop a).head? = some 41
    · have hal := head_lt h41
      rw [decide_eq_true h41]
      rw [if_pos h41] at hpm
      refine iteT ?_
      refine ⟨_, rfl, _, _, rfl, rfl, _, rfl, _, _, rfl, rfl, ?_⟩
      have es : ((ss.length + 1 : Nat) : Int) - 1 = (ss.length : Int) := by omega
      have g : ∃ m', m' < z.length - a ∧ W m' [some (.str z), some (.int (((ss.length + 1 : Nat) : Int) - 1)), some (.int ((a + 1 : Nat) : Int)), some (.bl false), some (.str (mk (((tl z).drop a).take 1))), q5] H' := by
        rw [es]
        cases ss with
        | nil => exact go (a + 1) 0 false _ _ _ (by omega) (by omega) sm (.inr (.inr ⟨rfl, rfl, _, hpm.symm⟩))
        | cons t ts =>
          simp only [List.drop_drop] at hpm
          exact go (a + 1) (ts.length + 1) false _ _ _ (by omega) (by omega) sm (.inr (.inl ⟨_, ts, fu, rfl, rfl, by omega, hpm⟩))
      exact g
    · rw [decide_eq_false h41]
      rw [if_neg h41] at hpm
      refine iteF ⟨_, rfl, rfl, _, rfl, ?_⟩
      rw [sign1]
      by_cases h32 : ((tl z).drop a).head? = some 32
      · have hal := head_lt h32
        rw [decide_eq_true h32]
        rw [if_pos h32, List.drop_drop] at hpm
        refine iteT ?_
        refine ⟨_, rfl, _, _, rfl, rfl, ?_⟩
        exact go (a + 1) (ss.length + 1) true _ _ _ (by omega) (by omega) sm (.inl ⟨s :: ss, fu, rfl, rfl, by omega, hpm⟩)
      · rw [decide_eq_false h32]
        rw [if_neg h32] at hpm
        refine iteF ?_
        exact ⟨_, rfl, err _ hpm.symm _ sm⟩
  · -- the end
    refine iteF ?_
    refine ⟨_, rfl, (by show 2 ≤ sizeLine; decide), fun p hp => ?_⟩
    refine ⟨_, rfl, _, rfl, z, rfl, hzs, _, _, rfl, rfl, .inr ⟨_, rfl, ?_⟩⟩
    rw [hRd] at hpar
    have hpar : parse (tl z) = if a = z.length then .ok d else .error a := hpar
    by_cases hn : a = z.length
    · have hlt : ¬ ((a : Int) < (z.length : Int)) := by omega
      rw [decide_eq_false hlt]
      refine ⟨p, _, _, _, rfl, rfl, SqL.of upd_same, atI_nat (j := 0) rfl, ?_⟩
      exact hok d (by rw [hpar, if_pos hn]) _ (sm.trans (same_new hp _))
    · have hlt : (a : Int) < (z.length : Int) := by omega
      rw [decide_eq_true hlt]
      refine ⟨p, _, _, _, rfl, rfl, SqL.of upd_same, atI_nat (j := 1) rfl, ?_⟩
      exact hbad a (by rw [hpar, if_neg hn]) _ (sm.trans (same_new hp _))
end
end K2
namespace K2
open PySem L2
theorem tl_cat (a b : Str) : tl (a ++ b) = tl a ++ tl b := by
  show (a.cps ++ b.cps).toList = _
  rw [Array.toList_append]
theorem len_cat (a b : Str) : (a ++ b).length = a.length + b.length := by
  show (a.cps ++ b.cps).size = _
  rw [Array.size_append]; rfl
theorem asc_cat {a b : Str} (h : Asc (tl a)) (g : Asc (tl b)) : Asc (tl (a ++ b)) := by
  rw [tl_cat]
  intro c hc
  rcases List.mem_append.mp hc with e | e
  · exact h c e
  · exact g c e
theorem asc_cut {z : Str} (h : Asc (tl z)) (lo hi : Option Int) : Asc (tl (cutS z lo hi)) := fun c hc => h c (List.mem_of_mem_drop (List.mem_of_mem_take hc))
theorem signs15 : ∀ r : Fin 15, ∃ c, atI (tl (Str.ofString "() -0123abzyAe+")) (r.1 : Int) = some c ∧ c < 128 := by
  have h : ∀ r : Fin 15, ((atI (tl (Str.ofString "() -0123abzyAe+")) (r.1 : Int)).any fun c => decide (c < 128)) = true := by decide +kernel
  intro r
  have := h r
  cases e : atI (tl (Str.ofString "() -0123abzyAe+")) (r.1 : Int) with
  | none => rw [e] at this; exact Bool.noConfusion this
  | some c =>
    rw [e] at this
    exact ⟨c, rfl, of_decide_eq_true this⟩
section
variable {P : Program} {w : World} {K : PySem.W.Frag} {mg : Str → Option Value} {base : Heap} {f : Addr} {fd : FuncData}
abbrev sBe : Stmt := top 35
theorem scBe : FnScope ["_law_purse_here", "_law_line", "_law_way", "_law_at_here", "_law_end", "_law_sign"] ["_law_purse_here", "_law_line"] (defScope sBe) := ⟨rfl, rfl, rfl, by decide +kernel, rfl, by decide +kernel, by decide +kernel⟩
def spBe : Sp := fun vs H Q _ => ∃ (p : Addr) (z : Str) (a b c : Int), vs = [.ref p, .str z] ∧ z.length ≤ 33000 ∧ Asc (tl z) ∧ H p = some (.lst (purse a b c)) ∧ PO a b c ∧ b ≤ 90000 ∧
  ∀ z' a' b', z'.length ≤ 3 * z.length + 2 → Asc (tl z') → PO a' b' c → b' ≤ b + 4 → Q (.str z') (upd H p (.lst (purse a' b' c)))
variable {g1 : Addr} {gd1 : FuncData}
set_option maxHeartbeats 8000000 in
theorem ok_be (F : Fun K "_law_bent" "_law_bent" sBe f fd) (mm : mg "min" = none) (ml : mg "len" = none) (G1 : FnOk P w K mg base CX0 2 g1 gd1 ["_law_purse_here", "_law_steps"] spTake) (b1 : Binds K gd1 ["_law_purse_here", "_law_steps"] []) (k1 : PySem.W.keepIn K (.ref g1) = true) (m1 : mg "_law_take" = some (.ref g1)) :
    FnOk P w K mg base CX0 3 f fd ["_law_purse_here", "_law_line"] spBe := by
  refine F.ok scBe (fun vs H Q E h => ?_) (fun cdv A outer s H vs Q E hr h => ?_)
  · obtain ⟨p, z, a, b, c, rfl, _⟩ := h
    rfl
  obtain ⟨p, z, a, b, c, rfl, hz, hasc, hp, po, hb, q⟩ := h
  have esz := sizeLine_eq
  have hzs : z.length ≤ sizeLine := by omega
  refine ⟨_, pss_cons (ps_set (i := 2) scBe.nd rfl (.inl rfl) (pe_call G1 hr rfl m1 k1 b1 .nil pass0 (pa_cons (pv 0) (pa_cons pe_int pa_nil))))
    (pss_cons (ps_set (i := 3) scBe.nd rfl (.inl rfl) (pe_call G1 hr rfl m1 k1 b1 .nil pass0 (pa_cons (pv 0) (pa_cons (pe_op op_add (pe_callB call_len_str rfl ml PySem.boot_len (pa_cons (pv 1) pa_nil)) pe_int) pa_nil))))
    (pss_cons (ps_set (i := 4) scBe.nd rfl (.inl rfl) (pe_callB (call_min2 rfl) rfl mm PyProof.Rows.boot_min (pa_cons (pe_callB call_len_str rfl ml PySem.boot_len (pa_cons (pv 1) pa_nil)) (pa_cons (pe_op op_add (pe_op op_add (pv 3) pe_int) (pe_call G1 hr rfl m1 k1 b1 .nil pass0 (pa_cons (pv 0) (pa_cons pe_int pa_nil)))) pa_nil))))
    (pss_cons (ps_set (i := 5) scBe.nd rfl (.inl rfl) (pe_ix ix_str pe_str (pe_call G1 hr rfl m1 k1 b1 .nil pass0 (pa_cons (pv 0) (pa_cons pe_int pa_nil))) (fun _ _ => rfl)))
    (pss_cons (ps_if (pt_cmpR op_eq (pv 2) pe_int (nomark _)) (pss_one (ps_ret (pe_op op_add_str (pe_slice sl_str (pv 1) po_none (po_some (pv 3))) (pe_slice sl_str (pv 1) (po_some (pe_op op_add (pv 3) pe_int)) po_none)))) pss_nil)
    (pss_cons (ps_if (pt_cmpR op_eq (pv 2) pe_int (nomark _)) (pss_one (ps_ret (pe_op op_add_str (pe_op op_add_str (pe_slice sl_str (pv 1) po_none (po_some (pv 3))) (pv 5)) (pe_slice sl_str (pv 1) (po_some (pv 3)) po_none)))) pss_nil)
    (pss_cons (ps_if (pt_cmpR op_eq (pv 2) pe_int (nomark _)) (pss_one (ps_ret (pe_op op_add_str (pe_op op_add_str (pe_slice sl_str (pv 1) po_none (po_some (pv 3))) (pv 5)) (pe_slice sl_str (pv 1) (po_some (pe_op op_add (pv 3) pe_int)) po_none)))) pss_nil)
    (pss_cons (ps_if (pt_cmpR op_eq (pv 2) pe_int (nomark _)) (pss_one (ps_ret (pe_op op_add_str (pe_op op_add_str (pe_op op_add_str (pe_op op_add_str (pe_slice sl_str (pv 1) po_none (po_some (pv 3))) pe_str) (pe_slice sl_str (pv 1) (po_some (pv 3)) (po_some (pv 4)))) pe_str) (pe_slice sl_str (pv 1) (po_some (pv 4)) po_none)))) pss_nil)
    (pss_cons (ps_if (pt_cmpR op_eq (pv 2) pe_int (nomark _)) (pss_one (ps_ret (pe_op op_add_str (pe_slice sl_str (pv 1) po_none (po_some (pv 4))) (pe_slice sl_str (pv 1) (po_some (pv 3)) po_none)))) pss_nil)
    (pss_one (ps_ret (pe_op op_add_str (pe_slice sl_str (pv 1) po_none (po_some (pv 3))) (pe_slice sl_str (pv 1) (po_some (pv 4)) po_none)))))))))))), ?_⟩
  refine ⟨_, rfl, p, 6, a, b, c, rfl, by decide, by decide, hp, po, by omega, fun r a1 b1' hr0 hr1 po1 hb1 => ?_⟩
  have hp1 : upd H p (.lst (purse a1 b1' c)) p = some (.lst (purse a1 b1' c)) := upd_same
  have u1 : ∀ o, upd (upd H p (.lst (purse a1 b1' c))) p o = upd H p o := fun o => upd_upd
  generalize upd H p (.lst (purse a1 b1' c)) = H1 at hp1 u1 ⊢
  refine ⟨_, rfl, _, rfl, z, rfl, hzs, _, _, rfl, rfl, p, _, a1, b1', c, rfl, by omega, by omega, hp1, po1, by omega, fun r2 a2 b2' hr20 hr21 po2 hb2 => ?_⟩
  have hp2 : upd H1 p (.lst (purse a2 b2' c)) p = some (.lst (purse a2 b2' c)) := upd_same
  have u2 : ∀ o, upd (upd H1 p (.lst (purse a2 b2' c))) p o = upd H p o := fun o => by rw [upd_upd, u1]
  generalize upd H1 p (.lst (purse a2 b2' c)) = H2 at hp2 u2 ⊢
  refine ⟨_, rfl, z, rfl, hzs, _, rfl, _, _, rfl, rfl, ?_⟩
  refine ⟨_, rfl, p, 5, a2, b2', c, rfl, by decide, by decide, hp2, po2, by omega, fun r3 a3 b3' hr30 hr31 po3 hb3 => ?_⟩
  have hp3 : upd H2 p (.lst (purse a3 b3' c)) p = some (.lst (purse a3 b3' c)) := upd_same
  have u3 : ∀ o, upd (upd H2 p (.lst (purse a3 b3' c))) p o = upd H p o := fun o => by rw [upd_upd, u2]
  generalize upd H2 p (.lst (purse a3 b3' c)) = H3 at hp3 u3 ⊢
  refine ⟨_, _, rfl, rfl, _, _, rfl, ?_⟩
  generalize (if r2 + 1 + r3 < (z.length : Int) then r2 + 1 + r3 else (z.length : Int)) = en
  refine ⟨_, rfl, p, 15, a3, b3', c, rfl, by decide, by decide, hp3, po3, by omega, fun r4 a4 b4' hr40 hr41 po4 hb4 => ?_⟩
  rw [u3]
  obtain ⟨cs, e4, hcs⟩ := signs15 ⟨r4.toNat, by omega⟩
  have hr4 : ((r4.toNat : Nat) : Int) = r4 := by omega
  rw [hr4] at e4
  refine ⟨_, _, cs, rfl, rfl, by decide, e4, ?_⟩
  have aS : Asc (tl (⟨#[cs]⟩ : Str)) := fun x hx => by
    have : x = cs := by simpa [tl] using hx
    omega
  have lS : (⟨#[cs]⟩ : Str).length = 1 := rfl
  generalize (⟨#[cs]⟩ : Str) = sg at aS lS ⊢
  have a40 : Asc (tl (Str.ofString "(")) ∧ Asc (tl (Str.ofString ")")) ∧ (Str.ofString "(").length = 1 ∧ (Str.ofString ")").length = 1 := by
    refine ⟨?_, ?_, by decide +kernel, by decide +kernel⟩
    · have : tl (Str.ofString "(") = [40] := by decide +kernel
      rw [this]; intro x hx; simp at hx; omega
    · have : tl (Str.ofString ")") = [41] := by decide +kernel
      rw [this]; intro x hx; simp at hx; omega
  obtain ⟨aL, aR, lL, lR⟩ := a40
  generalize Str.ofString "(" = pL at aL lL ⊢
  generalize Str.ofString ")" = pR at aR lR ⊢
  have fin : ∀ z', z'.length ≤ 3 * z.length + 2 → Asc (tl z') → Q (.str z') (upd H p (.lst (purse a4 b4' c))) := fun z' h1 h2 => q z' a4 b4' h1 h2 po4 (by omega)
  have lc : ∀ lo hi, (cutS z lo hi).length ≤ z.length := cutS_length z
  have ac : ∀ lo hi, Asc (tl (cutS z lo hi)) := fun lo hi => asc_cut hasc lo hi
  refine ⟨_, rfl, rfl, _, rfl, ?_⟩
  refine ite2 (fun _ => ?_) (fun _ => ?_)
  · refine ⟨_, rfl, _, rfl, _, rfl, z, rfl, hzs, ?_⟩
    refine ⟨_, rfl, _, rfl, _, _, rfl, rfl, _, rfl, z, rfl, hzs, ?_⟩
    have l1 := lc none (some r2)
    have l2 := lc (some (r2 + 1)) none
    refine ⟨_, _, rfl, rfl, by omega, fin _ (by rw [len_cat]; omega) (asc_cat (ac _ _) (ac _ _))⟩
  refine ⟨_, rfl, rfl, _, rfl, ?_⟩
  refine ite2 (fun _ => ?_) (fun _ => ?_)
  · refine ⟨_, rfl, _, rfl, _, rfl, z, rfl, hzs, ?_⟩
    have l1 := lc none (some r2)
    have l2 := lc (some r2) none
    refine ⟨_, rfl, _, _, rfl, rfl, by omega, ?_⟩
    refine ⟨_, rfl, _, rfl, _, rfl, z, rfl, hzs, ?_⟩
    refine ⟨_, _, rfl, rfl, by rw [len_cat]; omega, fin _ (by rw [len_cat, len_cat]; omega) (asc_cat (asc_cat (ac _ _) aS) (ac _ _))⟩
  refine ⟨_, rfl, rfl, _, rfl, ?_⟩
  refine ite2 (fun _ => ?_) (fun _ => ?_)
  · refine ⟨_, rfl, _, rfl, _, rfl, z, rfl, hzs, ?_⟩
    have l1 := lc none (some r2)
    have l2 := lc (some (r2 + 1)) none
    refine ⟨_, rfl, _, _, rfl, rfl, by omega, ?_⟩
    refine ⟨_, rfl, _, rfl, _, _, rfl, rfl, _, rfl, z, rfl, hzs, ?_⟩
    refine ⟨_, _, rfl, rfl, by rw [len_cat]; omega, fin _ (by rw [len_cat, len_cat]; omega) (asc_cat (asc_cat (ac _ _) aS) (ac _ _))⟩
  refine ⟨_, rfl, rfl, _, rfl, ?_⟩
  refine ite2 (fun _ => ?_) (fun _ => ?_)
  · refine ⟨_, rfl, _, rfl, _, rfl, z, rfl, hzs, ?_⟩
    have l1 := lc none (some r2)
    have l2 := lc (some r2) (some en)
    have l3 := lc (some en) none
    refine ⟨_, _, rfl, rfl, by omega, ?_⟩
    refine ⟨_, rfl, _, rfl, _, rfl, _, rfl, _, rfl, z, rfl, hzs, ?_⟩
    refine ⟨_, _, rfl, rfl, by rw [len_cat]; omega, ?_⟩
    refine ⟨_, _, rfl, rfl, by rw [len_cat, len_cat]; omega, ?_⟩
    refine ⟨_, rfl, _, rfl, _, rfl, z, rfl, hzs, ?_⟩
    refine ⟨_, _, rfl, rfl, by rw [len_cat, len_cat, len_cat]; omega, fin _ (by rw [len_cat, len_cat, len_cat, len_cat]; omega) (asc_cat (asc_cat (asc_cat (asc_cat (ac _ _) aL) (ac _ _)) aR) (ac _ _))⟩
  refine ⟨_, rfl, rfl, _, rfl, ?_⟩
  refine ite2 (fun _ => ?_) (fun _ => ?_)
  · refine ⟨_, rfl, _, rfl, _, rfl, z, rfl, hzs, ?_⟩
    refine ⟨_, rfl, _, rfl, _, rfl, z, rfl, hzs, ?_⟩
    have l1 := lc none (some en)
    have l2 := lc (some r2) none
    refine ⟨_, _, rfl, rfl, by omega, fin _ (by rw [len_cat]; omega) (asc_cat (ac _ _) (ac _ _))⟩
  · refine ⟨_, rfl, _, rfl, _, rfl, z, rfl, hzs, ?_⟩
    refine ⟨_, rfl, _, rfl, _, rfl, z, rfl, hzs, ?_⟩
    have l1 := lc none (some r2)
    have l2 := lc (some en) none
    refine ⟨_, _, rfl, rfl, by omega, fin _ (by rw [len_cat]; omega) (asc_cat (ac _ _) (ac _ _))⟩
end
end K2
namespace K2
open PySem L2
section
variable {P : Program} {w : World} {K : PySem.W.Frag} {mg : Str → Option Value} {base : Heap} {f : Addr} {fd : FuncData}
abbrev sAl : Stmt := top 36
theorem scAl : FnScope ["_law_error", "_law_got"] ["_law_error"] (defScope sAl) := ⟨rfl, rfl, rfl, by decide +kernel, rfl, by decide +kernel, by decide +kernel⟩
def spAl (C : Addr) : Sp := fun vs H Q _ => ∃ (a d : Addr) (v : V), vs = [.ref a] ∧ H a = some (ErrO (.ref C) (some d) a) ∧ H d = some (.xd [(("at" : Str), v)]) ∧ ∀ H', Same H H' → Q (.bl true) H'
variable {C c1 c2 c3 c4 c5 c6 c7 c8 : Addr}
set_option maxHeartbeats 8000000 in
theorem ok_al (F : Fun K "_law_alone" "_law_alone" sAl f fd) (mi : mg "isinstance" = none) (mv : mg "ValueError" = none) (T : ErrC K C)
    (n1 : mg "Fault" = some (.ref c1)) (n2 : mg "NoBack" = some (.ref c2)) (n3 : mg "NoKind" = some (.ref c3)) (n4 : mg "NoLevel" = some (.ref c4))
    (n5 : mg "NoLine" = some (.ref c5)) (n6 : mg "NoName" = some (.ref c6)) (n7 : mg "TooHigh" = some (.ref c7)) (n8 : mg "TooLong" = some (.ref c8)) (nB : mg "BadText" = some (.ref C))
    (i1 : PySem.W.kitOne K (.ref C) (.ref c1) = some false) (i2 : PySem.W.kitOne K (.ref C) (.ref c2) = some false) (i3 : PySem.W.kitOne K (.ref C) (.ref c3) = some false) (i4 : PySem.W.kitOne K (.ref C) (.ref c4) = some false)
    (i5 : PySem.W.kitOne K (.ref C) (.ref c5) = some false) (i6 : PySem.W.kitOne K (.ref C) (.ref c6) = some false) (i7 : PySem.W.kitOne K (.ref C) (.ref c7) = some false) (i8 : PySem.W.kitOne K (.ref C) (.ref c8) = some false)
    (iB : PySem.W.kitOne K (.ref C) (.ref C) = some true) (iV : PySem.W.kitOne K (.ref C) (.type "ValueError") = some true) :
    FnOk P w K mg base CX0 1 f fd ["_law_error"] (spAl C) := by
  refine F.ok scAl (fun vs H Q E h => ?_) (fun cdv A outer s H vs Q E hr h => ?_)
  · obtain ⟨a, d, v, rfl, _⟩ := h
    rfl
  obtain ⟨a, d, v, rfl, ha, hd, q⟩ := h
  refine ⟨_, pss_cons (ps_set (i := 1) scAl.nd rfl (.inl rfl) (pe_lst (pa_cons (pe_callB (call_isErr (C := C) T) rfl mi (by decide +kernel) (pa_cons (pv 0) (pa_cons (pe_glob (v := .ref c1) rfl n1 rfl) pa_nil)))
      (pa_cons (pe_callB (call_isErr (C := C) T) rfl mi (by decide +kernel) (pa_cons (pv 0) (pa_cons (pe_glob (v := .ref c2) rfl n2 rfl) pa_nil)))
      (pa_cons (pe_callB (call_isErr (C := C) T) rfl mi (by decide +kernel) (pa_cons (pv 0) (pa_cons (pe_glob (v := .ref c3) rfl n3 rfl) pa_nil)))
      (pa_cons (pe_callB (call_isErr (C := C) T) rfl mi (by decide +kernel) (pa_cons (pv 0) (pa_cons (pe_glob (v := .ref c4) rfl n4 rfl) pa_nil))) pa_nil))))))
    (pss_cons (ps_set (i := 1) scAl.nd rfl (.inl rfl) (pe_op op_cat (pv 1) (pe_lst (pa_cons (pe_callB (call_isErr (C := C) T) rfl mi (by decide +kernel) (pa_cons (pv 0) (pa_cons (pe_glob (v := .ref c5) rfl n5 rfl) pa_nil)))
      (pa_cons (pe_callB (call_isErr (C := C) T) rfl mi (by decide +kernel) (pa_cons (pv 0) (pa_cons (pe_glob (v := .ref c6) rfl n6 rfl) pa_nil)))
      (pa_cons (pe_callB (call_isErr (C := C) T) rfl mi (by decide +kernel) (pa_cons (pv 0) (pa_cons (pe_glob (v := .ref c7) rfl n7 rfl) pa_nil))) pa_nil))))))
    (pss_cons (ps_expr (pe_bm PySem.F.plainAttrs_list PySem.F.slot_list_append PySem.F.type_list_append mt_append (pv 1) (pa_cons (pe_callB (call_isErr (C := C) T) rfl mi (by decide +kernel) (pa_cons (pv 0) (pa_cons (pe_glob (v := .ref c8) rfl n8 rfl) pa_nil))) pa_nil)))
    (pss_one (ps_ret (pe_and (pe_callB (call_isErr (C := C) T) rfl mi (by decide +kernel) (pa_cons (pv 0) (pa_cons (pe_glob (v := .ref C) rfl nB rfl) pa_nil)))
      (pe_and (pe_callB (call_isErr (C := C) T) rfl mi (by decide +kernel) (pa_cons (pv 0) (pa_cons (pe_bltn (v := .ty "ValueError") rfl mv (by decide +kernel) rfl) pa_nil)))
      (pe_one (pe_cmpR op_notIn_seq pe_bl (pv 1) rfl)))))))), ?_⟩
  have xd : ∀ {H' : Hp}, Same H H' → ∀ dd, some d = some dd → ∃ fs, H' dd = some (.xd fs) := fun sm dd e => by
    cases e
    exact ⟨_, sm _ _ hd⟩
  refine ⟨_, rfl, a, some d, _, _, _, rfl, (.own c1), (Same.refl _) _ _ ha, xd (Same.refl _), i1, ?_⟩
  refine ⟨_, rfl, a, some d, _, _, _, rfl, (.own c2), (Same.refl _) _ _ ha, xd (Same.refl _), i2, ?_⟩
  refine ⟨_, rfl, a, some d, _, _, _, rfl, (.own c3), (Same.refl _) _ _ ha, xd (Same.refl _), i3, ?_⟩
  refine ⟨_, rfl, a, some d, _, _, _, rfl, (.own c4), (Same.refl _) _ _ ha, xd (Same.refl _), i4, ?_⟩
  refine ⟨(by show 4 ≤ sizeLine; decide), fun p1 hp1 => ?_⟩
  have sm1 := same_new hp1 (.lst [.bl false, .bl false, .bl false, .bl false])
  have h1 : upd H p1 (.lst [.bl false, .bl false, .bl false, .bl false]) p1 = _ := upd_same
  generalize upd H p1 (.lst [.bl false, .bl false, .bl false, .bl false]) = H1 at sm1 h1 ⊢
  refine ⟨_, rfl, ?_⟩
  refine ⟨_, rfl, a, some d, _, _, _, rfl, (.own c5), sm1 _ _ ha, xd sm1, i5, ?_⟩
  refine ⟨_, rfl, a, some d, _, _, _, rfl, (.own c6), sm1 _ _ ha, xd sm1, i6, ?_⟩
  refine ⟨_, rfl, a, some d, _, _, _, rfl, (.own c7), sm1 _ _ ha, xd sm1, i7, ?_⟩
  refine ⟨(by show 3 ≤ sizeLine; decide), fun p2 hp2 => ?_⟩
  have sm2 := same_new hp2 (.lst [.bl false, .bl false, .bl false])
  have h2 : upd H1 p2 (.lst [.bl false, .bl false, .bl false]) p2 = _ := upd_same
  generalize upd H1 p2 (.lst [.bl false, .bl false, .bl false]) = H2 at sm2 h2 ⊢
  refine ⟨p1, p2, _, _, rfl, rfl, sm2 _ _ h1, h2, by decide, fun p3 hp3 => ?_⟩
  have sm3 := same_new hp3 (.lst ([.bl false, .bl false, .bl false, .bl false] ++ [.bl false, .bl false, .bl false]))
  have h3 : upd H2 p3 (.lst ([.bl false, .bl false, .bl false, .bl false] ++ [.bl false, .bl false, .bl false])) p3 = _ := upd_same
  generalize upd H2 p3 (.lst ([.bl false, .bl false, .bl false, .bl false] ++ [.bl false, .bl false, .bl false])) = H3 at sm3 h3 ⊢
  have s3 : Same H H3 := (sm1.trans sm2).trans sm3
  have n3' : H p3 = none := (sm1.trans sm2).free hp3
  refine ⟨_, rfl, .inl ⟨rfl, _, SqL.of h3⟩, ?_⟩
  refine ⟨_, rfl, a, some d, _, _, _, rfl, (.own c8), s3 _ _ ha, xd s3, i8, ?_⟩
  refine ⟨p3, _, _, rfl, rfl, h3, by decide, ?_⟩
  have h4 : upd H3 p3 (.lst ([.bl false, .bl false, .bl false, .bl false] ++ [.bl false, .bl false, .bl false] ++ [.bl false])) p3 = _ := upd_same
  have s4 : Same H (upd H3 p3 (.lst ([.bl false, .bl false, .bl false, .bl false] ++ [.bl false, .bl false, .bl false] ++ [.bl false]))) := same_upd s3 n3' _
  generalize upd H3 p3 (.lst ([.bl false, .bl false, .bl false, .bl false] ++ [.bl false, .bl false, .bl false] ++ [.bl false])) = H4 at h4 s4 ⊢
  refine ⟨_, rfl, a, some d, _, _, _, rfl, (.own C), s4 _ _ ha, xd s4, iB, ?_⟩
  refine ⟨_, rfl, iteT ?_⟩
  refine ⟨_, rfl, a, some d, _, _, _, rfl, (.ty "ValueError"), s4 _ _ ha, xd s4, iV, ?_⟩
  refine ⟨_, rfl, iteT ?_⟩
  refine ⟨_, rfl, p3, _, rfl, .inl (SqL.of h4), by decide, by decide, q _ s4⟩
end
end K2
namespace K2
open PySem L2
section
variable {P : Program} {w : World} {K : PySem.W.Frag} {mg : Str → Option Value} {base : Heap} {f : Addr} {fd : FuncData}
abbrev sRt : Stmt := top 37
theorem scRt : FnScope ["_law_line", "_law_error", "_law_told", "caught", "_law_wrong"] ["_law_line"] (defScope sRt) := ⟨rfl, rfl, rfl, by decide +kernel, rfl, by decide +kernel, by decide +kernel⟩
def spRt (K : PySem.W.Frag) : Sp := fun vs H Q _ => (∃ z : Str, vs = [.str z] ∧ z.length ≤ 100000 ∧ Asc (tl z) ∧ ∀ H', Same H H' → Q (.bl true) H') ∨
  (∃ (v : V) (t : String), vs = [v] ∧ (∀ H', Same H H' → TyX K H' v (.type t)) ∧ kitB t "str" = some false ∧ ∀ H', Same H H' → Q (.bl true) H')
variable {C CS g2 g3 g4 g5 : Addr} {gd2 gd3 gd4 gd5 : FuncData}
set_option maxHeartbeats 8000000 in
theorem ok_rt (F : Fun K "_law_right" "_law_right" sRt f fd) (mi : mg "isinstance" = none) (ms : mg "str" = none) (mb : mg "bool" = none) (mS : mg "StairError" = some (.ref CS)) (T : ErrC K C) (hdC : PySem.W.hasDictIn K C = true) (noN : PySem.W.findIn K (.ref C) "at" = some none)
    (te : PySem.W.exmOne K (.ref C) (.ref CS) = some true)
    (G2 : FnOk P w K mg base (L2.CX P w) 6 g2 gd2 ["text"] (spRead K C)) (b2 : Binds K gd2 ["text"] []) (k2 : PySem.W.keepIn K (.ref g2) = true) (m2 : mg "read_data" = some (.ref g2))
    (G3 : FnOk P w K mg base CX0 2 g3 gd3 ["_law_line"] spWA) (b3 : Binds K gd3 ["_law_line"] []) (k3 : PySem.W.keepIn K (.ref g3) = true) (m3 : mg "_law_wrong_at" = some (.ref g3))
    (G4 : FnOk P w K mg base CX0 2 g4 gd4 ["value"] spDt) (b4 : Binds K gd4 ["value"] []) (k4 : PySem.W.keepIn K (.ref g4) = true) (m4 : mg "data_text" = some (.ref g4))
    (G5 : FnOk P w K mg base CX0 1 g5 gd5 ["_law_error"] (spAl C)) (b5 : Binds K gd5 ["_law_error"] []) (k5 : PySem.W.keepIn K (.ref g5) = true) (m5 : mg "_law_alone" = some (.ref g5)) :
    FnOk P w K mg base CX0 7 f fd ["_law_line"] (spRt K) := by
  refine F.ok scRt (fun vs H Q E h => ?_) (fun cdv A outer s H vs Q E hr h => ?_)
  · rcases h with ⟨z, rfl, _⟩ | ⟨v, t, rfl, _⟩ <;> rfl
  refine ⟨_, pss_cons (ps_set (i := 1) scRt.nd rfl (.inl rfl) pe_non)
    (pss_cons (ps_set (i := 2) scRt.nd rfl (.inl rfl) pe_non)
    (pss_cons (ps_try_keep (i := 3) rfl rfl scRt.nd rfl rfl rfl ⟨rfl, by decide, .inl mS⟩
      (fun W pn xe tk _ => pss_one (ps_set (i := 2) scRt.nd rfl (.inl rfl) (pe_callS G2 hr rfl m2 k2 b2 (fun σ => passAt tk σ) (pa_cons (pv 0) pa_nil))))
      (fun a oe cls d pn _ _ => pss_one (ps_set (i := 1) scRt.nd rfl (.inl rfl) (pv 3))))
    (pss_cons (ps_set (i := 4) scRt.nd rfl (.inl rfl) pe_int)
    (pss_cons (ps_if (pt_val (pe_callB call_isi rfl mi (by decide +kernel) (pa_cons (pv 0) (pa_cons (pe_bltn (v := .ty "str") rfl ms (by decide +kernel) rfl) pa_nil)))) (pss_one (ps_set (i := 4) scRt.nd rfl (.inl rfl) (pe_call G3 (hr.mono (by omega)) rfl m3 k3 b3 .nil pass0 (pa_cons (pv 0) pa_nil)))) pss_nil)
    (pss_cons (ps_if (pt_cmpR op_isN (pv 4) pe_non (nomark _)) (pss_one (ps_ret (pe_and (pe_cmpR op_isN (pv 1) pe_non (nomark _)) (pe_one (pe_cmpR op_eq (pe_call G4 (hr.mono (by omega)) rfl m4 k4 b4 .nil pass0 (pa_cons (pv 2) pa_nil)) (pv 0) (nomark _)))))) pss_nil)
    (pss_one (ps_ret (pe_and (pe_cmpR op_notN (pv 1) pe_non (nomark _)) (pe_and (pe_call G5 (hr.mono (by omega)) rfl m5 k5 b5 .nil pass0 (pa_cons (pv 1) pa_nil)) (pe_and (pe_cmpR op_eq (pe_errFld (C := C) T.ga T.gg T.ex hdC noN (pv 1)) (pv 4) (nomark _))
      (pe_one (pe_not (pe_callB call_isi rfl mi (by decide +kernel) (pa_cons (pe_errFld (C := C) T.ga T.gg T.ex hdC noN (pv 1)) (pa_cons (pe_bltn (v := .ty "bool") rfl mb (by decide +kernel) rfl) pa_nil))))))))))))))), ?_⟩
  have esz := sizeLine_eq
  rcases h with ⟨z, rfl, hz, hasc, q⟩ | ⟨v, t, rfl, hty, hk, q⟩
  · refine ⟨_, rfl, .inl ⟨z, rfl, hz, fun d hd v H1 sm rp okd => ?_, fun e he H1 sm d1 hd1 => ?_⟩⟩
    · have hsd := parse_said hd
      have hlen : (said d).length = z.length := by rw [hsd]; exact (len_tl z).symm
      refine ⟨_, rfl, _, _, _, _, true, rfl, .ty "str", .base (.str z), kit_ty (show kitB "str" "str" = some true by decide +kernel), _, rfl, iteT ?_⟩
      refine ⟨_, rfl, z, rfl, hz, hasc, fun d' hd' H2 sm2 => ?_, fun e he => ?_⟩
      · refine ⟨_, rfl, rfl, _, rfl, iteT ?_⟩
        refine ⟨_, rfl, rfl, _, rfl, iteT ?_⟩
        refine ⟨_, rfl, d, v, rfl, rp.mono (Tups.of sm2), okd, by omega, fun H3 sm3 => ?_⟩
        refine ⟨_, rfl, ?_⟩
        rw [hsd, mk_tl]
        refine ⟨rfl, ?_⟩
        rw [decide_eq_true rfl]
        exact q _ ((sm.trans sm2).trans sm3)
      · rw [hd] at he
        exact nomatch he
    · refine ⟨te, fun a ha => ?_⟩
      have hxd : upd H1 d1 (.xd [(("at" : Str), .int (e : Int))]) d1 = _ := upd_same
      have sm1 : Same H (upd H1 d1 (.xd [(("at" : Str), .int (e : Int))])) := sm.trans (same_new hd1 _)
      generalize upd H1 d1 (.xd [(("at" : Str), .int (e : Int))]) = H2 at hxd sm1 ha ⊢
      refine ⟨_, rfl, fun _ => ?_⟩
      have hda : d1 ≠ a := ne_of_none hxd ha
      have sm2 : Same H2 (upd H2 a (ErrO (.ref C) (some d1) a)) := same_new ha _
      have hea : upd H2 a (ErrO (.ref C) (some d1) a) a = some (ErrO (.ref C) (some d1) a) := upd_same
      generalize upd H2 a (ErrO (.ref C) (some d1) a) = H3 at sm2 hea ⊢
      have hx3 := sm2 _ _ hxd
      refine ⟨_, rfl, _, _, _, _, true, rfl, .ty "str", .base (.str z), kit_ty (show kitB "str" "str" = some true by decide +kernel), _, rfl, iteT ?_⟩
      refine ⟨_, rfl, z, rfl, hz, hasc, fun d' hd' => ?_, fun e' he' H4 sm4 => ?_⟩
      · rw [he] at hd'
        exact nomatch hd'
      · have ee : e' = e := by
          rw [he] at he'
          exact (Except.error.inj he').symm
        subst ee
        refine ⟨_, rfl, rfl, _, rfl, iteF ?_⟩
        refine ⟨_, rfl, rfl, _, rfl, iteT ?_⟩
        refine ⟨_, rfl, a, d1, _, rfl, sm4 _ _ hea, sm4 _ _ hx3, fun H5 sm5 => ?_⟩
        have sm45 := sm4.trans sm5
        refine ⟨_, rfl, iteT ?_⟩
        refine ⟨_, rfl, a, d1, _, rfl, sm45 _ _ hea, sm45 _ _ hx3, _, rfl, rfl, _, rfl, ?_⟩
        rw [decide_eq_true rfl]
        refine iteT ?_
        refine ⟨_, rfl, a, d1, _, rfl, sm45 _ _ hea, sm45 _ _ hx3, _, _, _, _, false, rfl, .ty "bool", .base (.int _), kit_ty (show kitB "int" "bool" = some false by decide +kernel), _, rfl, ?_⟩
        exact q _ ((sm1.trans sm2).trans sm45)
  · refine ⟨_, rfl, .inr ⟨v, t, rfl, hty H (Same.refl _), hk, fun d1 hd1 => ?_⟩⟩
    refine ⟨te, fun a ha => ?_⟩
    have hxd : upd H d1 (.xd [(("at" : Str), .int ((0 : Nat) : Int))]) d1 = _ := upd_same
    have sm1 : Same H (upd H d1 (.xd [(("at" : Str), .int ((0 : Nat) : Int))])) := same_new hd1 _
    generalize upd H d1 (.xd [(("at" : Str), .int ((0 : Nat) : Int))]) = H2 at hxd sm1 ha ⊢
    refine ⟨_, rfl, fun _ => ?_⟩
    have hda : d1 ≠ a := ne_of_none hxd ha
    have sm2 : Same H2 (upd H2 a (ErrO (.ref C) (some d1) a)) := same_new ha _
    have hea : upd H2 a (ErrO (.ref C) (some d1) a) a = some (ErrO (.ref C) (some d1) a) := upd_same
    generalize upd H2 a (ErrO (.ref C) (some d1) a) = H3 at sm2 hea ⊢
    have hx3 := sm2 _ _ hxd
    refine ⟨_, rfl, _, _, _, _, false, rfl, .ty "str", hty _ (sm1.trans sm2), kit_ty hk, _, rfl, iteF ?_⟩
    refine ⟨_, rfl, rfl, _, rfl, iteF ?_⟩
    refine ⟨_, rfl, rfl, _, rfl, iteT ?_⟩
    refine ⟨_, rfl, a, d1, _, rfl, hea, hx3, fun H5 sm5 => ?_⟩
    refine ⟨_, rfl, iteT ?_⟩
    refine ⟨_, rfl, a, d1, _, rfl, sm5 _ _ hea, sm5 _ _ hx3, _, rfl, rfl, _, rfl, ?_⟩
    rw [decide_eq_true (show V.int ((0 : Nat) : Int) = V.int 0 from rfl)]
    refine iteT ?_
    refine ⟨_, rfl, a, d1, _, rfl, sm5 _ _ hea, sm5 _ _ hx3, _, _, _, _, false, rfl, .ty "bool", .base (.int _), kit_ty (show kitB "int" "bool" = some false by decide +kernel), _, rfl, ?_⟩
    exact q _ ((sm1.trans sm2).trans sm5)
end
end K2
namespace K2
open PySem L2
theorem asc_app {a b : List Nat} (h : Asc a) (g : Asc b) : Asc (a ++ b) := fun c hc => by
  rcases List.mem_append.mp hc with e | e
  · exact h c e
  · exact g c e
theorem asc_cons {x : Nat} {b : List Nat} (h : x < 128) (g : Asc b) : Asc (x :: b) := fun c hc => by
  rcases List.mem_cons.mp hc with e | e
  · omega
  · exact g c e
theorem asc_all {p : Nat → Bool} {l : List Nat} (hp : ∀ c, p c = true → c < 128) (h : l.all p = true) : Asc l := fun c hc => hp c (List.all_eq_true.mp h c hc)
theorem let128 (c : Nat) (h : isLet c = true) : c < 128 := by
  have : 97 ≤ c ∧ c ≤ 122 := by simpa using h
  omega
theorem dig128' (c : Nat) (h : isDig c = true) : c < 128 := by
  have : 48 ≤ c ∧ c ≤ 57 := by simpa using h
  omega
theorem asc_num {n : Int} (h : numOk n = true) : Asc (txtN n) := by
  unfold numOk at h
  simp only [Bool.and_eq_true] at h
  have h := h.2.2.2
  split at h
  · rename_i h45
    have hd : ((txtN n).drop 1).all isDig = true := by
      simp only [Bool.and_eq_true] at h
      exact h.1.1.2
    generalize txtN n = l at h45 hd
    cases l with
    | nil => exact nomatch h45
    | cons x r =>
      have : x = 45 := by simpa using h45
      exact asc_cons (by omega) (asc_all dig128' hd)
  · rw [Bool.or_eq_true] at h
    rcases h with h | h
    · rw [of_decide_eq_true h]
      intro c hc
      simp at hc
      omega
    · simp only [Bool.and_eq_true] at h
      exact asc_all dig128' h.1.1.2
mutual
theorem asc_said : ∀ d : D, okD d = true → Asc (said d)
  | .bl b, _ => by
    cases b
    · intro c hc
      simp [said, txtB, noT] at hc
      omega
    · intro c hc
      simp [said, txtB, yesT] at hc
      omega
  | .num n, h => asc_num h
  | .wd s, h => by
    unfold okD wdOk at h
    simp only [Bool.and_eq_true] at h
    exact asc_all let128 h.1.1.1.2
  | .lst ds, h => asc_cons (by decide) (asc_app (asc_sl ds h) (fun c hc => by simp at hc; omega))
theorem asc_sl : ∀ ds : List D, okL ds = true → Asc (sl ds)
  | [], _ => fun c hc => by cases hc
  | d :: r, h => by
    have h : (okD d && okL r) = true := h
    rw [Bool.and_eq_true] at h
    exact asc_app (asc_said d h.1) (asc_sr r h.2)
theorem asc_sr : ∀ ds : List D, okL ds = true → Asc (sr ds)
  | [], _ => fun c hc => by cases hc
  | d :: r, h => by
    have h : (okD d && okL r) = true := h
    rw [Bool.and_eq_true] at h
    exact asc_cons (by decide) (asc_app (asc_said d h.1) (asc_sr r h.2))
end
end K2
namespace K2
open PySem L2
theorem Same.sb {p : Addr} {H A B : Hp} (s : Same H A) (n : H p = none) (h : SB p A B) : Same H B := fun b o e => h b o (ne_of_none e n) (s b o e)
def Thing (K : PySem.W.Frag) (H : Hp) (y : V) : Prop := (∃ z : Str, y = .str z ∧ z.length ≤ 100000 ∧ Asc (tl z)) ∨ (∃ t : String, (∀ H', Same H H' → TyX K H' y (.type t)) ∧ kitB t "str" = some false)
theorem Thing.mono {K : PySem.W.Frag} {H H' : Hp} {y : V} (h : Thing K H y) (s : Same H H') : Thing K H' y := by
  rcases h with h | ⟨t, h, g⟩
  · exact .inl h
  · exact .inr ⟨t, fun H2 s2 => h H2 (s.trans s2), g⟩
theorem Thing.right {K : PySem.W.Frag} {H : Hp} {y : V} {Q : VK} {E : XK} (h : Thing K H y) (q : ∀ H', Same H H' → Q (.bl true) H') : spRt K [y] H Q E := by
  rcases h with ⟨z, rfl, h, g⟩ | ⟨t, h, g⟩
  · exact .inl ⟨z, rfl, h, g, q⟩
  · exact .inr ⟨y, t, rfl, h, g, q⟩
def thingB : V → Bool
  | .str z => decide (z.length ≤ 100) && (tl z).all fun c => decide (c < 128)
  | .non => true
  | .int _ => true
  | .bl _ => true
  | _ => false
theorem thing_of {K : PySem.W.Frag} {H : Hp} {y : V} (h : thingB y = true) : Thing K H y := by
  cases y with
  | str z =>
    have h : (decide (z.length ≤ 100) && (tl z).all fun c => decide (c < 128)) = true := h
    rw [Bool.and_eq_true] at h
    have h1 := of_decide_eq_true h.1
    exact .inl ⟨z, rfl, by omega, fun c hc => of_decide_eq_true (List.all_eq_true.mp h.2 c hc)⟩
  | non => exact .inr ⟨"NoneType", fun _ _ => .base .non, by decide +kernel⟩
  | int i => exact .inr ⟨"int", fun _ _ => .base (.int i), by decide +kernel⟩
  | bl b => exact .inr ⟨"bool", fun _ _ => .base (.bl b), by decide +kernel⟩
  | _ => exact Bool.noConfusion h
def L : Nat → Nat
  | 0 => 1172
  | j + 1 => 3 * L j + 2
theorem L_le {j : Nat} (h : j ≤ 3) : L j ≤ 31670 := by
  have : j = 0 ∨ j = 1 ∨ j = 2 ∨ j = 3 := by omega
  rcases this with rfl | rfl | rfl | rfl <;> decide
theorem L_lt {j : Nat} (h : j ≤ 2) : L j ≤ 10556 := by
  have : j = 0 ∨ j = 1 ∨ j = 2 := by omega
  rcases this with rfl | rfl | rfl <;> decide
theorem rep_facts {z : Str} {n : Int} {c : Nat} (h : z.cps.toList = List.replicate n.toNat c) (hc : c < 128) (hn : n ≤ 100) : Asc (tl z) ∧ z.length ≤ 100 := by
  constructor
  · intro x hx
    have hx : x ∈ List.replicate n.toNat c := by rw [← h]; exact hx
    have := (List.mem_replicate.mp hx).2
    omega
  · rw [len_tl]
    show z.cps.toList.length ≤ 100
    rw [h, List.length_replicate]
    omega
def spLaw (K : PySem.W.Frag) : Sp := fun vs H Q _ => ∃ (a : Addr) (ns : List Int), vs = [.ref a] ∧ SqL K H a (ns.map V.int) ∧ ns.length ≤ 63 ∧ ∀ H', Q (.bl true) H'
section
variable {P : Program} {w : World} {K : PySem.W.Frag} {mg : Str → Option Value} {base : Heap} {f : Addr} {fd : FuncData} {g1 g3 g7 g8 gA gB gC : Addr} {gd1 gd3 gd7 gd8 gdA gdB gdC : FuncData}
abbrev sLaw : Stmt := top 38
theorem scLaw : FnScope ["_law_script", "_law_cell", "_law_purse_here", "_law_line", "_law_turn", "_law_steps", "_law_rows", "_law_row", "_law_thing"] ["_law_script"] (defScope sLaw) := ⟨rfl, rfl, rfl, by decide +kernel, rfl, by decide +kernel, by decide +kernel⟩
set_option maxHeartbeats 16000000 in
theorem ok_law (F : Fun K "law" "law" sLaw f fd) (mr : mg "range" = none)
    (G1 : FnOk P w K mg base CX0 5 g1 gd1 ["_law_item"] (spSaid 4)) (b1 : Binds K gd1 ["_law_item"] []) (k1 : PySem.W.keepIn K (.ref g1) = true) (m1 : mg "_law_said" = some (.ref g1))
    (G3 : FnOk P w K mg base CX0 1 g3 gd3 ["_law_script", "_law_k"] (spAt K)) (b3 : Binds K gd3 ["_law_script", "_law_k"] []) (k3 : PySem.W.keepIn K (.ref g3) = true) (m3 : mg "_law_at" = some (.ref g3))
    (G7 : FnOk P w K mg base CX0 2 g7 gd7 ["_law_purse_here", "_law_steps"] spTake) (b7 : Binds K gd7 ["_law_purse_here", "_law_steps"] []) (k7 : PySem.W.keepIn K (.ref g7) = true) (m7 : mg "_law_take" = some (.ref g7))
    (G8 : FnOk P w K mg base CX0 2 g8 gd8 ["_law_cell", "_law_k"] spPur) (b8 : Binds K gd8 ["_law_cell", "_law_k"] []) (k8 : PySem.W.keepIn K (.ref g8) = true) (m8 : mg "_law_purse" = some (.ref g8))
    (GA : FnOk P w K mg base CX0 6 gA gdA ["_law_purse_here", "_law_deep"] (spDat 4)) (bA : Binds K gdA ["_law_purse_here", "_law_deep"] []) (kA : PySem.W.keepIn K (.ref gA) = true) (mA : mg "_law_datum" = some (.ref gA))
    (GB : FnOk P w K mg base CX0 7 gB gdB ["_law_line"] (spRt K)) (bB : Binds K gdB ["_law_line"] []) (kB : PySem.W.keepIn K (.ref gB) = true) (mB : mg "_law_right" = some (.ref gB))
    (GC : FnOk P w K mg base CX0 3 gC gdC ["_law_purse_here", "_law_line"] spBe) (bC : Binds K gdC ["_law_purse_here", "_law_line"] []) (kC : PySem.W.keepIn K (.ref gC) = true) (mC : mg "_law_bent" = some (.ref gC)) :
    FnOk P w K mg base CX0 8 f fd ["_law_script"] (spLaw K) := by
  refine F.ok scLaw (fun vs H Q E h => ?_) (fun cdv A outer s H vs Q E hr h => ?_)
  · obtain ⟨a, ns, rfl, _⟩ := h
    rfl
  obtain ⟨sa, ns, rfl, hS, h63, q⟩ := h
  refine ⟨_, pss_cons (ps_for PassesOwn.never rfl (pi_list (pe_op op_cat (pe_slice sl_list (pv 0) po_none (po_some pe_int)) (pe_lst (pa_cons (pe_call G3 (hr.mono (by omega)) rfl m3 k3 b3 .nil pass0 (pa_cons (pv 0) (pa_cons pe_int pa_nil))) pa_nil)))) (pg_name (i := 1) scLaw.nd rfl (Or.inl rfl))
      (pss_cons (ps_set (i := 2) scLaw.nd rfl (.inl rfl) (pe_call G8 (hr.mono (by omega)) rfl m8 k8 b8 .nil pass0 (pa_cons (pv 1) (pa_cons pe_int pa_nil))))
      (pss_cons (ps_set (i := 3) scLaw.nd rfl (.inl rfl) (pe_call G1 (hr.mono (by omega)) rfl m1 k1 b1 .nil pass0 (pa_cons (pe_call GA (hr.mono (by omega)) rfl mA kA bA .nil pass0 (pa_cons (pv 2) (pa_cons (pe_call G7 (hr.mono (by omega)) rfl m7 k7 b7 .nil pass0 (pa_cons (pv 2) (pa_cons pe_int pa_nil))) pa_nil))) pa_nil)))
      (pss_cons (ps_for PassesOwn.never rfl (pi_range1 rfl mr (pa_cons (pe_op op_add pe_int (pe_call G7 (hr.mono (by omega)) rfl m7 k7 b7 .nil pass0 (pa_cons (pv 2) (pa_cons pe_int pa_nil)))) pa_nil)) (pg_name (i := 4) scLaw.nd rfl (Or.inl rfl))
          (pss_one (ps_set (i := 3) scLaw.nd rfl (.inl rfl) (pe_call GC (hr.mono (by omega)) rfl mC kC bC .nil pass0 (pa_cons (pv 2) (pa_cons (pv 3) pa_nil))))))
      (pss_cons (ps_if (pt_not (pt_val (pe_call GB hr rfl mB kB bB .nil pass0 (pa_cons (pv 3) pa_nil)))) (pss_one (ps_ret pe_bl)) pss_nil)
      (pss_cons (ps_set (i := 5) scLaw.nd rfl (.inl rfl) (pe_op op_add pe_int (pe_call G7 (hr.mono (by omega)) rfl m7 k7 b7 .nil pass0 (pa_cons (pv 2) (pa_cons pe_int pa_nil)))))
      (pss_cons (ps_set (i := 6) scLaw.nd rfl (.inl rfl) (pe_lst (pa_cons (pe_op op_mulS pe_str (pv 5)) (pa_cons (pe_op op_add_str pe_str (pe_op op_mulS pe_str (pv 5))) (pa_cons (pe_op op_add_str (pe_op op_add_str pe_str (pe_op op_mulS pe_str (pv 5))) pe_str) (pa_cons (pe_op op_mulS pe_str (pe_op op_sub (pv 5) pe_int)) pa_nil))))))
      (pss_one (ps_for PassesOwn.never rfl (pi_list (pe_op op_cat (pv 6) (pe_lst (pa_cons (pe_op op_add_str pe_str (pe_op op_mulS pe_str (pe_op op_sub (pv 5) pe_int))) pa_nil)))) (pg_name (i := 7) scLaw.nd rfl (Or.inl rfl))
          (pss_one (ps_if (pt_not (pt_val (pe_call GB hr rfl mB kB bB .nil pass0 (pa_cons (pv 7) pa_nil)))) (pss_one (ps_ret pe_bl)) pss_nil)))))))))))
    (pss_cons (ps_set (i := 6) scLaw.nd rfl (.inl rfl) (pe_lst (pa_cons pe_str (pa_cons pe_str (pa_cons pe_str (pa_cons pe_str (pa_cons pe_str (pa_cons pe_str (pa_cons pe_str (pa_cons pe_str (pa_cons pe_str (pa_cons pe_str (pa_cons pe_str (pa_cons pe_str (pa_cons pe_str (pa_cons pe_str pa_nil))))))))))))))))
    (pss_cons (ps_set (i := 6) scLaw.nd rfl (.inl rfl) (pe_op op_cat (pv 6) (pe_lst (pa_cons pe_str (pa_cons pe_str (pa_cons pe_str (pa_cons pe_str (pa_cons pe_str (pa_cons pe_str pa_nil)))))))))
    (pss_cons (ps_for PassesOwn.never rfl (pi_list (pe_op op_cat (pv 6) (pe_lst (pa_cons pe_str (pa_cons pe_str (pa_cons pe_non (pa_cons pe_int (pa_cons pe_bl (pa_cons (pe_tup (pa_cons pe_str pa_nil)) (pa_cons (pe_lst (pa_cons pe_str pa_nil)) pa_nil)))))))))) (pg_name (i := 8) scLaw.nd rfl (Or.inl rfl))
          (pss_one (ps_if (pt_not (pt_val (pe_call GB hr rfl mB kB bB .nil pass0 (pa_cons (pv 8) pa_nil)))) (pss_one (ps_ret pe_bl)) pss_nil)))
    (pss_one (ps_ret pe_bl))))), ?_⟩
  have esz := sizeLine_eq
  refine ⟨_, rfl, 10, rfl, sa, _, rfl, hS, fun p1 hp1 => ?_⟩
  have hints : ∀ y ∈ cutV (ns.map V.int) none (some 10), ∃ c, y = V.int c := fun y hy => by
    have h1 := List.mem_of_mem_drop (List.mem_of_mem_take hy)
    obtain ⟨c, _, e⟩ := List.mem_map.mp h1
    exact ⟨c, e.symm⟩
  have hcl : (cutV (ns.map V.int) none (some 10)).length ≤ 63 := by
    have := cutV_length (ns.map V.int) none (some 10)
    rw [List.length_map] at this
    omega
  generalize cutV (ns.map V.int) none (some 10) = cs at hints hcl ⊢
  refine ⟨_, rfl, sa, ns, rfl, (same_new hp1 _).seq hS, fun x => ?_⟩
  refine ⟨(by show 1 ≤ sizeLine; decide), fun p2 hp2 => ?_⟩
  refine ⟨p1, p2, cs, [.int x], rfl, rfl, (by rw [upd_ne (ne_of_none upd_same hp2)]; exact upd_same), upd_same, (by show cs.length + 1 ≤ _; omega), fun LL hLL => ?_⟩
  have hLLs : upd (upd (upd H p1 (.lst cs)) p2 (.lst [.int x])) LL (.lst (cs ++ [.int x])) LL = some (.lst (cs ++ [.int x])) := upd_same
  generalize upd (upd (upd H p1 (.lst cs)) p2 (.lst [.int x])) LL (.lst (cs ++ [.int x])) = H3 at hLLs ⊢
  refine ⟨LL, rfl, ⟨_, SqL.of hLLs⟩, for_list (xs := cs ++ [.int x]) (fun i σ H' => ∃ r1 r2 r3 r4 r5 r6 r7 r8, σ = [some (.ref sa), r1, r2, r3, r4, r5, r6, r7, r8] ∧ Same H3 H') ⟨_, _, _, _, _, _, _, _, rfl, Same.refl _⟩ (fun i σ H' _ h => by
    obtain ⟨_, _, _, _, _, _, _, _, _, sm⟩ := h
    exact SqL.of (sm _ _ hLLs)) ?_ ?_⟩
  · rintro i y σ H' hy ⟨r1, r2, r3, r4, r5, r6, r7, r8, rfl, sm⟩
    obtain ⟨c, rfl⟩ : ∃ c, y = V.int c := by
      rcases List.mem_append.mp (List.mem_of_getElem? hy) with h | h
      · exact hints y h
      · exact ⟨x, by simpa using h⟩
    refine ⟨_, rfl, c, rfl, fun a0 x0 p po hp => ?_⟩
    have hp3 : H3 p = none := sm.free hp
    have hpp : upd H' p (.lst (purse a0 0 x0)) p = some (.lst (purse a0 0 x0)) := upd_same
    have sm4 : Same H3 (upd H' p (.lst (purse a0 0 x0))) := sm.trans (same_new hp _)
    generalize upd H' p (.lst (purse a0 0 x0)) = H4 at hpp sm4 ⊢
    refine ⟨_, rfl, _, rfl, p, 4, a0, 0, x0, rfl, by decide, by decide, hpp, po, by decide, fun r a1 b1' hr0 hr1 po1 hb1 => ?_⟩
    have hp5 : upd H4 p (.lst (purse a1 b1' x0)) p = some (.lst (purse a1 b1' x0)) := upd_same
    have sm5 : Same H3 (upd H4 p (.lst (purse a1 b1' x0))) := same_upd sm4 hp3 _
    generalize upd H4 p (.lst (purse a1 b1' x0)) = H5 at hp5 sm5 ⊢
    obtain ⟨m, rfl⟩ : ∃ m : Nat, r = (m : Int) := ⟨r.toNat, by omega⟩
    have hTm : Td m ≤ 80 ∧ Wd m ≤ 1172 := by
      have : m = 0 ∨ m = 1 ∨ m = 2 ∨ m = 3 := by omega
      rcases this with rfl | rfl | rfl | rfl <;> decide
    refine ⟨p, m, a1, b1', x0, rfl, by omega, hp5, po1, by omega, fun d v H6 a2 b2' sb6 hp6 po2 hb2 rp ok dp sd => ?_⟩
    have sm6 : Same H3 H6 := Same.sb sm5 hp3 sb6
    refine ⟨d, v, rfl, rp, ok, by omega, by omega, fun H7 sm67 => ?_⟩
    have hp7 := sm67 _ _ hp6
    have sm7 := sm6.trans sm67
    refine ⟨_, rfl, p, 3, a2, b2', x0, rfl, by decide, by decide, hp7, po2, by omega, fun r3 a3 b3' hr30 hr31 po3 hb3 => ?_⟩
    have hp8 : upd H7 p (.lst (purse a3 b3' x0)) p = some (.lst (purse a3 b3' x0)) := upd_same
    have sm8 : Same H3 (upd H7 p (.lst (purse a3 b3' x0))) := same_upd sm7 hp3 _
    generalize upd H7 p (.lst (purse a3 b3' x0)) = H8 at hp8 sm8 ⊢
    have asd := asc_said d ok
    have lsd : (mk (said d)).length ≤ 1172 := by rw [len_mk]; omega
    have asd : Asc (tl (mk (said d))) := asd
    generalize mk (said d) = z0 at asd lsd ⊢
    refine ⟨_, _, rfl, rfl, _, rfl, by omega, by omega, for_range (fun j σ H'' => ∃ (z : Str) (a b : Int) (q1 q4 q5 q6 q7 q8 : Option V), σ = [some (.ref sa), q1, some (.ref p), some (.str z), q4, q5, q6, q7, q8] ∧ H'' p = some (.lst (purse a b x0)) ∧ PO a b x0 ∧ b ≤ 100 + 4 * (j : Int) ∧
      z.length ≤ L j ∧ Asc (tl z) ∧ Same H3 H'') ⟨z0, a3, b3', _, _, _, _, _, _, rfl, hp8, po3, by omega, lsd, asd, sm8⟩ ?_ ?_⟩
    · rintro j σ H9 hj ⟨z, a, b, q1, q4, q5, q6, q7, q8, rfl, hp9, po9, hb9, lz, az, sm9⟩
      have hj3 : j ≤ 2 := by omega
      have hL := L_lt hj3
      refine ⟨_, rfl, _, rfl, p, z, a, b, x0, rfl, by omega, az, hp9, po9, by omega, fun z' a' b' lz' az' po' hb' => ?_⟩
      exact ⟨z', a', b', _, _, _, _, _, _, rfl, upd_same, po', by omega, (show z'.length ≤ 3 * L j + 2 by omega), az', same_upd sm9 hp3 _⟩
    · rintro σ H9 ⟨z, a, b, q1, q4, q5, q6, q7, q8, rfl, hp9, po9, hb9, lz, az, sm9⟩
      have hL := L_le (show (1 + r3).toNat ≤ 3 by omega)
      refine ⟨_, rfl, .inl ⟨z, rfl, by omega, az, fun H10 sm10 => ⟨_, rfl, iteF ?_⟩⟩⟩
      have hp10 := sm10 _ _ hp9
      have sm10' := sm9.trans sm10
      refine ⟨_, rfl, p, 5, a, b, x0, rfl, by decide, by decide, hp10, po9, by omega, fun r5 a5 b5' hr50 hr51 po5 hb5 => ?_⟩
      have sm11 : Same H3 (upd H10 p (.lst (purse a5 b5' x0))) := same_upd sm10' hp3 _
      generalize upd H10 p (.lst (purse a5 b5' x0)) = H11 at sm11 ⊢
      refine ⟨_, _, rfl, rfl, ?_⟩
      refine ⟨_, rfl, _, 55, _, rfl, by decide +kernel, rfl, by omega, by omega, fun z1 hz1 => ?_⟩
      obtain ⟨a1z, l1z⟩ := rep_facts hz1 (by decide) (by omega)
      refine ⟨_, rfl, _, 49, _, rfl, by decide +kernel, rfl, by omega, by omega, fun z2 hz2 => ?_⟩
      obtain ⟨a2z, l2z⟩ := rep_facts hz2 (by decide) (by omega)
      have lit : ∀ (y : Str), thingB (.str y) = true → Asc (tl y) ∧ y.length ≤ 100 := fun y h => by
        have h : (decide (y.length ≤ 100) && (tl y).all fun c => decide (c < 128)) = true := h
        rw [Bool.and_eq_true] at h
        exact ⟨fun c hc => of_decide_eq_true (List.all_eq_true.mp h.2 c hc), of_decide_eq_true h.1⟩
      obtain ⟨aM, lM⟩ := lit (Str.ofString "-") (by decide +kernel)
      obtain ⟨aP, lP⟩ := lit (Str.ofString "(a ") (by decide +kernel)
      obtain ⟨aR, lR⟩ := lit (Str.ofString ")") (by decide +kernel)
      obtain ⟨aL, lL⟩ := lit (Str.ofString "(") (by decide +kernel)
      refine ⟨_, _, rfl, rfl, by omega, ?_⟩
      refine ⟨_, rfl, _, 57, _, rfl, by decide +kernel, rfl, by omega, by omega, fun z3 hz3 => ?_⟩
      obtain ⟨a3z, l3z⟩ := rep_facts hz3 (by decide) (by omega)
      refine ⟨_, _, rfl, rfl, by omega, ?_⟩
      refine ⟨_, _, rfl, rfl, by rw [len_cat]; omega, ?_⟩
      refine ⟨_, rfl, _, _, rfl, rfl, _, 98, _, rfl, by decide +kernel, rfl, by omega, by omega, fun z4 hz4 => ?_⟩
      obtain ⟨a4z, l4z⟩ := rep_facts hz4 (by decide) (by omega)
      have A2 := asc_cat aM a2z
      have L2' : (Str.ofString "-" ++ z2).length ≤ 1000 := by rw [len_cat]; omega
      have A3 := asc_cat (asc_cat aP a3z) aR
      have L3' : (Str.ofString "(a " ++ z3 ++ Str.ofString ")").length ≤ 1000 := by rw [len_cat, len_cat]; omega
      generalize Str.ofString "-" ++ z2 = y2 at A2 L2' ⊢
      generalize Str.ofString "(a " ++ z3 ++ Str.ofString ")" = y3 at A3 L3' ⊢
      refine ⟨(by show 4 ≤ sizeLine; decide), fun p4 hp4 => ?_⟩
      have h4 : upd H11 p4 (.lst [.str z1, .str y2, .str y3, .str z4]) p4 = some (.lst [.str z1, .str y2, .str y3, .str z4]) := upd_same
      have sm12 : Same H3 (upd H11 p4 (.lst [.str z1, .str y2, .str y3, .str z4])) := sm11.trans (same_new hp4 _)
      generalize upd H11 p4 (.lst [.str z1, .str y2, .str y3, .str z4]) = H12 at h4 sm12 ⊢
      refine ⟨_, rfl, ?_⟩
      refine ⟨_, rfl, _, _, rfl, rfl, _, 99, _, rfl, by decide +kernel, rfl, by omega, by omega, fun z5 hz5 => ?_⟩
      obtain ⟨a5z, l5z⟩ := rep_facts hz5 (by decide) (by omega)
      refine ⟨_, _, rfl, rfl, by omega, ?_⟩
      have A5 := asc_cat aL a5z
      have L5' : (Str.ofString "(" ++ z5).length ≤ 1000 := by rw [len_cat]; omega
      generalize Str.ofString "(" ++ z5 = y5 at A5 L5' ⊢
      refine ⟨(by show 1 ≤ sizeLine; decide), fun p5 hp5' => ?_⟩
      have h5 : upd H12 p5 (.lst [.str y5]) p5 = some (.lst [.str y5]) := upd_same
      have h45 := (same_new hp5' (.lst [.str y5])) _ _ h4
      have sm13 : Same H3 (upd H12 p5 (.lst [.str y5])) := sm12.trans (same_new hp5' _)
      generalize upd H12 p5 (.lst [.str y5]) = H13 at h5 h45 sm13 ⊢
      refine ⟨p4, p5, _, _, rfl, rfl, h45, h5, (by show 4 + 1 ≤ sizeLine; decide), fun p6 hp6' => ?_⟩
      have h6 : upd H13 p6 (.lst ([.str z1, .str y2, .str y3, .str z4] ++ [.str y5])) p6 = some (.lst ([.str z1, .str y2, .str y3, .str z4] ++ [.str y5])) := upd_same
      have sm14 : Same H3 (upd H13 p6 (.lst ([.str z1, .str y2, .str y3, .str z4] ++ [.str y5]))) := sm13.trans (same_new hp6' _)
      generalize upd H13 p6 (.lst ([.str z1, .str y2, .str y3, .str z4] ++ [.str y5])) = H14 at h6 sm14 ⊢
      refine ⟨p6, rfl, ⟨_, SqL.of h6⟩, for_list (xs := [.str z1, .str y2, .str y3, .str z4] ++ [.str y5]) (fun i σ H' => ∃ r1 r2 r3 r4 r5 r6 r7 r8, σ = [some (.ref sa), r1, r2, r3, r4, r5, r6, r7, r8] ∧ Same H14 H') ⟨_, _, _, _, _, _, _, _, rfl, Same.refl _⟩ (fun i σ H' _ h => by
        obtain ⟨_, _, _, _, _, _, _, _, _, sm⟩ := h
        exact SqL.of (sm _ _ h6)) ?_ ?_⟩
      · rintro i y σ H15 hy ⟨r1, r2, r3, r4, r5, r6, r7, r8, rfl, sm15⟩
        have hy : y ∈ [V.str z1, V.str y2, V.str y3, V.str z4, V.str y5] := List.mem_of_getElem? hy
        have hT : Thing K H15 y := by
          simp only [List.mem_cons, List.not_mem_nil, or_false] at hy
          rcases hy with rfl | rfl | rfl | rfl | rfl
          · exact .inl ⟨z1, rfl, by omega, a1z⟩
          · exact .inl ⟨y2, rfl, by omega, A2⟩
          · exact .inl ⟨y3, rfl, by omega, A3⟩
          · exact .inl ⟨z4, rfl, by omega, a4z⟩
          · exact .inl ⟨y5, rfl, by omega, A5⟩
        rcases hT with ⟨z, rfl, lz, az⟩ | ⟨t, ty, kb⟩
        · exact ⟨_, rfl, .inl ⟨z, rfl, lz, az, fun H16 sm16 => ⟨_, rfl, iteF ⟨_, _, _, _, _, _, _, _, rfl, sm15.trans sm16⟩⟩⟩⟩
        · exact ⟨_, rfl, .inr ⟨y, t, rfl, ty, kb, fun H16 sm16 => ⟨_, rfl, iteF ⟨_, _, _, _, _, _, _, _, rfl, sm15.trans sm16⟩⟩⟩⟩
      · rintro σ H15 ⟨r1, r2, r3, r4, r5, r6, r7, r8, rfl, sm15⟩
        exact ⟨_, _, _, _, _, _, _, _, rfl, sm14.trans sm15⟩
  · rintro σ H4 ⟨r1, r2, r3, r4, r5, r6, r7, r8, rfl, sm⟩
    refine ⟨(by show 14 ≤ sizeLine; decide), fun q1 hq1 => ?_⟩
    have g1 : upd H4 q1 (.lst [V.str (Str.ofString ""), V.str (Str.ofString " "), V.str (Str.ofString "("), V.str (Str.ofString "()"), V.str (Str.ofString "( )"), V.str (Str.ofString "(a )"), V.str (Str.ofString "( a)"), V.str (Str.ofString "(a  b)"), V.str (Str.ofString "a b"), V.str (Str.ofString "(a) "), V.str (Str.ofString "-"), V.str (Str.ofString "-0"), V.str (Str.ofString "00"), V.str (Str.ofString "01")]) q1 = _ := upd_same
    generalize upd H4 q1 (.lst [V.str (Str.ofString ""), V.str (Str.ofString " "), V.str (Str.ofString "("), V.str (Str.ofString "()"), V.str (Str.ofString "( )"), V.str (Str.ofString "(a )"), V.str (Str.ofString "( a)"), V.str (Str.ofString "(a  b)"), V.str (Str.ofString "a b"), V.str (Str.ofString "(a) "), V.str (Str.ofString "-"), V.str (Str.ofString "-0"), V.str (Str.ofString "00"), V.str (Str.ofString "01")]) = H5 at g1 ⊢
    refine ⟨_, rfl, ?_⟩
    refine ⟨(by show 6 ≤ sizeLine; decide), fun q2 hq2 => ?_⟩
    refine ⟨q1, q2, _, _, rfl, rfl, (same_new hq2 _) _ _ g1, upd_same, (by show 14 + 6 ≤ sizeLine; decide), fun q3 hq3 => ?_⟩
    have g3 : upd (upd H5 q2 (.lst [V.str (Str.ofString "(1 -02)"), V.str (Str.ofString "(()"), V.str (Str.ofString "())"), V.str (Str.ofString "yes"), V.str (Str.ofString "yesno"), V.str (Str.ofString "(yes no)")])) q3 (.lst ([V.str (Str.ofString ""), V.str (Str.ofString " "), V.str (Str.ofString "("), V.str (Str.ofString "()"), V.str (Str.ofString "( )"), V.str (Str.ofString "(a )"), V.str (Str.ofString "( a)"), V.str (Str.ofString "(a  b)"), V.str (Str.ofString "a b"), V.str (Str.ofString "(a) "), V.str (Str.ofString "-"), V.str (Str.ofString "-0"), V.str (Str.ofString "00"), V.str (Str.ofString "01")] ++ [V.str (Str.ofString "(1 -02)"), V.str (Str.ofString "(()"), V.str (Str.ofString "())"), V.str (Str.ofString "yes"), V.str (Str.ofString "yesno"), V.str (Str.ofString "(yes no)")])) q3 = some (.lst ([V.str (Str.ofString ""), V.str (Str.ofString " "), V.str (Str.ofString "("), V.str (Str.ofString "()"), V.str (Str.ofString "( )"), V.str (Str.ofString "(a )"), V.str (Str.ofString "( a)"), V.str (Str.ofString "(a  b)"), V.str (Str.ofString "a b"), V.str (Str.ofString "(a) "), V.str (Str.ofString "-"), V.str (Str.ofString "-0"), V.str (Str.ofString "00"), V.str (Str.ofString "01")] ++ [V.str (Str.ofString "(1 -02)"), V.str (Str.ofString "(()"), V.str (Str.ofString "())"), V.str (Str.ofString "yes"), V.str (Str.ofString "yesno"), V.str (Str.ofString "(yes no)")])) := upd_same
    generalize upd (upd H5 q2 (.lst [V.str (Str.ofString "(1 -02)"), V.str (Str.ofString "(()"), V.str (Str.ofString "())"), V.str (Str.ofString "yes"), V.str (Str.ofString "yesno"), V.str (Str.ofString "(yes no)")])) q3 (.lst ([V.str (Str.ofString ""), V.str (Str.ofString " "), V.str (Str.ofString "("), V.str (Str.ofString "()"), V.str (Str.ofString "( )"), V.str (Str.ofString "(a )"), V.str (Str.ofString "( a)"), V.str (Str.ofString "(a  b)"), V.str (Str.ofString "a b"), V.str (Str.ofString "(a) "), V.str (Str.ofString "-"), V.str (Str.ofString "-0"), V.str (Str.ofString "00"), V.str (Str.ofString "01")] ++ [V.str (Str.ofString "(1 -02)"), V.str (Str.ofString "(()"), V.str (Str.ofString "())"), V.str (Str.ofString "yes"), V.str (Str.ofString "yesno"), V.str (Str.ofString "(yes no)")])) = H6 at g3 ⊢
    refine ⟨_, rfl, ?_⟩
    refine ⟨(by show 1 ≤ sizeLine; decide), fun q4 hq4 => ?_⟩
    have g4 : upd H6 q4 (.tup [V.str (Str.ofString "a")]) q4 = some (.tup [V.str (Str.ofString "a")]) := upd_same
    have g34 := same_new hq4 (.tup [V.str (Str.ofString "a")]) _ _ g3
    generalize upd H6 q4 (.tup [V.str (Str.ofString "a")]) = H7 at g4 g34 ⊢
    refine ⟨(by show 1 ≤ sizeLine; decide), fun q5 hq5 => ?_⟩
    have g5 : upd H7 q5 (.lst [V.str (Str.ofString "a")]) q5 = some (.lst [V.str (Str.ofString "a")]) := upd_same
    have g35 := same_new hq5 (.lst [V.str (Str.ofString "a")]) _ _ g34
    have g45 := same_new hq5 (.lst [V.str (Str.ofString "a")]) _ _ g4
    generalize upd H7 q5 (.lst [V.str (Str.ofString "a")]) = H8 at g5 g35 g45 ⊢
    refine ⟨(by show 7 ≤ sizeLine; decide), fun q6 hq6 => ?_⟩
    have g6 : upd H8 q6 (.lst [V.str (Str.ofString "A"), V.str (Str.ofString "(a.b)"), V.non, V.int 7, V.bl true, V.ref q4, V.ref q5]) q6 = some (.lst [V.str (Str.ofString "A"), V.str (Str.ofString "(a.b)"), V.non, V.int 7, V.bl true, V.ref q4, V.ref q5]) := upd_same
    have g36 := same_new hq6 (.lst [V.str (Str.ofString "A"), V.str (Str.ofString "(a.b)"), V.non, V.int 7, V.bl true, V.ref q4, V.ref q5]) _ _ g35
    have g46 := same_new hq6 (.lst [V.str (Str.ofString "A"), V.str (Str.ofString "(a.b)"), V.non, V.int 7, V.bl true, V.ref q4, V.ref q5]) _ _ g45
    have g56 := same_new hq6 (.lst [V.str (Str.ofString "A"), V.str (Str.ofString "(a.b)"), V.non, V.int 7, V.bl true, V.ref q4, V.ref q5]) _ _ g5
    generalize upd H8 q6 (.lst [V.str (Str.ofString "A"), V.str (Str.ofString "(a.b)"), V.non, V.int 7, V.bl true, V.ref q4, V.ref q5]) = H9 at g6 g36 g46 g56 ⊢
    refine ⟨q3, q6, _, _, rfl, rfl, g36, g6, (by show 20 + 7 ≤ sizeLine; decide), fun q7 hq7 => ?_⟩
    have hA : ([V.str (Str.ofString ""), V.str (Str.ofString " "), V.str (Str.ofString "("), V.str (Str.ofString "()"), V.str (Str.ofString "( )"), V.str (Str.ofString "(a )"), V.str (Str.ofString "( a)"), V.str (Str.ofString "(a  b)"), V.str (Str.ofString "a b"), V.str (Str.ofString "(a) "), V.str (Str.ofString "-"), V.str (Str.ofString "-0"), V.str (Str.ofString "00"), V.str (Str.ofString "01")] ++ [V.str (Str.ofString "(1 -02)"), V.str (Str.ofString "(()"), V.str (Str.ofString "())"), V.str (Str.ofString "yes"), V.str (Str.ofString "yesno"), V.str (Str.ofString "(yes no)")]).all thingB = true := by decide +kernel
    have hB : [V.str (Str.ofString "A"), V.str (Str.ofString "(a.b)"), V.non, V.int 7, V.bl true].all thingB = true := by decide +kernel
    generalize [V.str (Str.ofString ""), V.str (Str.ofString " "), V.str (Str.ofString "("), V.str (Str.ofString "()"), V.str (Str.ofString "( )"), V.str (Str.ofString "(a )"), V.str (Str.ofString "( a)"), V.str (Str.ofString "(a  b)"), V.str (Str.ofString "a b"), V.str (Str.ofString "(a) "), V.str (Str.ofString "-"), V.str (Str.ofString "-0"), V.str (Str.ofString "00"), V.str (Str.ofString "01")] ++ [V.str (Str.ofString "(1 -02)"), V.str (Str.ofString "(()"), V.str (Str.ofString "())"), V.str (Str.ofString "yes"), V.str (Str.ofString "yesno"), V.str (Str.ofString "(yes no)")] = lA at hA ⊢
    have g7 : upd H9 q7 (.lst (lA ++ [V.str (Str.ofString "A"), V.str (Str.ofString "(a.b)"), V.non, V.int 7, V.bl true, V.ref q4, V.ref q5])) q7 = some (.lst (lA ++ [V.str (Str.ofString "A"), V.str (Str.ofString "(a.b)"), V.non, V.int 7, V.bl true, V.ref q4, V.ref q5])) := upd_same
    have g47 := same_new hq7 (.lst (lA ++ [V.str (Str.ofString "A"), V.str (Str.ofString "(a.b)"), V.non, V.int 7, V.bl true, V.ref q4, V.ref q5])) _ _ g46
    have g57 := same_new hq7 (.lst (lA ++ [V.str (Str.ofString "A"), V.str (Str.ofString "(a.b)"), V.non, V.int 7, V.bl true, V.ref q4, V.ref q5])) _ _ g56
    generalize upd H9 q7 (.lst (lA ++ [V.str (Str.ofString "A"), V.str (Str.ofString "(a.b)"), V.non, V.int 7, V.bl true, V.ref q4, V.ref q5])) = H10 at g7 g47 g57 ⊢
    refine ⟨q7, rfl, ⟨_, SqL.of g7⟩, for_list (xs := lA ++ [V.str (Str.ofString "A"), V.str (Str.ofString "(a.b)"), V.non, V.int 7, V.bl true, V.ref q4, V.ref q5]) (fun i σ H' => ∃ r1 r2 r3 r4 r5 r6 r7 r8, σ = [some (.ref sa), r1, r2, r3, r4, r5, r6, r7, r8] ∧ Same H10 H') ⟨_, _, _, _, _, _, _, _, rfl, Same.refl _⟩ (fun i σ H' _ h => by
      obtain ⟨_, _, _, _, _, _, _, _, _, sm⟩ := h
      exact SqL.of (sm _ _ g7)) ?_ (fun σ H' _ => q H')⟩
    rintro i y σ H15 hy ⟨r1, r2, r3, r4, r5, r6, r7, r8, rfl, sm15⟩
    have hT : Thing K H15 y := by
      rcases List.mem_append.mp (List.mem_of_getElem? hy) with hy | hy
      · exact thing_of (List.all_eq_true.mp hA y hy)
      · have hy : y ∈ [V.str (Str.ofString "A"), V.str (Str.ofString "(a.b)"), V.non, V.int 7, V.bl true] ++ [V.ref q4, V.ref q5] := hy
        rcases List.mem_append.mp hy with hy | hy
        · exact thing_of (List.all_eq_true.mp hB y hy)
        · simp only [List.mem_cons, List.not_mem_nil, or_false] at hy
          rcases hy with rfl | rfl
          · exact .inr ⟨"tuple", fun H' s => .base (.tup (s _ _ (sm15 _ _ g47))), by decide +kernel⟩
          · exact .inr ⟨"list", fun H' s => .base (.lst (s _ _ (sm15 _ _ g57))), by decide +kernel⟩
    rcases hT with ⟨z, rfl, lz, az⟩ | ⟨t, ty, kb⟩
    · exact ⟨_, rfl, .inl ⟨z, rfl, lz, az, fun H16 sm16 => ⟨_, rfl, iteF ⟨_, _, _, _, _, _, _, _, rfl, sm15.trans sm16⟩⟩⟩⟩
    · exact ⟨_, rfl, .inr ⟨y, t, rfl, ty, kb, fun H16 sm16 => ⟨_, rfl, iteF ⟨_, _, _, _, _, _, _, _, rfl, sm15.trans sm16⟩⟩⟩⟩
end
end K2
namespace K2
open PySem L2
open PySem.OwnX
theorem init_form : ∃ (a b : Str) (k1 k2 : Nat) (e1 e2 e3 e4 e5 p1 p2 q0 q1 q2 q3 q4 r1 r2 r3 r4 : Pos), defArgs (inClass (top 6) 0) = iA "at" p1 p2 ∧
    defBody (inClass (top 6) 0) = iB "at" (.JoinedStr [.Constant (.str a) k1 e1, .FormattedValue (.Name "at" e2) (-1) none e3, .Constant (.str b) k2 e4] e5) q0 q1 q2 q3 q4 r1 r2 r3 r4 ∧ defScope (inClass (top 6) 0) = iS "at" ∧ a.length ≤ 1000 ∧ b.length ≤ 1000 ∧ (q2.endLine == q3.line) = true :=
  ⟨_, _, _, _, _, _, _, _, _, _, _, _, _, _, _, _, _, _, _, _, rfl, rfl, rfl, by decide +kernel, by decide +kernel, by decide +kernel⟩
theorem call_form {o e : Expr} {name : Str} {apos pos : Pos} {env : Env} (h : (apos.endLine == pos.line) = true) (hs : starEach [e] env = [(false, eval e env)]) : ∃ pl : Sem Bool, eval (.Call (.Attribute o name apos) [e] [] pos) env = (do
      let ov ← attributeBase o name env (eval o env)
      standAt apos.atName
      let (f, first) ← holding [ov] (getMethod ov name pl)
      callWith pos f first (backTo pos (starEach [e] env)) []) := by
  refine ⟨do return (← importBound o env).getD true, ?_⟩
  have e1 : methodCallForm 1 (backTo pos (starEach [e] env)) (backToKw pos (keywordEach [] env)) = true := by
    rw [hs]; rfl
  have e2 : eval (.Call (.Attribute o name apos) [e] [] pos) env = (do
      let ov ← attributeBase o name env (eval o env)
      standAt apos.atName
      methodCall o name apos pos env ov 1 (backTo pos (starEach [e] env)) (backToKw pos (keywordEach [] env))) := rfl
  rw [e2]
  unfold methodCall methodCallPos
  rw [e1, h]
  rfl
theorem dig20 {n : Int} (h0 : 0 ≤ n) (h1 : n < 10 ^ 20) : n.natAbs.log2 < 1920 ∧ (Str.ofString (toString n)).length ≤ 1000 := by
  refine ⟨?_, Nat.le_trans (PyProof.Rows.toString_length_le h0 (k := 20) (by decide) h1) (by decide)⟩
  have hn : n.natAbs < 2 ^ 1920 := by
    have h2 : n.natAbs < 10 ^ 20 := by
      have : (n.natAbs : Int) = n := by omega
      omega
    exact Nat.lt_trans h2 (by decide +kernel)
  by_cases hz : n.natAbs = 0
  · rw [hz]; decide
  · exact (Nat.log2_lt hz).mpr hn
section
variable {P : Program} {w : World} {K : PySem.W.Frag} {mg : Str → Option Value} {C fI cc cda : Addr}
theorem own_bad {oc : Value} {od : Option Addr} {doc pm : Value} {an : Option Addr} {ct : Value} {osl : Array (Option Value)}
    (gC : mg "BadText" = some (.ref C))
    (cls : ∃ nm q N bs bm sn sub ab col dd k0 k1 k2 k3 k5, K.lookup C = some (excClassObj nm q C N bs bm true sn sub ab col dd k0 k1 k2 k3 k5 "ValueError.__new__") ∧ HandSPX.refsVE bm = true)
    (sa : PySem.W.findIn K (.ref C) "__setattr__" = some (some (.builtin "object.__setattr__")))
    (ga : PySem.W.findIn K (.ref C) "__getattribute__" = some (some (.builtin "BaseException.__getattribute__")))
    (gg : PySem.W.findIn K (.ref C) "__getattr__" = some none)
    (noN : PySem.W.findIn K (.ref C) "at" = some none)
    (iC : PySem.W.findIn K (.ref C) "__init__" = some (some (.ref fI)))
    (tC : PySem.W.typeIn K (.ref fI) = some (.type "function"))
    (kC : PySem.W.keepIn K (.ref C) = true)
    (exC : PySem.W.subIn K (.ref C) (.type "BaseException") = some true)
    (veC : PySem.W.subIn K (.ref C) (.type "ValueError") = some true)
    (tyC : PySem.W.typeIn K (.ref C) = some (.type "type"))
    (hdC : PySem.W.hasDictIn K C = true)
    (supC : PySem.W.ks_superIn K C C "__init__" = some (some (.builtin "ValueError.__init__")))
    (mroC : PySem.W.mroIn K C (.ref C) = some true)
    (opq : PySem.W.nsIn K cStatics "thirdparty.any" = some none)
    (msu : mg "super" = none)
    (cell : ∃ cl cld csl, K.lookup cc = some ⟨cl, cld, .cell (some (.ref C)), csl⟩)
    (code : ∃ ccl cdd ccs file tf, ∃ vs : Array Value, K.lookup cda = some ⟨ccl, cdd, .fields vs, ccs⟩ ∧ vs[2]? = some (.str file tf) ∧ ((P.main.file : Str) == file) = true)
    (htop : (P.main.scope.names.lookup ("super" : Str)).isSome = false)
    (e_fn : K.lookup fI = some ⟨oc, od, .func (PySem.W.ksFn "__init__" "BadText.__init__" (defArgs (inClass (top 6) 0)) (defBody (inClass (top 6) 0)) (defScope (inClass (top 6) 0)) .none .none doc pm an (.ref cda) ct cc), osl⟩)
    (e_cd : PySem.W.codeIn K (.ref cda) "BadText.__init__" = true) :
    ∃ js, OwnT P K mg "BadText" "at" "BadText.__init__" js C fI cc cda ∧ ∀ (n : Int) (t : Tok), 0 ≤ n → n < 10 ^ 20 → Speaks P w "BadText.__init__" "at" js fI cc cda (.int n t) := by
  obtain ⟨a, b, k1, k2, e1, e2, e3, e4, e5, p1, p2, q0, q1, q2, q3, q4, r1, r2, r3, r4, ea, eb, es, la, lb, hl⟩ := init_form
  rw [ea, eb, es] at e_fn
  refine ⟨.JoinedStr [.Constant (.str a) k1 e1, .FormattedValue (.Name "at" e2) (-1) none e3, .Constant (.str b) k2 e4] e5, ⟨gC, cls, sa, ga, gg, noN, iC, tC, kC, exC, veC, tyC, hdC, supC, mroC, opq, msu, cell, code, htop, ?_⟩, fun n t h0 h1 => speaks3 (dig20 h0 h1).1 (dig20 h0 h1).2 la lb⟩
  exact ⟨_, _, _, _, _, _, _, _, _, _, _, _, _, _, _, _, _, _, e_fn, e_cd, fun L => call_form hl rfl, fun L => rfl⟩
end
end K2
namespace K2
open PySem L2
set_option maxHeartbeats 8000000 in
theorem all_mk {l : PySem.W.OpenLaw} {w : World} {K : PySem.W.Frag} {h : Heap} {mg : Str → Option Value} {fa : Addr} (X : K.In h) (G : h.Ns mainGlobals mg) (hfa : mg "law" = some (.ref fa))
    {f0 f1 f2 f3 f4 f5 f6 f7 f8 f9 f10 f11 f12 f13 f14 f15 f16 f17 f18 f19 f20 CFun CBuilt CSE CB CNoBack CNoKind CNoLevel CNoLine CFault CTooLong CTooHigh CNoName fI cc cda eN : Addr} {od0 an0 od1 an1 od2 an2 od3 an3 od4 an4 od5 an5 od6 an6 od7 an7 od8 an8 od9 an9 od10 an10 od11 an11 od12 an12 od13 an13 od14 an14 od15 an15 od16 an16 od17 an17 od18 an18 od19 an19 od20 an20 ecld ecdd eod ean edd : Option Addr} {sl0 sl1 sl2 sl3 sl4 sl5 sl6 sl7 sl8 sl9 sl10 sl11 sl12 sl13 sl14 sl15 sl16 sl17 sl18 sl19 sl20 ecsl eccs eosl : Array (Option Value)} {oc0 kV0 dc0 pm0 cd0 ct0 oc1 kV1 dc1 pm1 cd1 ct1 oc2 kV2 dc2 pm2 cd2 ct2 oc3 kV3 dc3 pm3 cd3 ct3 oc4 kV4 dc4 pm4 cd4 ct4 oc5 kV5 dc5 pm5 cd5 ct5 oc6 kV6 dc6 pm6 cd6 ct6 oc7 kV7 dc7 pm7 cd7 ct7 oc8 kV8 dc8 pm8 cd8 ct8 oc9 kV9 dc9 pm9 cd9 ct9 oc10 kV10 dc10 pm10 cd10 ct10 oc11 kV11 dc11 pm11 cd11 ct11 oc12 kV12 dc12 pm12 cd12 ct12 oc13 kV13 dc13 pm13 cd13 ct13 oc14 kV14 dc14 pm14 cd14 ct14 oc15 kV15 dc15 pm15 cd15 ct15 oc16 kV16 dc16 pm16 cd16 ct16 oc17 kV17 dc17 pm17 cd17 ct17 oc18 kV18 dc18 pm18 cd18 ct18 oc19 kV19 dc19 pm19 cd19 ct19 oc20 kV20 dc20 pm20 cd20 ct20 ecl eccl eoc edoc epm ect : Value} {tf tl etf : Tok} {enm eq efile : Str} {ebs ebm esub : List Value} {esn : List Str} {eab : Bool} {ecol : Option Bool} {ek0 ek1 ek2 ek3 ek5 : Option Value} {evs : Array Value}
    (a0 : PySem.W.nsIn K mainGlobals "is_list" = some (some (.ref f0)))
    (l0 : K.lookup f0 = some ⟨oc0, od0, .func (PySem.W.fnOf "is_list" "is_list" (defArgs (top 14)) (defBody (top 14)) (defScope (top 14)) .none kV0 dc0 pm0 an0 cd0 ct0), sl0⟩)
    (c0 : PySem.W.codeIn K cd0 "is_list" = true)
    (k0 : PySem.W.keepIn K (.ref f0) = true)
    (a1 : PySem.W.nsIn K mainGlobals "run_end" = some (some (.ref f1)))
    (l1 : K.lookup f1 = some ⟨oc1, od1, .func (PySem.W.fnOf "run_end" "run_end" (defArgs (top 18)) (defBody (top 18)) (defScope (top 18)) .none kV1 dc1 pm1 an1 cd1 ct1), sl1⟩)
    (c1 : PySem.W.codeIn K cd1 "run_end" = true)
    (k1 : PySem.W.keepIn K (.ref f1) = true)
    (a2 : PySem.W.nsIn K mainGlobals "number_end" = some (some (.ref f2)))
    (l2 : K.lookup f2 = some ⟨oc2, od2, .func (PySem.W.fnOf "number_end" "number_end" (defArgs (top 19)) (defBody (top 19)) (defScope (top 19)) .none kV2 dc2 pm2 an2 cd2 ct2), sl2⟩)
    (c2 : PySem.W.codeIn K cd2 "number_end" = true)
    (k2 : PySem.W.keepIn K (.ref f2) = true)
    (a3 : PySem.W.nsIn K mainGlobals "read_leaf" = some (some (.ref f3)))
    (l3 : K.lookup f3 = some ⟨oc3, od3, .func (PySem.W.fnOf "read_leaf" "read_leaf" (defArgs (top 20)) (defBody (top 20)) (defScope (top 20)) .none kV3 dc3 pm3 an3 cd3 ct3), sl3⟩)
    (c3 : PySem.W.codeIn K cd3 "read_leaf" = true)
    (k3 : PySem.W.keepIn K (.ref f3) = true)
    (a4 : PySem.W.nsIn K mainGlobals "read_parts" = some (some (.ref f4)))
    (l4 : K.lookup f4 = some ⟨oc4, od4, .func (PySem.W.fnOf "read_parts" "read_parts" (defArgs (top 21)) (defBody (top 21)) (defScope (top 21)) .none kV4 dc4 pm4 an4 cd4 ct4), sl4⟩)
    (c4 : PySem.W.codeIn K cd4 "read_parts" = true)
    (k4 : PySem.W.keepIn K (.ref f4) = true)
    (a5 : PySem.W.nsIn K mainGlobals "read_data" = some (some (.ref f5)))
    (l5 : K.lookup f5 = some ⟨oc5, od5, .func (PySem.W.fnOf "read_data" "read_data" (defArgs (top 22)) (defBody (top 22)) (defScope (top 22)) .none kV5 dc5 pm5 an5 cd5 ct5), sl5⟩)
    (c5 : PySem.W.codeIn K cd5 "read_data" = true)
    (k5 : PySem.W.keepIn K (.ref f5) = true)
    (a6 : PySem.W.nsIn K mainGlobals "leaf_text" = some (some (.ref f6)))
    (l6 : K.lookup f6 = some ⟨oc6, od6, .func (PySem.W.fnOf "leaf_text" "leaf_text" (defArgs (top 23)) (defBody (top 23)) (defScope (top 23)) .none kV6 dc6 pm6 an6 cd6 ct6), sl6⟩)
    (c6 : PySem.W.codeIn K cd6 "leaf_text" = true)
    (k6 : PySem.W.keepIn K (.ref f6) = true)
    (a7 : PySem.W.nsIn K mainGlobals "data_text" = some (some (.ref f7)))
    (l7 : K.lookup f7 = some ⟨oc7, od7, .func (PySem.W.fnOf "data_text" "data_text" (defArgs (top 24)) (defBody (top 24)) (defScope (top 24)) .none kV7 dc7 pm7 an7 cd7 ct7), sl7⟩)
    (c7 : PySem.W.codeIn K cd7 "data_text" = true)
    (k7 : PySem.W.keepIn K (.ref f7) = true)
    (a8 : PySem.W.nsIn K mainGlobals "_law_mixed" = some (some (.ref f8)))
    (l8 : K.lookup f8 = some ⟨oc8, od8, .func (PySem.W.fnOf "_law_mixed" "_law_mixed" (defArgs (top 26)) (defBody (top 26)) (defScope (top 26)) .none kV8 dc8 pm8 an8 cd8 ct8), sl8⟩)
    (c8 : PySem.W.codeIn K cd8 "_law_mixed" = true)
    (k8 : PySem.W.keepIn K (.ref f8) = true)
    (a9 : PySem.W.nsIn K mainGlobals "_law_purse" = some (some (.ref f9)))
    (l9 : K.lookup f9 = some ⟨oc9, od9, .func (PySem.W.fnOf "_law_purse" "_law_purse" (defArgs (top 27)) (defBody (top 27)) (defScope (top 27)) .none kV9 dc9 pm9 an9 cd9 ct9), sl9⟩)
    (c9 : PySem.W.codeIn K cd9 "_law_purse" = true)
    (k9 : PySem.W.keepIn K (.ref f9) = true)
    (a10 : PySem.W.nsIn K mainGlobals "_law_take" = some (some (.ref f10)))
    (l10 : K.lookup f10 = some ⟨oc10, od10, .func (PySem.W.fnOf "_law_take" "_law_take" (defArgs (top 28)) (defBody (top 28)) (defScope (top 28)) .none kV10 dc10 pm10 an10 cd10 ct10), sl10⟩)
    (c10 : PySem.W.codeIn K cd10 "_law_take" = true)
    (k10 : PySem.W.keepIn K (.ref f10) = true)
    (a11 : PySem.W.nsIn K mainGlobals "_law_at" = some (some (.ref f11)))
    (l11 : K.lookup f11 = some ⟨oc11, od11, .func (PySem.W.fnOf "_law_at" "_law_at" (defArgs (top 29)) (defBody (top 29)) (defScope (top 29)) .none kV11 dc11 pm11 an11 cd11 ct11), sl11⟩)
    (c11 : PySem.W.codeIn K cd11 "_law_at" = true)
    (k11 : PySem.W.keepIn K (.ref f11) = true)
    (a12 : PySem.W.nsIn K mainGlobals "_law_leaf_text" = some (some (.ref f12)))
    (l12 : K.lookup f12 = some ⟨oc12, od12, .func (PySem.W.fnOf "_law_leaf_text" "_law_leaf_text" (defArgs (top 30)) (defBody (top 30)) (defScope (top 30)) .none kV12 dc12 pm12 an12 cd12 ct12), sl12⟩)
    (c12 : PySem.W.codeIn K cd12 "_law_leaf_text" = true)
    (k12 : PySem.W.keepIn K (.ref f12) = true)
    (a13 : PySem.W.nsIn K mainGlobals "_law_said" = some (some (.ref f13)))
    (l13 : K.lookup f13 = some ⟨oc13, od13, .func (PySem.W.fnOf "_law_said" "_law_said" (defArgs (top 31)) (defBody (top 31)) (defScope (top 31)) .none kV13 dc13 pm13 an13 cd13 ct13), sl13⟩)
    (c13 : PySem.W.codeIn K cd13 "_law_said" = true)
    (k13 : PySem.W.keepIn K (.ref f13) = true)
    (a14 : PySem.W.nsIn K mainGlobals "_law_datum" = some (some (.ref f14)))
    (l14 : K.lookup f14 = some ⟨oc14, od14, .func (PySem.W.fnOf "_law_datum" "_law_datum" (defArgs (top 32)) (defBody (top 32)) (defScope (top 32)) .none kV14 dc14 pm14 an14 cd14 ct14), sl14⟩)
    (c14 : PySem.W.codeIn K cd14 "_law_datum" = true)
    (k14 : PySem.W.keepIn K (.ref f14) = true)
    (a15 : PySem.W.nsIn K mainGlobals "_law_leaf_end" = some (some (.ref f15)))
    (l15 : K.lookup f15 = some ⟨oc15, od15, .func (PySem.W.fnOf "_law_leaf_end" "_law_leaf_end" (defArgs (top 33)) (defBody (top 33)) (defScope (top 33)) .none kV15 dc15 pm15 an15 cd15 ct15), sl15⟩)
    (c15 : PySem.W.codeIn K cd15 "_law_leaf_end" = true)
    (k15 : PySem.W.keepIn K (.ref f15) = true)
    (a16 : PySem.W.nsIn K mainGlobals "_law_wrong_at" = some (some (.ref f16)))
    (l16 : K.lookup f16 = some ⟨oc16, od16, .func (PySem.W.fnOf "_law_wrong_at" "_law_wrong_at" (defArgs (top 34)) (defBody (top 34)) (defScope (top 34)) .none kV16 dc16 pm16 an16 cd16 ct16), sl16⟩)
    (c16 : PySem.W.codeIn K cd16 "_law_wrong_at" = true)
    (k16 : PySem.W.keepIn K (.ref f16) = true)
    (a17 : PySem.W.nsIn K mainGlobals "_law_bent" = some (some (.ref f17)))
    (l17 : K.lookup f17 = some ⟨oc17, od17, .func (PySem.W.fnOf "_law_bent" "_law_bent" (defArgs (top 35)) (defBody (top 35)) (defScope (top 35)) .none kV17 dc17 pm17 an17 cd17 ct17), sl17⟩)
    (c17 : PySem.W.codeIn K cd17 "_law_bent" = true)
    (k17 : PySem.W.keepIn K (.ref f17) = true)
    (a18 : PySem.W.nsIn K mainGlobals "_law_alone" = some (some (.ref f18)))
    (l18 : K.lookup f18 = some ⟨oc18, od18, .func (PySem.W.fnOf "_law_alone" "_law_alone" (defArgs (top 36)) (defBody (top 36)) (defScope (top 36)) .none kV18 dc18 pm18 an18 cd18 ct18), sl18⟩)
    (c18 : PySem.W.codeIn K cd18 "_law_alone" = true)
    (k18 : PySem.W.keepIn K (.ref f18) = true)
    (a19 : PySem.W.nsIn K mainGlobals "_law_right" = some (some (.ref f19)))
    (l19 : K.lookup f19 = some ⟨oc19, od19, .func (PySem.W.fnOf "_law_right" "_law_right" (defArgs (top 37)) (defBody (top 37)) (defScope (top 37)) .none kV19 dc19 pm19 an19 cd19 ct19), sl19⟩)
    (c19 : PySem.W.codeIn K cd19 "_law_right" = true)
    (k19 : PySem.W.keepIn K (.ref f19) = true)
    (a20 : PySem.W.nsIn K mainGlobals "law" = some (some (.ref f20)))
    (l20 : K.lookup f20 = some ⟨oc20, od20, .func (PySem.W.fnOf "law" "law" (defArgs (top 38)) (defBody (top 38)) (defScope (top 38)) .none kV20 dc20 pm20 an20 cd20 ct20), sl20⟩)
    (c20 : PySem.W.codeIn K cd20 "law" = true)
    (k20 : PySem.W.keepIn K (.ref f20) = true)
    (z_len : PySem.W.nsIn K mainGlobals "len" = some none)
    (z_isinstance : PySem.W.nsIn K mainGlobals "isinstance" = some none)
    (z_int : PySem.W.nsIn K mainGlobals "int" = some none)
    (z_str : PySem.W.nsIn K mainGlobals "str" = some none)
    (z_tuple : PySem.W.nsIn K mainGlobals "tuple" = some none)
    (z_list : PySem.W.nsIn K mainGlobals "list" = some none)
    (z_bool : PySem.W.nsIn K mainGlobals "bool" = some none)
    (z_range : PySem.W.nsIn K mainGlobals "range" = some none)
    (z_min : PySem.W.nsIn K mainGlobals "min" = some none)
    (z_ValueError : PySem.W.nsIn K mainGlobals "ValueError" = some none)
    (z_super : PySem.W.nsIn K mainGlobals "super" = some none)
    (n_fig : PySem.W.nsIn K mainGlobals "FIGURES" = some (some (.int 40 tf)))
    (n_let : PySem.W.nsIn K mainGlobals "LETTERS" = some (some (.int 12 tl)))
    (n_Fun : PySem.W.nsIn K mainGlobals "Fun" = some (some (.ref CFun)))
    (i_Fun_int : PySem.W.kitOne K (.type "int") (.ref CFun) = some false)
    (i_Fun_str : PySem.W.kitOne K (.type "str") (.ref CFun) = some false)
    (n_Built : PySem.W.nsIn K mainGlobals "Built" = some (some (.ref CBuilt)))
    (i_Built_int : PySem.W.kitOne K (.type "int") (.ref CBuilt) = some false)
    (i_Built_str : PySem.W.kitOne K (.type "str") (.ref CBuilt) = some false)
    (n_SE : PySem.W.nsIn K mainGlobals "StairError" = some (some (.ref CSE)))
    (e_a : PySem.W.nsIn K mainGlobals "BadText" = some (some (.ref CB)))
    (e_cls : K.lookup CB = some (excClassObj enm eq CB eN ebs ebm true esn esub eab ecol edd ek0 ek1 ek2 ek3 ek5 "ValueError.__new__"))
    (e_bm : PySem.HandSPX.refsVE ebm = true)
    (e_sa : PySem.W.findIn K (.ref CB) "__setattr__" = some (some (.builtin "object.__setattr__")))
    (e_ga : PySem.W.findIn K (.ref CB) "__getattribute__" = some (some (.builtin "BaseException.__getattribute__")))
    (e_gg : PySem.W.findIn K (.ref CB) "__getattr__" = some (none))
    (e_no : PySem.W.findIn K (.ref CB) "at" = some (none))
    (e_ic : PySem.W.findIn K (.ref CB) "__init__" = some (some (.ref fI)))
    (e_ca : PySem.W.findIn K (.ref CB) "__class__" = some (some (.builtin "object.__class__")))
    (e_tc : PySem.W.typeIn K (.ref fI) = some (.type "function"))
    (e_kc : PySem.W.keepIn K (.ref CB) = true)
    (e_ex : PySem.W.subIn K (.ref CB) (.type "BaseException") = some true)
    (e_ve : PySem.W.subIn K (.ref CB) (.type "ValueError") = some true)
    (e_ty : PySem.W.typeIn K (.ref CB) = some (.type "type"))
    (e_hd : PySem.W.hasDictIn K CB = true)
    (e_sup : PySem.W.ks_superIn K CB CB "__init__" = some (some (.builtin "ValueError.__init__")))
    (e_mro : PySem.W.mroIn K CB (.ref CB) = some true)
    (e_opq : PySem.W.nsIn K cStatics "thirdparty.any" = some none)
    (e_fn : K.lookup fI = some ⟨eoc, eod, .func (PySem.W.ksFn "__init__" "BadText.__init__" (defArgs (inClass (top 6) 0)) (defBody (inClass (top 6) 0)) (defScope (inClass (top 6) 0)) .none .none edoc epm ean (.ref cda) ect cc), eosl⟩)
    (e_cell : K.lookup cc = some ⟨ecl, ecld, .cell (some (.ref CB)), ecsl⟩)
    (e_code : K.lookup cda = some ⟨eccl, ecdd, .fields evs, eccs⟩)
    (e_vs : evs[2]? = some (.str efile etf))
    (e_cd : PySem.W.codeIn K (.ref cda) "BadText.__init__" = true)
    (e_te : PySem.W.exmOne K (.ref CB) (.ref CSE) = some true)
    (e_cg : PySem.W.specialIn K (.builtin "object.__class__") "__get__" = some (some (.builtin "getset_descriptor.__get__")))
    (e_ct : PySem.W.takesIn K (.builtin "object.__class__") = some true)
    (e_ob : PySem.W.mroIn K CB (.type "object") = some true)
    (e_cl : (PySem.W.clsIn K CB).isSome = true)
    (n_NoBack : PySem.W.nsIn K mainGlobals "NoBack" = some (some (.ref CNoBack)))
    (i_NoBack : PySem.W.kitOne K (.ref CB) (.ref CNoBack) = some false)
    (n_NoKind : PySem.W.nsIn K mainGlobals "NoKind" = some (some (.ref CNoKind)))
    (i_NoKind : PySem.W.kitOne K (.ref CB) (.ref CNoKind) = some false)
    (n_NoLevel : PySem.W.nsIn K mainGlobals "NoLevel" = some (some (.ref CNoLevel)))
    (i_NoLevel : PySem.W.kitOne K (.ref CB) (.ref CNoLevel) = some false)
    (n_NoLine : PySem.W.nsIn K mainGlobals "NoLine" = some (some (.ref CNoLine)))
    (i_NoLine : PySem.W.kitOne K (.ref CB) (.ref CNoLine) = some false)
    (n_Fault : PySem.W.nsIn K mainGlobals "Fault" = some (some (.ref CFault)))
    (i_Fault : PySem.W.kitOne K (.ref CB) (.ref CFault) = some false)
    (n_TooLong : PySem.W.nsIn K mainGlobals "TooLong" = some (some (.ref CTooLong)))
    (i_TooLong : PySem.W.kitOne K (.ref CB) (.ref CTooLong) = some false)
    (n_TooHigh : PySem.W.nsIn K mainGlobals "TooHigh" = some (some (.ref CTooHigh)))
    (i_TooHigh : PySem.W.kitOne K (.ref CB) (.ref CTooHigh) = some false)
    (n_NoName : PySem.W.nsIn K mainGlobals "NoName" = some (some (.ref CNoName)))
    (i_NoName : PySem.W.kitOne K (.ref CB) (.ref CNoName) = some false)
    (i_CB : PySem.W.kitOne K (.ref CB) (.ref CB) = some true)
    (i_VE : PySem.W.kitOne K (.ref CB) (.type "ValueError") = some true)
    (e_file : ((l.prog.main.file : Str) == efile) = true)
    (e_top : (l.prog.main.scope.names.lookup ("super" : Str)).isSome = false)
    : ∃ fd : FuncData, (∀ (s : Shared) (v : Value), BindsTo s fd ⟨[v], []⟩ [("_law_script", v)]) ∧ ∀ base : Heap, K.In base → base.Ns mainGlobals mg → FnOk l.prog w K mg base CX0 8 fa fd ["_law_script"] (spLaw K) := by
  have e := hfa.symm.trans (PySem.W.mg_of X G a20)
  cases e
  have F0 := fun_mk (st := top 14) l0 c0 k0
  have M0 := PySem.W.mg_of X G a0
  have b0 := F0.binds (ps := ["value"]) fun _ _ _ _ _ _ us hl => match us, hl with | [_], _ => rfl
  have F1 := fun_mk (st := top 18) l1 c1 k1
  have M1 := PySem.W.mg_of X G a1
  have b1 := F1.binds (ps := ["text", "at", "most", "low", "high"]) fun _ _ _ _ _ _ us hl => match us, hl with | [_, _, _, _, _], _ => rfl
  have F2 := fun_mk (st := top 19) l2 c2 k2
  have M2 := PySem.W.mg_of X G a2
  have b2 := F2.binds (ps := ["text", "at"]) fun _ _ _ _ _ _ us hl => match us, hl with | [_, _], _ => rfl
  have F3 := fun_mk (st := top 20) l3 c3 k3
  have M3 := PySem.W.mg_of X G a3
  have b3 := F3.binds (ps := ["text", "at"]) fun _ _ _ _ _ _ us hl => match us, hl with | [_, _], _ => rfl
  have F4 := fun_mk (st := top 21) l4 c4 k4
  have M4 := PySem.W.mg_of X G a4
  have b4 := F4.binds (ps := ["text"]) fun _ _ _ _ _ _ us hl => match us, hl with | [_], _ => rfl
  have F5 := fun_mk (st := top 22) l5 c5 k5
  have M5 := PySem.W.mg_of X G a5
  have b5 := F5.binds (ps := ["text"]) fun _ _ _ _ _ _ us hl => match us, hl with | [_], _ => rfl
  have F6 := fun_mk (st := top 23) l6 c6 k6
  have M6 := PySem.W.mg_of X G a6
  have b6 := F6.binds (ps := ["value"]) fun _ _ _ _ _ _ us hl => match us, hl with | [_], _ => rfl
  have F7 := fun_mk (st := top 24) l7 c7 k7
  have M7 := PySem.W.mg_of X G a7
  have b7 := F7.binds (ps := ["value"]) fun _ _ _ _ _ _ us hl => match us, hl with | [_], _ => rfl
  have F8 := fun_mk (st := top 26) l8 c8 k8
  have M8 := PySem.W.mg_of X G a8
  have b8 := F8.binds (ps := ["_law_cell", "_law_k"]) fun _ _ _ _ _ _ us hl => match us, hl with | [_, _], _ => rfl
  have F9 := fun_mk (st := top 27) l9 c9 k9
  have M9 := PySem.W.mg_of X G a9
  have b9 := F9.binds (ps := ["_law_cell", "_law_k"]) fun _ _ _ _ _ _ us hl => match us, hl with | [_, _], _ => rfl
  have F10 := fun_mk (st := top 28) l10 c10 k10
  have M10 := PySem.W.mg_of X G a10
  have b10 := F10.binds (ps := ["_law_purse_here", "_law_steps"]) fun _ _ _ _ _ _ us hl => match us, hl with | [_, _], _ => rfl
  have F11 := fun_mk (st := top 29) l11 c11 k11
  have M11 := PySem.W.mg_of X G a11
  have b11 := F11.binds (ps := ["_law_script", "_law_k"]) fun _ _ _ _ _ _ us hl => match us, hl with | [_, _], _ => rfl
  have F12 := fun_mk (st := top 30) l12 c12 k12
  have M12 := PySem.W.mg_of X G a12
  have b12 := F12.binds (ps := ["_law_item"]) fun _ _ _ _ _ _ us hl => match us, hl with | [_], _ => rfl
  have F13 := fun_mk (st := top 31) l13 c13 k13
  have M13 := PySem.W.mg_of X G a13
  have b13 := F13.binds (ps := ["_law_item"]) fun _ _ _ _ _ _ us hl => match us, hl with | [_], _ => rfl
  have F14 := fun_mk (st := top 32) l14 c14 k14
  have M14 := PySem.W.mg_of X G a14
  have b14 := F14.binds (ps := ["_law_purse_here", "_law_deep"]) fun _ _ _ _ _ _ us hl => match us, hl with | [_, _], _ => rfl
  have F15 := fun_mk (st := top 33) l15 c15 k15
  have M15 := PySem.W.mg_of X G a15
  have b15 := F15.binds (ps := ["_law_line", "_law_at_here"]) fun _ _ _ _ _ _ us hl => match us, hl with | [_, _], _ => rfl
  have F16 := fun_mk (st := top 34) l16 c16 k16
  have M16 := PySem.W.mg_of X G a16
  have b16 := F16.binds (ps := ["_law_line"]) fun _ _ _ _ _ _ us hl => match us, hl with | [_], _ => rfl
  have F17 := fun_mk (st := top 35) l17 c17 k17
  have M17 := PySem.W.mg_of X G a17
  have b17 := F17.binds (ps := ["_law_purse_here", "_law_line"]) fun _ _ _ _ _ _ us hl => match us, hl with | [_, _], _ => rfl
  have F18 := fun_mk (st := top 36) l18 c18 k18
  have M18 := PySem.W.mg_of X G a18
  have b18 := F18.binds (ps := ["_law_error"]) fun _ _ _ _ _ _ us hl => match us, hl with | [_], _ => rfl
  have F19 := fun_mk (st := top 37) l19 c19 k19
  have M19 := PySem.W.mg_of X G a19
  have b19 := F19.binds (ps := ["_law_line"]) fun _ _ _ _ _ _ us hl => match us, hl with | [_], _ => rfl
  have F20 := fun_mk (st := top 38) l20 c20 k20
  have M20 := PySem.W.mg_of X G a20
  have zlen := PySem.W.mg_none_of X G z_len
  have zisinstance := PySem.W.mg_none_of X G z_isinstance
  have zint := PySem.W.mg_none_of X G z_int
  have zstr := PySem.W.mg_none_of X G z_str
  have ztuple := PySem.W.mg_none_of X G z_tuple
  have zlist := PySem.W.mg_none_of X G z_list
  have zbool := PySem.W.mg_none_of X G z_bool
  have zrange := PySem.W.mg_none_of X G z_range
  have zmin := PySem.W.mg_none_of X G z_min
  have zValueError := PySem.W.mg_none_of X G z_ValueError
  have zsuper := PySem.W.mg_none_of X G z_super
  have nfig := PySem.W.mg_of X G n_fig
  have nlet := PySem.W.mg_of X G n_let
  have nFun := PySem.W.mg_of X G n_Fun
  have nBuilt := PySem.W.mg_of X G n_Built
  have nSE := PySem.W.mg_of X G n_SE
  have nBT := PySem.W.mg_of X G e_a
  have nNoBack := PySem.W.mg_of X G n_NoBack
  have nNoKind := PySem.W.mg_of X G n_NoKind
  have nNoLevel := PySem.W.mg_of X G n_NoLevel
  have nNoLine := PySem.W.mg_of X G n_NoLine
  have nFault := PySem.W.mg_of X G n_Fault
  have nTooLong := PySem.W.mg_of X G n_TooLong
  have nTooHigh := PySem.W.mg_of X G n_TooHigh
  have nNoName := PySem.W.mg_of X G n_NoName
  obtain ⟨js, T, hsp⟩ := own_bad (P := l.prog) (w := w) nBT ⟨_, _, _, _, _, _, _, _, _, _, _, _, _, _, _, e_cls, e_bm⟩ e_sa e_ga e_gg e_no e_ic e_tc e_kc e_ex e_ve e_ty e_hd e_sup e_mro e_opq zsuper ⟨_, _, _, e_cell⟩ ⟨_, _, _, _, _, _, e_code, e_vs, e_file⟩ e_top e_fn e_cd
  have TC : ErrC K CB := ⟨e_cl, e_ga, e_gg, e_ex, e_ca, e_cg, e_ct, e_ob⟩
  refine ⟨(PySem.W.fnOf "law" "law" (defArgs (top 38)) (defBody (top 38)) (defScope (top 38)) .none kV20 dc20 pm20 an20 cd20 ct20), fun s v => .of_eq rfl, fun base _ _ => ?_⟩
  have Q_isl := ok_isL (P := l.prog) (w := w) (base := base) F0 zisinstance ztuple
  have Q_run := ok_run (P := l.prog) (w := w) (base := base) F1 zlen
  have Q_num := ok_num F2 T hsp Q_run b1 k1 M1 nfig
  have Q_leaf := ok_leaf F3 Q_run b1 k1 M1 Q_num b2 k2 M2 nlet zint
  have Q_parts := ok_parts F4 T hsp Q_leaf b3 k3 M3 ztuple
  have Q_read := ok_read F5 T hsp Q_parts b4 k4 M4 zisinstance zstr zlen
  have Q_ltx := ok_ltx (P := l.prog) (w := w) (base := base) F6 zisinstance zstr nFun nBuilt i_Fun_int i_Fun_str i_Built_int i_Built_str
  have Q_dt := ok_dt F7 Q_isl b0 k0 M0 Q_ltx b6 k6 M6 zrange zlen
  have Q_lt := ok_lt (P := l.prog) (w := w) (base := base) F12 zisinstance zstr zlist zbool zint
  have Q_said := ok_said F13 zisinstance ztuple Q_lt b12 k12 M12 b13 M13 4
  have Q_mix := ok_mix (P := l.prog) (w := w) (base := base) (mg := mg) F8
  have Q_pur := ok_pur F9 Q_mix b8 k8 M8
  have Q_take := ok_take F10 Q_mix b8 k8 M8
  have Q_dat := ok_dat F14 ztuple zrange Q_take b10 k10 M10 b14 M14 4
  have Q_at := ok_at (P := l.prog) (w := w) (base := base) F11 zlen
  have Q_le := ok_le (P := l.prog) (w := w) (base := base) F15 zint
  have Q_wa := ok_wa F16 zint zlen Q_le b15 k15 M15
  have Q_be := ok_be F17 zmin zlen Q_take b10 k10 M10
  have Q_al := ok_al (P := l.prog) (w := w) (base := base) F18 zisinstance zValueError TC nFault nNoBack nNoKind nNoLevel nNoLine nNoName nTooHigh nTooLong nBT i_Fault i_NoBack i_NoKind i_NoLevel i_NoLine i_NoName i_TooHigh i_TooLong i_CB i_VE
  have Q_rt := ok_rt F19 zisinstance zstr zbool nSE TC e_hd e_no e_te Q_read b5 k5 M5 Q_wa b16 k16 M16 Q_dt b7 k7 M7 Q_al b18 k18 M18
  exact ok_law F20 zrange Q_said b13 k13 M13 Q_at b11 k11 M11 Q_take b10 k10 M10 Q_pur b9 k9 M9 Q_dat b14 k14 M14 Q_rt b19 k19 M19 Q_be b17 k17 M17
theorem walk {l : PySem.W.OpenLaw} {q : Program} {loose : List Str} {XP : (Str → Option Value) → Heap → Prop} {YP : World → Heap → Prop} {d : DefRec} {K : Params → PySem.W.Frag} (hn : l.most = some 63) (hdf : d.params.defaults = [])
    (hY : ∀ (w : World) (h : Heap), YP w h → (K w.params).In h)
    (F : ∀ (w : World) (mg : Str → Option Value) (fa : Addr) (h : Heap), (K w.params).In h → h.Ns mainGlobals mg → mg d.name = some (.ref fa) →
      ∃ fd : FuncData, (∀ (s : Shared) (u : Value), BindsTo s fd ⟨[u], []⟩ [("_law_script", u)]) ∧ ∀ base : Heap, (K w.params).In base → base.Ns mainGlobals mg → FnOk l.prog w (K w.params) mg base CX0 8 fa fd ["_law_script"] (spLaw (K w.params))) :
    PySem.W.WalkO q loose XP YP l.row.toRowW d [] (fun f vs => PySem.call f vs) :=
  L2.walk_of (n := 63) (k := 8) (x := "_law_script") (CX := fun _ => CX0) (sp := fun w => spLaw (K w.params)) hn (by decide) hdf ⟨rfl, by decide, by decide⟩ hY F (fun _ _ a ns hl _ hS => ⟨a, ns, rfl, hS, hl, fun _ => rfl⟩) fun _ _ _ _ _ z => z
end K2
open PySem PySem.W PyProof.Rows
set_option maxRecDepth 100000 in
set_option maxHeartbeats 0 in
theorem PySem.Challenge.cw_mirrorstair_k02_what_is_no_datum_holds : PySem.Challenge.rw_mirrorstair_k02_what_is_no_datum.Holds := by
  w_on; o_law; k_head; (case hw => w_witness2)
  k_fill
  refine K2.walk (l := PySem.Challenge.rw_mirrorstair_k02_what_is_no_datum) rfl rfl (fun w h Y => PySem.W.kIn_of Y) ?F
  case F =>
    intro w mg fa h KX G hmg
    refine' K2.all_mk (l := PySem.Challenge.rw_mirrorstair_k02_what_is_no_datum) KX G hmg ?a0 ?l0 ?c0 ?k0 ?a1 ?l1 ?c1 ?k1 ?a2 ?l2 ?c2 ?k2 ?a3 ?l3 ?c3 ?k3 ?a4 ?l4 ?c4 ?k4 ?a5 ?l5 ?c5 ?k5 ?a6 ?l6 ?c6 ?k6 ?a7 ?l7 ?c7 ?k7 ?a8 ?l8 ?c8 ?k8 ?a9 ?l9 ?c9 ?k9 ?a10 ?l10 ?c10 ?k10 ?a11 ?l11 ?c11 ?k11 ?a12 ?l12 ?c12 ?k12 ?a13 ?l13 ?c13 ?k13 ?a14 ?l14 ?c14 ?k14 ?a15 ?l15 ?c15 ?k15 ?a16 ?l16 ?c16 ?k16 ?a17 ?l17 ?c17 ?k17 ?a18 ?l18 ?c18 ?k18 ?a19 ?l19 ?c19 ?k19 ?a20 ?l20 ?c20 ?k20 ?z_len ?z_isinstance ?z_int ?z_str ?z_tuple ?z_list ?z_bool ?z_range ?z_min ?z_ValueError ?z_super ?n_fig ?n_let ?n_Fun ?i_Fun_int ?i_Fun_str ?n_Built ?i_Built_int ?i_Built_str ?n_SE ?e_a ?e_cls ?e_bm ?e_sa ?e_ga ?e_gg ?e_no ?e_ic ?e_ca ?e_tc ?e_kc ?e_ex ?e_ve ?e_ty ?e_hd ?e_sup ?e_mro ?e_opq ?e_fn ?e_cell ?e_code ?e_vs ?e_cd ?e_te ?e_cg ?e_ct ?e_ob ?e_cl ?n_NoBack ?i_NoBack ?n_NoKind ?i_NoKind ?n_NoLevel ?i_NoLevel ?n_NoLine ?i_NoLine ?n_Fault ?i_Fault ?n_TooLong ?i_TooLong ?n_TooHigh ?i_TooHigh ?n_NoName ?i_NoName ?i_CB ?i_VE ?e_file ?e_top
    (case a0 => k_is)
    (case l0 => k_is)
    (case c0 => k_is)
    (case k0 => k_is)
    (case a1 => k_is)
    (case l1 => k_is)
    (case c1 => k_is)
    (case k1 => k_is)
    (case a2 => k_is)
    (case l2 => k_is)
    (case c2 => k_is)
    (case k2 => k_is)
    (case a3 => k_is)
    (case l3 => k_is)
    (case c3 => k_is)
    (case k3 => k_is)
    (case a4 => k_is)
    (case l4 => k_is)
    (case c4 => k_is)
    (case k4 => k_is)
    (case a5 => k_is)
    (case l5 => k_is)
    (case c5 => k_is)
    (case k5 => k_is)
    (case a6 => k_is)
    (case l6 => k_is)
    (case c6 => k_is)
    (case k6 => k_is)
    (case a7 => k_is)
    (case l7 => k_is)
    (case c7 => k_is)
    (case k7 => k_is)
    (case a8 => k_is)
    (case l8 => k_is)
    (case c8 => k_is)
    (case k8 => k_is)
    (case a9 => k_is)
    (case l9 => k_is)
    (case c9 => k_is)
    (case k9 => k_is)
    (case a10 => k_is)
    (case l10 => k_is)
    (case c10 => k_is)
    (case k10 => k_is)
    (case a11 => k_is)
    (case l11 => k_is)
    (case c11 => k_is)
    (case k11 => k_is)
    (case a12 => k_is)
    (case l12 => k_is)
    (case c12 => k_is)
    (case k12 => k_is)
    (case a13 => k_is)
    (case l13 => k_is)
    (case c13 => k_is)
    (case k13 => k_is)
    (case a14 => k_is)
    (case l14 => k_is)
    (case c14 => k_is)
    (case k14 => k_is)
    (case a15 => k_is)
    (case l15 => k_is)
    (case c15 => k_is)
    (case k15 => k_is)
    (case a16 => k_is)
    (case l16 => k_is)
    (case c16 => k_is)
    (case k16 => k_is)
    (case a17 => k_is)
    (case l17 => k_is)
    (case c17 => k_is)
    (case k17 => k_is)
    (case a18 => k_is)
    (case l18 => k_is)
    (case c18 => k_is)
    (case k18 => k_is)
    (case a19 => k_is)
    (case l19 => k_is)
    (case c19 => k_is)
    (case k19 => k_is)
    (case a20 => k_is)
    (case l20 => k_is)
    (case c20 => k_is)
    (case k20 => k_is)
    (case z_len => k_is)
    (case z_isinstance => k_is)
    (case z_int => k_is)
    (case z_str => k_is)
    (case z_tuple => k_is)
    (case z_list => k_is)
    (case z_bool => k_is)
    (case z_range => k_is)
    (case z_min => k_is)
    (case z_ValueError => k_is)
    (case z_super => k_is)
    (case n_fig => k_is)
    (case n_let => k_is)
    (case n_Fun => k_is)
    (case i_Fun_int => first | rfl | decide +kernel)
    (case i_Fun_str => first | rfl | decide +kernel)
    (case n_Built => k_is)
    (case i_Built_int => first | rfl | decide +kernel)
    (case i_Built_str => first | rfl | decide +kernel)
    (case n_SE => k_is)
    (case e_a => k_is)
    (case e_cls => k_is)
    (case e_bm => decide +kernel)
    (case e_sa => k_is)
    (case e_ga => k_is)
    (case e_gg => k_is)
    (case e_no => k_is)
    (case e_ic => k_is)
    (case e_ca => k_is)
    (case e_tc => k_is)
    (case e_kc => k_is)
    (case e_ex => k_is)
    (case e_ve => k_is)
    (case e_ty => k_is)
    (case e_hd => k_is)
    (case e_sup => first | ks_is | rfl | decide +kernel)
    (case e_mro => k_is)
    (case e_opq => k_is)
    (case e_fn => k_is)
    (case e_cell => k_is)
    (case e_code => k_is)
    (case e_vs => rfl)
    (case e_cd => k_is)
    (case e_te => first | k_is | rfl | decide +kernel)
    (case e_cg => k_is)
    (case e_ct => k_is)
    (case e_ob => k_is)
    (case e_cl => first | k_is | rfl | decide +kernel)
    (case n_NoBack => k_is)
    (case i_NoBack => first | rfl | decide +kernel)
    (case n_NoKind => k_is)
    (case i_NoKind => first | rfl | decide +kernel)
    (case n_NoLevel => k_is)
    (case i_NoLevel => first | rfl | decide +kernel)
    (case n_NoLine => k_is)
    (case i_NoLine => first | rfl | decide +kernel)
    (case n_Fault => k_is)
    (case i_Fault => first | rfl | decide +kernel)
    (case n_TooLong => k_is)
    (case i_TooLong => first | rfl | decide +kernel)
    (case n_TooHigh => k_is)
    (case i_TooHigh => first | rfl | decide +kernel)
    (case n_NoName => k_is)
    (case i_NoName => first | rfl | decide +kernel)
    (case i_CB => first | rfl | decide +kernel)
    (case i_VE => first | rfl | decide +kernel)
    (case e_file => first | rfl | decide +kernel)
    (case e_top => first | rfl | decide +kernel)
