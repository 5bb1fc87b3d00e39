import PyProof.Rows.All
import Wide.All
import OpenK.AllK
import Wide.FinOn
import HandS.ForMost
import HandS.Walk
import HandS.ForExc
import HandS.ExcInit
import HandS.ExcIs
import HandS.ExcValue
import KE.KExcIs
import HandS.IsInst
import HandS.Codes
import HandS.Wide
import KE.KExcSuper
import KE.KExcStr
import PySem.Challenge.RW_rillweb_k03_refusals_made_by_hand
set_option Elab.async false
set_option linter.all false
set_option maxRecDepth 100000
set_option maxHeartbeats 2000000
set_option exponentiation.threshold 20000
namespace K03
open PySem PySem.Spec PyProof.Rows
open PySem.W PySem.Calls
/-! ### super().__init__('..') and one attribute, in an own exception's __init__ -/
def top (i : Nat) : Stmt := PySem.Challenge.pw_rillweb_k03_refusals_made_by_hand.main.body.getD i (.Pass ⟨0, 0, 0, 0⟩)
abbrev sLong : Stmt := L2.inClass (top 5) 0
abbrev sWeb : Stmt := L2.inClass (top 6) 0
abbrev sPlace : Stmt := L2.inClass (top 11) 0
abbrev sBed : Stmt := L2.inClass (top 12) 0
/-- what the written part says of such a class, at C, and of its __init__, at fI -/
structure OwnX (prog : Program) (K : Frag) (mg : Str → Option Value) (C fI : Addr) (cn qual fld : Str) (st : Stmt) : Prop where
  gC : mg cn = some (.ref C)
  cls : ∃ nm q N bs bm sn sub ab col dd k0 k1 k2 k3 k5, K.lookup C = some (excClassObj nm q C N bs bm true sn sub ab col dd k0 k1 k2 k3 k5 "ValueError.__new__") ∧ HandSPX.refsVE bm = true
  sa : findIn K (.ref C) "__setattr__" = some (some (.builtin "object.__setattr__"))
  noN : findIn K (.ref C) fld = some none
  iC : findIn K (.ref C) "__init__" = some (some (.ref fI))
  tC : typeIn K (.ref fI) = some (.type "function")
  kC : keepIn K (.ref C) = true
  sup : ks_superIn K C C "__init__" = some (some (.builtin "ValueError.__init__"))
  opq : nsIn K cStatics "thirdparty.any" = some none
  sub : subIn K (.ref C) (.type "ValueError") = some true
  me : mroIn K C (.ref C) = some true
  ms : mg "super" = none
  top : (prog.main.scope.names.lookup ("super" : Str)).isSome = false
  fn : ∃ (oc : Value) (od : Option Addr) (kV doc pm : Value) (an : Option Addr) (cda : Addr) (ct : Value) (osl : Array (Option Value)) (cc : Addr),
    K.lookup fI = some ⟨oc, od, .func (ksFn "__init__" qual (L2.defArgs st) (L2.defBody st) (L2.defScope st) .none kV doc pm an (.ref cda) ct cc), osl⟩ ∧ codeIn K (.ref cda) qual = true ∧
    (∃ ccl cdd vs ccs file tf, K.lookup cda = some ⟨ccl, cdd, .fields vs, ccs⟩ ∧ vs[2]? = some (.str file tf) ∧ ((prog.main.file : Str) == file) = true) ∧ ∃ cl cld csl, K.lookup cc = some ⟨cl, cld, .cell (some (.ref C)), csl⟩
theorem ns_but {h h' : Heap} {L x : Addr} {m : Str → Option Value} (hn : h.Ns L m) (k : ∀ b o, b ≠ x → h.get? b = some o → h'.get? b = some o) (n : L ≠ x) : h'.Ns L m := by
  obtain ⟨oL, es, ep, hL, r⟩ := hn
  exact ⟨oL, es, ep, k _ _ n hL, r⟩
/-- what an __init__ leaves -/
structure Left (h h' : Heap) (x C dx t1 : Addr) (fld : Str) (v : Value) : Prop where
  keep : ∀ b o, b ≠ x → h.get? b = some o → h'.get? b = some o
  obj : h'.get? x = some { cls := .ref C, dict := some dx, data := .fields #[.ref t1, .none, .none, .none, .bool false, .none] }
  big : h.objs.size ≤ dx
  ne : dx ≠ x
  ns : h'.Ns1 dx (fun y => if y = fld then some v else none)
section
variable {prog : Program} {w : World} {A : Around} {E : Value → Shared → Prop} {R : Result → Shared → Prop} {s : Shared} {K : Frag} {mg mb : Str → Option Value} {C fI : Addr} {cn qual fld : Str}
/-- the wrapper of ValueError.__init__, called: the args are laid anew -/
theorem wrap_call {u e t0 : Addr} {rest : List Value} {Q : Value → Shared → Prop} {nm q : Str} {N : Addr} {bs bm : List Value} {hdct : Bool} {sn : List Str} {sub : List Value} {ab : Bool} {col : Option Bool} {dd : Option Addr} {k0 k1 k2 k3 k5 : Option Value}
    (hC : s.heap.get? C = some (excClassObj nm q C N bs bm hdct sn sub ab col dd k0 k1 k2 k3 k5 "ValueError.__new__")) (he : s.heap.get? e = some (HandSPX.excO C t0)) (hu : s.heap.get? u = some (kxs_mw "ValueError.__init__" e)) (hrest : rest.length ≤ sizeLine)
    (hq : ∀ h' t1, (∀ b o, b ≠ e → s.heap.get? b = some o → h'.get? b = some o) → h'.get? e = some (HandSPX.excO C t1) → Q .none { s with heap := h' }) :
    wpAny (model prog w) A (call (.ref u) rest) Q E s := by
  obtain ⟨hh, g, d, tk, os⟩ := s
  refine wpAny_call (codeAny_of_tree ?_)
  show wpAny _ A.in1 (callAny (.ref u) ⟨rest, []⟩) _ _ _
  simp only [callAny]
  refine wpAny_bind (wpAny_load hu ?_)
  simp only [kxs_mw, show (Value.type "method-wrapper" == Value.type "method" || Value.type "method-wrapper" == Value.type "builtin_function_or_method" || Value.type "method-wrapper" == Value.type "method-wrapper") = true by decide, if_true]
  refine KFB.if_so (by decide) ?_
  refine wpAny_bind (check_bound_init F.excBase_ValueError.toExcCallFacts hC he rfl ?_)
  refine wpAny_bind (wpAny_pure (wpAny_pure ?_))
  refine ⟨plainId_quiet F.excBase_ValueError.init.plain _, codeAny_builtin F.excBase_ValueError.initEntry ?_⟩
  exact exc_init_tree (cls := .ref C) (t0 := t0) (dv := none) (c2 := .none) (c3 := .none) (b4 := .bool false) he hrest fun h' keep obj _ => hq h' _ keep obj
end
end K03
namespace K03
open PySem PySem.Spec PyProof.Rows
open PySem.W PySem.Calls
section
variable {prog : Program} {w : World} {A : Around} {E : Value → Shared → Prop} {R : Result → Shared → Prop} {s : Shared} {K : Frag} {mg mb : Str → Option Value} {C fI : Addr} {cn qual : Str}

theorem init_long (T : OwnX prog K mg C fI cn qual "place" sLong) {x t0 : Addr} {v : Value} (X : K.In s.heap) (G : s.heap.Ns mainGlobals mg) (Bn : s.heap.Ns builtinsNs mb) (hbb : ∀ y : Str, y ≠ "__name__" → mb y = bootBuiltins y) (hlim : s.heap.NoLimit)
    (hx : s.heap.get? x = some (HandSPX.excO C t0)) (hnx : K.lookup x = none) (hroom : A.depth < recursionLimit)
    (hq : ∀ h' tk dx t1, Left s.heap h' x C dx t1 "place" v → R (.ok (.ret .none)) { s with heap := h', toks := tk }) :
    codeAny (model prog w) A (.call (.ref fI) ⟨[.ref x, v], []⟩) R s := by
  obtain ⟨oc, od, kV, doc, pm, an, cda, ct, osl, cc, ho, hcd, ⟨ccl, cdd, vs, ccs, file, tf, hcode, hvs, hfile⟩, cl, cld, csl, hcell⟩ := T.fn
  obtain ⟨nm, q, N, bs, bm, sn, sub, ab, col, dd, k0, k1, k2, k3, k5, hC, hbm⟩ := T.cls
  have hcl : clsIn K C = some { name := nm, bases := bs, mro := .ref C :: bm, ns := N, qualname := q, hasDict := true, slotNames := sn, subclasses := sub, abstract := ab, collection := col, hasDel := false } := by unfold clsIn; rw [hC] <;> rfl
  refine ks_codeAny_call_defAt (fd := ksFn "__init__" qual (L2.defArgs sLong) (L2.defBody sLong) (L2.defScope sLong) .none kV doc pm an (.ref cda) ct cc) (body := L2.defBody sLong) (binds := [("self", .ref x), ("place", v)])
    hroom (X _ _ ho) rfl hlim (codeRec_of X hcd) rfl (BindsTo.of_eq rfl) (show ∀ y ∈ (L2.defScope sLong).names, y.2 ≠ .cell by decide +kernel) (locs rfl) (fun h₁ hns k₁ => ?_) rfl rfl rfl
  have X₁ : K.In h₁ := X.keeps k₁
  have hx₁ := k₁ _ _ hx
  have xL : s.heap.objs.size ≠ x := Nat.ne_of_gt (Heap.lt_size hx)
  show _root_.PySem.wpAt _ _ _ (execs _ (ksEnv qual (L2.defScope sLong) s.heap.objs.size fI (.ref cda) cc)) _ _ _
  refine ks_wpAt_execs_cons (ks_wpAt_Expr_any (ks_wpAt_MethodCall ?_))
  refine ks_wpAt_super_base (env := ksEnv qual (L2.defScope sLong) s.heap.objs.size fI (.ref cda) cc) rfl rfl rfl rfl (X₁ _ _ ho) rfl rfl rfl (X₁ _ _ hcode) rfl hvs hfile T.top ?_
  refine ks_loadName_global rfl rfl (loadGlobal_builtin (env := ksEnv qual (L2.defScope sLong) s.heap.objs.size fI (.ref cda) cc) (G.keeps k₁) T.ms (Bn.keeps k₁) ((hbb _ (by decide +kernel)).trans (by kernel_rfl)) ⟨rfl, ?_⟩)
  refine wpAny_loadName_free rfl rfl rfl ⟨_, X₁ _ _ hcell, rfl⟩ ?_
  refine wpAny_loadName_local rfl rfl hns rfl ?_
  refine ks_wpAny_isType_cls (X₁ _ _ hC) rfl ⟨rfl, ?_⟩
  refine ks_wpAny_call_super (X₁ _ _ hC) rfl hx₁ rfl (fun c e => by cases e) (looks_mroIn X₁ T.me) (fun h₂ e₂ k₂ => ?_)
  have X₂ : K.In h₂ := X₁.keeps k₂
  have hx₂ := k₂ _ _ hx₁
  have I₂ : InstAt h₂ x (HandSPX.excO C t0) C none := ⟨hx₂, rfl, rfl, trivial⟩
  have hsup := T.sup
  unfold ks_superIn at hsup
  rw [hcl] at hsup
  refine kxs_getMethod kxs_ValueError e₂ (looks_opaque X₂ T.opq) (l₀ := .ref C :: bm) (fun A Q E s k q => wpAny_bind ((looks_clsIn X₂ hcl) A _ E s k (wpAny_pure q))) rfl X₂ hsup (I₂.type.andThen (looks_subIn X₂ T.sub)) (ks_ne X₂ I₂ hcl) rfl ?_
  have k₃ : ∀ b o, h₂.get? b = some o → (h₂.push (kxs_mw "ValueError.__init__" x)).get? b = some o := fun b o e => Heap.get?_push_of_some _ e
  have hu₃ : (h₂.push (kxs_mw "ValueError.__init__" x)).get? h₂.objs.size = some (kxs_mw "ValueError.__init__" x) := Heap.get?_push_at rfl rfl
  refine kxs_callWith (i := "ValueError.__init__") (x := x) rfl (evalArgs_plain (Calls.spliced_cons (Calls.Constant_str (k := 0) (pos := ⟨0, 0, 0, 0⟩) (Calls.spliced_nil ⟨hu₃, ?_⟩))))
  refine wrap_call (X₂.keeps k₃ _ _ hC) (k₃ _ _ hx₂) hu₃ (by show 1 ≤ sizeLine; rw [sizeLine_eq]; decide) fun h₄ t₄ k₄ hx₄ => ?_
  have k₁₄ : ∀ b o, b ≠ x → h₁.get? b = some o → h₄.get? b = some o := fun b o hb e => k₄ b o hb (k₃ b o (k₂ b o e))
  have k₀₄ : ∀ b o, b ≠ x → s.heap.get? b = some o → h₄.get? b = some o := fun b o hb e => k₁₄ b o hb (k₁ b o e)
  have X₄ : K.In h₄ := fun a o e => k₁₄ a o (fun z => by rw [z, hnx] at e; cases e) (X₁ a o e)
  have hns₄ := ns_but hns k₁₄ xL
  have z₁ : s.heap.objs.size < h₁.objs.size := hns.lt
  have z₄ : s.heap.objs.size < h₄.objs.size := hns₄.lt
  refine ks_wpAt_execs_cons (wpAt_of_wpAny (plainObj_wpAny_Assign_Attribute ?_))
  refine wpAny_Name (wpAny_loadName_local rfl rfl hns₄ rfl ?_) (by decide)
  refine wpAny_Name (wpAny_loadName_local rfl rfl hns₄ rfl ?_) (by decide)
  refine set_plain X₄ (ox := HandSPX.excO C t₄) (od := none) ⟨hx₄, rfl, rfl, trivial⟩ T.sa ?_
  refine HandSPX.exc_osa X₄ hx₄ hcl (show HandSPX.refsVE (.ref C :: bm) = true from hbm) rfl T.noN (fun h₅ tk₅ dx k₅ dn dne hx₅ hn₅ => ?_)
  show _root_.PySem.wpAt _ _ _ (execs _ _) _ _ _
  exact wpAt_of_wpAny (wpAny_execs_nil (hq h₅ tk₅ dx t₄ ⟨fun b o hb e => k₅ b o hb (k₀₄ b o hb e), hx₅, Nat.le_of_lt (Nat.lt_of_lt_of_le z₄ dn), dne, hn₅⟩))

theorem init_web (T : OwnX prog K mg C fI cn qual "part" sWeb) {x t0 : Addr} {v : Value} (X : K.In s.heap) (G : s.heap.Ns mainGlobals mg) (Bn : s.heap.Ns builtinsNs mb) (hbb : ∀ y : Str, y ≠ "__name__" → mb y = bootBuiltins y) (hlim : s.heap.NoLimit)
    (hx : s.heap.get? x = some (HandSPX.excO C t0)) (hnx : K.lookup x = none) (hroom : A.depth < recursionLimit)
    (hq : ∀ h' tk dx t1, Left s.heap h' x C dx t1 "part" v → R (.ok (.ret .none)) { s with heap := h', toks := tk }) :
    codeAny (model prog w) A (.call (.ref fI) ⟨[.ref x, v], []⟩) R s := by
  obtain ⟨oc, od, kV, doc, pm, an, cda, ct, osl, cc, ho, hcd, ⟨ccl, cdd, vs, ccs, file, tf, hcode, hvs, hfile⟩, cl, cld, csl, hcell⟩ := T.fn
  obtain ⟨nm, q, N, bs, bm, sn, sub, ab, col, dd, k0, k1, k2, k3, k5, hC, hbm⟩ := T.cls
  have hcl : clsIn K C = some { name := nm, bases := bs, mro := .ref C :: bm, ns := N, qualname := q, hasDict := true, slotNames := sn, subclasses := sub, abstract := ab, collection := col, hasDel := false } := by unfold clsIn; rw [hC] <;> rfl
  refine ks_codeAny_call_defAt (fd := ksFn "__init__" qual (L2.defArgs sWeb) (L2.defBody sWeb) (L2.defScope sWeb) .none kV doc pm an (.ref cda) ct cc) (body := L2.defBody sWeb) (binds := [("self", .ref x), ("part", v)])
    hroom (X _ _ ho) rfl hlim (codeRec_of X hcd) rfl (BindsTo.of_eq rfl) (show ∀ y ∈ (L2.defScope sWeb).names, y.2 ≠ .cell by decide +kernel) (locs rfl) (fun h₁ hns k₁ => ?_) rfl rfl rfl
  have X₁ : K.In h₁ := X.keeps k₁
  have hx₁ := k₁ _ _ hx
  have xL : s.heap.objs.size ≠ x := Nat.ne_of_gt (Heap.lt_size hx)
  show _root_.PySem.wpAt _ _ _ (execs _ (ksEnv qual (L2.defScope sWeb) s.heap.objs.size fI (.ref cda) cc)) _ _ _
  refine ks_wpAt_execs_cons (ks_wpAt_Expr_any (ks_wpAt_MethodCall ?_))
  refine ks_wpAt_super_base (env := ksEnv qual (L2.defScope sWeb) s.heap.objs.size fI (.ref cda) cc) rfl rfl rfl rfl (X₁ _ _ ho) rfl rfl rfl (X₁ _ _ hcode) rfl hvs hfile T.top ?_
  refine ks_loadName_global rfl rfl (loadGlobal_builtin (env := ksEnv qual (L2.defScope sWeb) s.heap.objs.size fI (.ref cda) cc) (G.keeps k₁) T.ms (Bn.keeps k₁) ((hbb _ (by decide +kernel)).trans (by kernel_rfl)) ⟨rfl, ?_⟩)
  refine wpAny_loadName_free rfl rfl rfl ⟨_, X₁ _ _ hcell, rfl⟩ ?_
  refine wpAny_loadName_local rfl rfl hns rfl ?_
  refine ks_wpAny_isType_cls (X₁ _ _ hC) rfl ⟨rfl, ?_⟩
  refine ks_wpAny_call_super (X₁ _ _ hC) rfl hx₁ rfl (fun c e => by cases e) (looks_mroIn X₁ T.me) (fun h₂ e₂ k₂ => ?_)
  have X₂ : K.In h₂ := X₁.keeps k₂
  have hx₂ := k₂ _ _ hx₁
  have I₂ : InstAt h₂ x (HandSPX.excO C t0) C none := ⟨hx₂, rfl, rfl, trivial⟩
  have hsup := T.sup
  unfold ks_superIn at hsup
  rw [hcl] at hsup
  refine kxs_getMethod kxs_ValueError e₂ (looks_opaque X₂ T.opq) (l₀ := .ref C :: bm) (fun A Q E s k q => wpAny_bind ((looks_clsIn X₂ hcl) A _ E s k (wpAny_pure q))) rfl X₂ hsup (I₂.type.andThen (looks_subIn X₂ T.sub)) (ks_ne X₂ I₂ hcl) rfl ?_
  have k₃ : ∀ b o, h₂.get? b = some o → (h₂.push (kxs_mw "ValueError.__init__" x)).get? b = some o := fun b o e => Heap.get?_push_of_some _ e
  have hu₃ : (h₂.push (kxs_mw "ValueError.__init__" x)).get? h₂.objs.size = some (kxs_mw "ValueError.__init__" x) := Heap.get?_push_at rfl rfl
  refine kxs_callWith (i := "ValueError.__init__") (x := x) rfl (evalArgs_plain (Calls.spliced_cons (Calls.Constant_str (k := 0) (pos := ⟨0, 0, 0, 0⟩) (Calls.spliced_nil ⟨hu₃, ?_⟩))))
  refine wrap_call (X₂.keeps k₃ _ _ hC) (k₃ _ _ hx₂) hu₃ (by show 1 ≤ sizeLine; rw [sizeLine_eq]; decide) fun h₄ t₄ k₄ hx₄ => ?_
  have k₁₄ : ∀ b o, b ≠ x → h₁.get? b = some o → h₄.get? b = some o := fun b o hb e => k₄ b o hb (k₃ b o (k₂ b o e))
  have k₀₄ : ∀ b o, b ≠ x → s.heap.get? b = some o → h₄.get? b = some o := fun b o hb e => k₁₄ b o hb (k₁ b o e)
  have X₄ : K.In h₄ := fun a o e => k₁₄ a o (fun z => by rw [z, hnx] at e; cases e) (X₁ a o e)
  have hns₄ := ns_but hns k₁₄ xL
  have z₁ : s.heap.objs.size < h₁.objs.size := hns.lt
  have z₄ : s.heap.objs.size < h₄.objs.size := hns₄.lt
  refine ks_wpAt_execs_cons (wpAt_of_wpAny (plainObj_wpAny_Assign_Attribute ?_))
  refine wpAny_Name (wpAny_loadName_local rfl rfl hns₄ rfl ?_) (by decide)
  refine wpAny_Name (wpAny_loadName_local rfl rfl hns₄ rfl ?_) (by decide)
  refine set_plain X₄ (ox := HandSPX.excO C t₄) (od := none) ⟨hx₄, rfl, rfl, trivial⟩ T.sa ?_
  refine HandSPX.exc_osa X₄ hx₄ hcl (show HandSPX.refsVE (.ref C :: bm) = true from hbm) rfl T.noN (fun h₅ tk₅ dx k₅ dn dne hx₅ hn₅ => ?_)
  show _root_.PySem.wpAt _ _ _ (execs _ _) _ _ _
  exact wpAt_of_wpAny (wpAny_execs_nil (hq h₅ tk₅ dx t₄ ⟨fun b o hb e => k₅ b o hb (k₀₄ b o hb e), hx₅, Nat.le_of_lt (Nat.lt_of_lt_of_le z₄ dn), dne, hn₅⟩))

theorem init_place (T : OwnX prog K mg C fI cn qual "place" sPlace) {x t0 : Addr} {v : Value} (X : K.In s.heap) (G : s.heap.Ns mainGlobals mg) (Bn : s.heap.Ns builtinsNs mb) (hbb : ∀ y : Str, y ≠ "__name__" → mb y = bootBuiltins y) (hlim : s.heap.NoLimit)
    (hx : s.heap.get? x = some (HandSPX.excO C t0)) (hnx : K.lookup x = none) (hroom : A.depth < recursionLimit)
    (hq : ∀ h' tk dx t1, Left s.heap h' x C dx t1 "place" v → R (.ok (.ret .none)) { s with heap := h', toks := tk }) :
    codeAny (model prog w) A (.call (.ref fI) ⟨[.ref x, v], []⟩) R s := by
  obtain ⟨oc, od, kV, doc, pm, an, cda, ct, osl, cc, ho, hcd, ⟨ccl, cdd, vs, ccs, file, tf, hcode, hvs, hfile⟩, cl, cld, csl, hcell⟩ := T.fn
  obtain ⟨nm, q, N, bs, bm, sn, sub, ab, col, dd, k0, k1, k2, k3, k5, hC, hbm⟩ := T.cls
  have hcl : clsIn K C = some { name := nm, bases := bs, mro := .ref C :: bm, ns := N, qualname := q, hasDict := true, slotNames := sn, subclasses := sub, abstract := ab, collection := col, hasDel := false } := by unfold clsIn; rw [hC] <;> rfl
  refine ks_codeAny_call_defAt (fd := ksFn "__init__" qual (L2.defArgs sPlace) (L2.defBody sPlace) (L2.defScope sPlace) .none kV doc pm an (.ref cda) ct cc) (body := L2.defBody sPlace) (binds := [("self", .ref x), ("place", v)])
    hroom (X _ _ ho) rfl hlim (codeRec_of X hcd) rfl (BindsTo.of_eq rfl) (show ∀ y ∈ (L2.defScope sPlace).names, y.2 ≠ .cell by decide +kernel) (locs rfl) (fun h₁ hns k₁ => ?_) rfl rfl rfl
  have X₁ : K.In h₁ := X.keeps k₁
  have hx₁ := k₁ _ _ hx
  have xL : s.heap.objs.size ≠ x := Nat.ne_of_gt (Heap.lt_size hx)
  show _root_.PySem.wpAt _ _ _ (execs _ (ksEnv qual (L2.defScope sPlace) s.heap.objs.size fI (.ref cda) cc)) _ _ _
  refine ks_wpAt_execs_cons (ks_wpAt_Expr_any (ks_wpAt_MethodCall ?_))
  refine ks_wpAt_super_base (env := ksEnv qual (L2.defScope sPlace) s.heap.objs.size fI (.ref cda) cc) rfl rfl rfl rfl (X₁ _ _ ho) rfl rfl rfl (X₁ _ _ hcode) rfl hvs hfile T.top ?_
  refine ks_loadName_global rfl rfl (loadGlobal_builtin (env := ksEnv qual (L2.defScope sPlace) s.heap.objs.size fI (.ref cda) cc) (G.keeps k₁) T.ms (Bn.keeps k₁) ((hbb _ (by decide +kernel)).trans (by kernel_rfl)) ⟨rfl, ?_⟩)
  refine wpAny_loadName_free rfl rfl rfl ⟨_, X₁ _ _ hcell, rfl⟩ ?_
  refine wpAny_loadName_local rfl rfl hns rfl ?_
  refine ks_wpAny_isType_cls (X₁ _ _ hC) rfl ⟨rfl, ?_⟩
  refine ks_wpAny_call_super (X₁ _ _ hC) rfl hx₁ rfl (fun c e => by cases e) (looks_mroIn X₁ T.me) (fun h₂ e₂ k₂ => ?_)
  have X₂ : K.In h₂ := X₁.keeps k₂
  have hx₂ := k₂ _ _ hx₁
  have I₂ : InstAt h₂ x (HandSPX.excO C t0) C none := ⟨hx₂, rfl, rfl, trivial⟩
  have hsup := T.sup
  unfold ks_superIn at hsup
  rw [hcl] at hsup
  refine kxs_getMethod kxs_ValueError e₂ (looks_opaque X₂ T.opq) (l₀ := .ref C :: bm) (fun A Q E s k q => wpAny_bind ((looks_clsIn X₂ hcl) A _ E s k (wpAny_pure q))) rfl X₂ hsup (I₂.type.andThen (looks_subIn X₂ T.sub)) (ks_ne X₂ I₂ hcl) rfl ?_
  have k₃ : ∀ b o, h₂.get? b = some o → (h₂.push (kxs_mw "ValueError.__init__" x)).get? b = some o := fun b o e => Heap.get?_push_of_some _ e
  have hu₃ : (h₂.push (kxs_mw "ValueError.__init__" x)).get? h₂.objs.size = some (kxs_mw "ValueError.__init__" x) := Heap.get?_push_at rfl rfl
  refine kxs_callWith (i := "ValueError.__init__") (x := x) rfl (evalArgs_plain (Calls.spliced_cons (Calls.Constant_str (k := 0) (pos := ⟨0, 0, 0, 0⟩) (Calls.spliced_nil ⟨hu₃, ?_⟩))))
  refine wrap_call (X₂.keeps k₃ _ _ hC) (k₃ _ _ hx₂) hu₃ (by show 1 ≤ sizeLine; rw [sizeLine_eq]; decide) fun h₄ t₄ k₄ hx₄ => ?_
  have k₁₄ : ∀ b o, b ≠ x → h₁.get? b = some o → h₄.get? b = some o := fun b o hb e => k₄ b o hb (k₃ b o (k₂ b o e))
  have k₀₄ : ∀ b o, b ≠ x → s.heap.get? b = some o → h₄.get? b = some o := fun b o hb e => k₁₄ b o hb (k₁ b o e)
  have X₄ : K.In h₄ := fun a o e => k₁₄ a o (fun z => by rw [z, hnx] at e; cases e) (X₁ a o e)
  have hns₄ := ns_but hns k₁₄ xL
  have z₁ : s.heap.objs.size < h₁.objs.size := hns.lt
  have z₄ : s.heap.objs.size < h₄.objs.size := hns₄.lt
  refine ks_wpAt_execs_cons (wpAt_of_wpAny (plainObj_wpAny_Assign_Attribute ?_))
  refine wpAny_Name (wpAny_loadName_local rfl rfl hns₄ rfl ?_) (by decide)
  refine wpAny_Name (wpAny_loadName_local rfl rfl hns₄ rfl ?_) (by decide)
  refine set_plain X₄ (ox := HandSPX.excO C t₄) (od := none) ⟨hx₄, rfl, rfl, trivial⟩ T.sa ?_
  refine HandSPX.exc_osa X₄ hx₄ hcl (show HandSPX.refsVE (.ref C :: bm) = true from hbm) rfl T.noN (fun h₅ tk₅ dx k₅ dn dne hx₅ hn₅ => ?_)
  show _root_.PySem.wpAt _ _ _ (execs _ _) _ _ _
  exact wpAt_of_wpAny (wpAny_execs_nil (hq h₅ tk₅ dx t₄ ⟨fun b o hb e => k₅ b o hb (k₀₄ b o hb e), hx₅, Nat.le_of_lt (Nat.lt_of_lt_of_le z₄ dn), dne, hn₅⟩))

theorem init_bed (T : OwnX prog K mg C fI cn qual "bed" sBed) {x t0 : Addr} {v : Value} (X : K.In s.heap) (G : s.heap.Ns mainGlobals mg) (Bn : s.heap.Ns builtinsNs mb) (hbb : ∀ y : Str, y ≠ "__name__" → mb y = bootBuiltins y) (hlim : s.heap.NoLimit)
    (hx : s.heap.get? x = some (HandSPX.excO C t0)) (hnx : K.lookup x = none) (hroom : A.depth < recursionLimit)
    (hq : ∀ h' tk dx t1, Left s.heap h' x C dx t1 "bed" v → R (.ok (.ret .none)) { s with heap := h', toks := tk }) :
    codeAny (model prog w) A (.call (.ref fI) ⟨[.ref x, v], []⟩) R s := by
  obtain ⟨oc, od, kV, doc, pm, an, cda, ct, osl, cc, ho, hcd, ⟨ccl, cdd, vs, ccs, file, tf, hcode, hvs, hfile⟩, cl, cld, csl, hcell⟩ := T.fn
  obtain ⟨nm, q, N, bs, bm, sn, sub, ab, col, dd, k0, k1, k2, k3, k5, hC, hbm⟩ := T.cls
  have hcl : clsIn K C = some { name := nm, bases := bs, mro := .ref C :: bm, ns := N, qualname := q, hasDict := true, slotNames := sn, subclasses := sub, abstract := ab, collection := col, hasDel := false } := by unfold clsIn; rw [hC] <;> rfl
  refine ks_codeAny_call_defAt (fd := ksFn "__init__" qual (L2.defArgs sBed) (L2.defBody sBed) (L2.defScope sBed) .none kV doc pm an (.ref cda) ct cc) (body := L2.defBody sBed) (binds := [("self", .ref x), ("bed", v)])
    hroom (X _ _ ho) rfl hlim (codeRec_of X hcd) rfl (BindsTo.of_eq rfl) (show ∀ y ∈ (L2.defScope sBed).names, y.2 ≠ .cell by decide +kernel) (locs rfl) (fun h₁ hns k₁ => ?_) rfl rfl rfl
  have X₁ : K.In h₁ := X.keeps k₁
  have hx₁ := k₁ _ _ hx
  have xL : s.heap.objs.size ≠ x := Nat.ne_of_gt (Heap.lt_size hx)
  show _root_.PySem.wpAt _ _ _ (execs _ (ksEnv qual (L2.defScope sBed) s.heap.objs.size fI (.ref cda) cc)) _ _ _
  refine ks_wpAt_execs_cons (ks_wpAt_Expr_any (ks_wpAt_MethodCall ?_))
  refine ks_wpAt_super_base (env := ksEnv qual (L2.defScope sBed) s.heap.objs.size fI (.ref cda) cc) rfl rfl rfl rfl (X₁ _ _ ho) rfl rfl rfl (X₁ _ _ hcode) rfl hvs hfile T.top ?_
  refine ks_loadName_global rfl rfl (loadGlobal_builtin (env := ksEnv qual (L2.defScope sBed) s.heap.objs.size fI (.ref cda) cc) (G.keeps k₁) T.ms (Bn.keeps k₁) ((hbb _ (by decide +kernel)).trans (by kernel_rfl)) ⟨rfl, ?_⟩)
  refine wpAny_loadName_free rfl rfl rfl ⟨_, X₁ _ _ hcell, rfl⟩ ?_
  refine wpAny_loadName_local rfl rfl hns rfl ?_
  refine ks_wpAny_isType_cls (X₁ _ _ hC) rfl ⟨rfl, ?_⟩
  refine ks_wpAny_call_super (X₁ _ _ hC) rfl hx₁ rfl (fun c e => by cases e) (looks_mroIn X₁ T.me) (fun h₂ e₂ k₂ => ?_)
  have X₂ : K.In h₂ := X₁.keeps k₂
  have hx₂ := k₂ _ _ hx₁
  have I₂ : InstAt h₂ x (HandSPX.excO C t0) C none := ⟨hx₂, rfl, rfl, trivial⟩
  have hsup := T.sup
  unfold ks_superIn at hsup
  rw [hcl] at hsup
  refine kxs_getMethod kxs_ValueError e₂ (looks_opaque X₂ T.opq) (l₀ := .ref C :: bm) (fun A Q E s k q => wpAny_bind ((looks_clsIn X₂ hcl) A _ E s k (wpAny_pure q))) rfl X₂ hsup (I₂.type.andThen (looks_subIn X₂ T.sub)) (ks_ne X₂ I₂ hcl) rfl ?_
  have k₃ : ∀ b o, h₂.get? b = some o → (h₂.push (kxs_mw "ValueError.__init__" x)).get? b = some o := fun b o e => Heap.get?_push_of_some _ e
  have hu₃ : (h₂.push (kxs_mw "ValueError.__init__" x)).get? h₂.objs.size = some (kxs_mw "ValueError.__init__" x) := Heap.get?_push_at rfl rfl
  refine kxs_callWith (i := "ValueError.__init__") (x := x) rfl (evalArgs_plain (Calls.spliced_cons (Calls.Constant_str (k := 0) (pos := ⟨0, 0, 0, 0⟩) (Calls.spliced_nil ⟨hu₃, ?_⟩))))
  refine wrap_call (X₂.keeps k₃ _ _ hC) (k₃ _ _ hx₂) hu₃ (by show 1 ≤ sizeLine; rw [sizeLine_eq]; decide) fun h₄ t₄ k₄ hx₄ => ?_
  have k₁₄ : ∀ b o, b ≠ x → h₁.get? b = some o → h₄.get? b = some o := fun b o hb e => k₄ b o hb (k₃ b o (k₂ b o e))
  have k₀₄ : ∀ b o, b ≠ x → s.heap.get? b = some o → h₄.get? b = some o := fun b o hb e => k₁₄ b o hb (k₁ b o e)
  have X₄ : K.In h₄ := fun a o e => k₁₄ a o (fun z => by rw [z, hnx] at e; cases e) (X₁ a o e)
  have hns₄ := ns_but hns k₁₄ xL
  have z₁ : s.heap.objs.size < h₁.objs.size := hns.lt
  have z₄ : s.heap.objs.size < h₄.objs.size := hns₄.lt
  refine ks_wpAt_execs_cons (wpAt_of_wpAny (plainObj_wpAny_Assign_Attribute ?_))
  refine wpAny_Name (wpAny_loadName_local rfl rfl hns₄ rfl ?_) (by decide)
  refine wpAny_Name (wpAny_loadName_local rfl rfl hns₄ rfl ?_) (by decide)
  refine set_plain X₄ (ox := HandSPX.excO C t₄) (od := none) ⟨hx₄, rfl, rfl, trivial⟩ T.sa ?_
  refine HandSPX.exc_osa X₄ hx₄ hcl (show HandSPX.refsVE (.ref C :: bm) = true from hbm) rfl T.noN (fun h₅ tk₅ dx k₅ dn dne hx₅ hn₅ => ?_)
  show _root_.PySem.wpAt _ _ _ (execs _ _) _ _ _
  exact wpAt_of_wpAny (wpAny_execs_nil (hq h₅ tk₅ dx t₄ ⟨fun b o hb e => k₅ b o hb (k₀₄ b o hb e), hx₅, Nat.le_of_lt (Nat.lt_of_lt_of_le z₄ dn), dne, hn₅⟩))
end
end K03
namespace K03
open PySem PySem.Spec PyProof.Rows L2
/-! ### such an exception as a tracked object -/
/-- at a: an exception of the class at C with no dict of its own, its args at t -/
def exP (a C t : Addr) : HO := .ext fun h => h.get? a = some (PySem.HandSPX.excO C t)
theorem exP_ok {P : Program} {w : World} {H : Hp} {h : Heap} {a C t : Addr} (e : h.get? a = some (PySem.HandSPX.excO C t)) : ObjOk P w H h a (exP a C t) := ⟨e, ⟨_, e⟩, fun _ _ z k => k _ z⟩
theorem exP_at {P : Program} {w : World} {H : Hp} {h : Heap} {a C t : Addr} (hok : HOk P w H h) (e : H a = some (exP a C t)) : h.get? a = some (PySem.HandSPX.excO C t) := by
  have x : ObjOk P w H h a (.ext fun h => h.get? a = some (PySem.HandSPX.excO C t)) := hok a _ e
  exact x.1
/-- the heap without a place that is new -/
theorem part {h h' : Heap} {a : Addr} (k : ∀ b o, h.get? b = some o → h'.get? b = some o) (n : h.get? a = none) :
    ∃ G : Heap, (∀ b o, h.get? b = some o → G.get? b = some o) ∧ (∀ b o, G.get? b = some o → h'.get? b = some o) ∧ G.get? a = none ∧ ∀ b, b ≠ a → G.get? b = h'.get? b := by
  obtain ⟨G, g1, g2⟩ := restrict h' fun b => decide (b ≠ a)
  have gk : ∀ b, b ≠ a → G.get? b = h'.get? b := fun b hb => g1 b (decide_eq_true hb)
  have ga : G.get? a = none := g2 a (by simp)
  refine ⟨G, fun b o e => ?_, fun b o e => ?_, ga, gk⟩
  · exact (gk b (fun z => by rw [z, n] at e; cases e)).trans (k b o e)
  · by_cases hb : b = a
    · rw [hb, ga] at e; cases e
    · exact (gk b hb).symm.trans e
section
variable {X : Cx} {pins : List (Addr × Obj)} {σ : L2.St} {H : Hp} {s : Shared}
/-- two new objects laid at once -/
theorem laid2 {h' : Heap} {a d : Addr} {oa od : HO} {tk : Nat} (I : Inv X pins σ H s) (k : ∀ b o, s.heap.get? b = some o → h'.get? b = some o) (na : s.heap.get? a = none) (nd : s.heap.get? d = none) (ne : d ≠ a)
    (od_ : ∀ G : Heap, (∀ o, h'.get? d = some o → G.get? d = some o) → ObjOk X.prog X.w (upd H d od) G d od) (oa_ : ObjOk X.prog X.w (upd (upd H d od) a oa) h' a oa) :
    H d = none ∧ H a = none ∧ Inv X pins σ (upd (upd H d od) a oa) { s with heap := h', toks := tk } := by
  obtain ⟨G, k1, k2, ga, gk⟩ := part k na
  have Hd := I.hok.gone nd
  have Ha := I.hok.gone na
  have I1 : Inv X pins σ (upd H d od) { s with heap := G, toks := tk } := I.laidN k1 nd Hd (od_ G fun o e => (gk d ne).trans e)
  exact ⟨Hd, Ha, I1.laidN (s := { s with heap := G, toks := tk }) k2 ga (by rw [upd_ne (Ne.symm ne)]; exact Ha) oa_⟩
/-- C(e): a plain one of these exceptions -/
def tPlain (C : Addr) (ta : TE) : TE := fun σ H Q => ta σ H fun x H1 => ∀ t a, H1 t = none → H1 a = none → t ≠ a → Q (.ref a) (upd (upd H1 t (.tup [x])) a (exP a C t))
theorem pe_plain {C : Addr} {bmB : List Value} {B newId initId : String} {x : Str} {e : Expr} {ta : TE} {p pos : Pos} (F : ExcBaseFacts B newId initId bmB) (q : PySem.W.excIn X.K C bmB newId = true) (gC : X.mg x = some (.ref C)) (kC : PySem.W.keepIn X.K (.ref C) = true) (hg : Gl X x)
    (he : PE X e ta) (hs : starEach [e] X.env = (false, eval e X.env) :: starEach [] X.env := by rfl) (hdb : (x == ("__debug__" : Str)) = false := by decide) :
    PE X (.Call (.Name x p) [e] [] pos) (tPlain C ta) := by
  refine ⟨fun pins s σ H Q I h => ?_⟩
  refine wpAny_Call_Name_kw (ld_glob I hg gC ?_ hdb)
  refine PySem.W.callWith_K (h₀ := X.base) I.ok.mod.kin kC ?_ hs (by rfl)
  rw [hs]
  show wpAny _ _ (spliced ((false, eval e X.env) :: backTo pos (starEach [] X.env))) _ _ s
  refine Calls.spliced_cons (thn (he.run pins s σ H _ I h) fun u s1 ⟨v, H1, I1, r1, q1⟩ => ?_)
  refine Calls.spliced_nil ⟨I1.kIn, ?_⟩
  show wpAny _ _ (call (.ref C) [u]) _ _ _
  obtain ⟨bm, N, nm, qn, bs, hdct, sn, sub, ab, col, dd, k0, k1, k2, k3, k5, mN, hC, hN, hni, T⟩ := exc_obj I1.kIn q
  refine wpAny_call_exc_subT F T hC hN hni (fun h' a hm => ?_) (by show 1 ≤ sizeLine; rw [sizeLine_eq]; omega)
  obtain ⟨t, ha, tn, ht⟩ := hm.there
  have ne : t ≠ a := fun z => by rw [z, ha] at ht; cases ht
  obtain ⟨Ht, Ha, J⟩ := laid2 (tk := s1.toks) (oa := exP a C t) (od := .tup [v]) I1 hm.keeps hm.new tn ne
    (fun G g => ⟨by show 1 ≤ sizeLine; rw [sizeLine_eq]; omega, [u], .cons r1 .nil, ⟨_, g _ ht, rfl, _, rfl⟩⟩) (exP_ok ha)
  exact ⟨.ref a, _, J, rfl, q1 t a Ht Ha ne⟩
end
end K03
namespace K03
open PySem PySem.Spec PyProof.Rows L2
/-! ### C(e): one of the four with an __init__ of their own -/
/-- the __init__ at fI, called with an object and a value, does its part -/
def InitOk (prog : Program) (w : World) (K : PySem.W.Frag) (mg : Str → Option Value) (C fI : Addr) (fld : Str) : Prop :=
  ∀ (A : Around) (R : Result → Shared → Prop) (s : Shared) (mb : Str → Option Value) (x t0 : Addr) (v : Value), K.In s.heap → s.heap.Ns mainGlobals mg → s.heap.Ns builtinsNs mb → (∀ y : Str, y ≠ "__name__" → mb y = bootBuiltins y) → s.heap.NoLimit →
    s.heap.get? x = some (PySem.HandSPX.excO C t0) → K.lookup x = none → A.depth < recursionLimit → (∀ h' tk dx t1, Left s.heap h' x C dx t1 fld v → R (.ok (.ret .none)) { s with heap := h', toks := tk }) →
    codeAny (model prog w) A (.call (.ref fI) ⟨[.ref x, v], []⟩) R s
/-- what a call of the class leaves -/
structure Made (h h' : Heap) (e C d t1 : Addr) (fld : Str) (v : Value) : Prop where
  keep : ∀ b o, h.get? b = some o → h'.get? b = some o
  new : h.get? e = none
  obj : h'.get? e = some { cls := .ref C, dict := some d, data := .fields #[.ref t1, .none, .none, .none, .bool false, .none] }
  dnew : h.get? d = none
  dne : d ≠ e
  ns : h'.Ns1 d (fun y => if y = fld then some v else none)
theorem none_big {h : Heap} {a : Addr} (b : h.objs.size ≤ a) : h.get? a = none := by
  cases e : h.get? a with
  | none => rfl
  | some o => exact absurd (Heap.lt_size e) (Nat.not_lt_of_le b)
section
variable {prog : Program} {w : World} {A : Around} {E : Value → Shared → Prop} {s : Shared} {K : PySem.W.Frag} {mg mb : Str → Option Value} {C fI : Addr} {cn qual fld : Str} {st : Stmt}
theorem made_own (T : OwnX prog K mg C fI cn qual fld st) (Z : InitOk prog w K mg C fI fld) {v : Value} {Q : Value → Shared → Prop} (X : K.In s.heap) (G : s.heap.Ns mainGlobals mg) (Bn : s.heap.Ns builtinsNs mb) (hbb : ∀ y : Str, y ≠ "__name__" → mb y = bootBuiltins y)
    (hlim : s.heap.NoLimit) (hroom : A.depth + 1 < recursionLimit) (hq : ∀ h' tk e d t1, Made s.heap h' e C d t1 fld v → Q (.ref e) { s with heap := h', toks := tk }) : wpAny (model prog w) A (call (.ref C) [v]) Q E s := by
  obtain ⟨nm, q, N, bs, bm, sn, sub, ab, col, dd, k0, k1, k2, k3, k5, hC, hbm⟩ := T.cls
  obtain ⟨hp, g, dr, tk, os⟩ := s
  have k : ∀ b o, hp.get? b = some o → ((hp.push (PySem.W.kdv_tup [v])).push (PySem.HandSPX.excO C hp.objs.size)).get? b = some o := fun b o e => Heap.get?_push_of_some _ (Heap.get?_push_of_some _ e)
  have hget : ((hp.push (PySem.W.kdv_tup [v])).push (PySem.HandSPX.excO C hp.objs.size)).get? (hp.objs.size + 1) = some (PySem.HandSPX.excO C hp.objs.size) := by heap_get
  have hnx : K.lookup (hp.objs.size + 1) = none := by
    cases e : K.lookup (hp.objs.size + 1) with
    | none => rfl
    | some o => exact absurd (Nat.lt_of_succ_lt (Heap.lt_size (X _ _ e))) (Nat.lt_irrefl _)
  refine wpAny_call (PySem.HandSPX.call_own F.excBase_ValueError (fun Y => PySem.HandSPX.refsVE_contains Y bm hbm) (X _ _ hC) (PySem.W.looks_findIn X T.iC) (fun self => PySem.W.bind_fn X self T.tC) (by show 1 ≤ sizeLine; rw [sizeLine_eq]; omega) ?_)
  refine Z _ _ ⟨(hp.push (PySem.W.kdv_tup [v])).push (PySem.HandSPX.excO C hp.objs.size), g, dr, tk, os⟩ mb _ _ v (X.keeps k) (G.keeps k) (Bn.keeps k) hbb (hlim.keeps k) hget hnx ?_ fun h' tk' dx t1 ⟨k', hx, dn, dne, hns⟩ => ?_
  · show A.depth + 1 < recursionLimit
    exact hroom
  · have old : ∀ b o, hp.get? b = some o → h'.get? b = some o := fun b o e => k' b o (Nat.ne_of_lt (Nat.lt_succ_of_lt (Heap.lt_size e))) (k b o e)
    have z : hp.objs.size ≤ dx := by
      have q := dn
      simp only [Heap.size_push] at q
      omega
    exact ⟨rfl, hq h' tk' (hp.objs.size + 1) dx t1 ⟨old, none_big (Nat.le_succ _), hx, none_big z, dne, hns⟩⟩
end
section
variable {X : Cx} {C fI : Addr} {cn qual fld : Str} {st : Stmt}
/-- C(e): its field is what was handed in -/
def tOwn (C : Addr) (fld : Str) (ta : TE) : TE := fun σ H Q => ta σ H fun x H1 => ∀ d a, H1 d = none → H1 a = none → d ≠ a → Q (.ref a) (upd (upd H1 d (.xd [(fld, x)])) a (exo a C (some d)))
theorem pe_own {x : Str} {e : Expr} {ta : TE} {p pos : Pos} {k : Nat} (T : OwnX X.prog X.K X.mg C fI x qual fld st) (Z : InitOk X.prog X.w X.K X.mg C fI fld) (hr : Room k X.A) (hg : Gl X x)
    (he : PE X e ta) (hs : starEach [e] X.env = (false, eval e X.env) :: starEach [] X.env := by rfl) (hdb : (x == ("__debug__" : Str)) = false := by decide) :
    PE X (.Call (.Name x p) [e] [] pos) (tOwn C fld ta) := by
  refine ⟨fun pins s σ H Q I h => ?_⟩
  refine wpAny_Call_Name_kw (ld_glob I hg T.gC ?_ hdb)
  refine PySem.W.callWith_K (h₀ := X.base) I.ok.mod.kin T.kC ?_ hs (by rfl)
  rw [hs]
  show wpAny _ _ (spliced ((false, eval e X.env) :: backTo pos (starEach [] X.env))) _ _ s
  refine Calls.spliced_cons (thn (he.run pins s σ H _ I h) fun u s1 ⟨v, H1, I1, r1, q1⟩ => ?_)
  refine Calls.spliced_nil ⟨I1.kIn, ?_⟩
  show wpAny _ _ (call (.ref C) [u]) _ _ _
  obtain ⟨mb, hb1, hb2⟩ := I1.mod.blt
  refine made_own T Z I1.kIn (I1.mod.glob.keeps I1.bk) (hb1.keeps I1.bk) hb2 I1.nolimit (by have := hr.dp; omega) fun h' tk a d t1 M => ?_
  obtain ⟨Hd, Ha, J⟩ := laid2 (tk := tk) (oa := exo a C (some d)) (od := .xd [(fld, v)]) I1 M.keep M.new M.dnew M.dne
    (fun G g => ⟨_, M.ns.at g, fun f => relO_put (fs := []) (mA := fun _ => none) r1 (fun _ => True.intro) f⟩) (exo_ok (P := X.prog) (w := X.w) M.obj)
  exact ⟨.ref a, _, J, rfl, q1 d a Hd Ha M.dne⟩
end
end K03
namespace K03
open PySem PySem.Spec PyProof.Rows L2
/-! ### isinstance, the field, and str of such an exception -/
structure ExTxt (K : PySem.W.Frag) (C : Addr) : Prop where
  hc : PySem.W.hasDictIn K C = true
  ga : PySem.W.findIn K (.ref C) "__getattribute__" = some (some (.builtin "BaseException.__getattribute__"))
  gg : PySem.W.findIn K (.ref C) "__getattr__" = some none
  sb : PySem.W.subIn K (.ref C) (.type "BaseException") = some true
  ha : PySem.W.findIn K (.ref C) "__class__" = some (some (.builtin "object.__class__"))
  hn : PySem.W.specialIn K (.builtin "object.__class__") "__get__" = some (some (.builtin "getset_descriptor.__get__"))
  ht : PySem.W.takesIn K (.builtin "object.__class__") = some true
  hm : PySem.W.mroIn K C (.type "object") = some true
  st : PySem.W.findIn K (.ref C) "__str__" = some (some (.builtin "BaseException.__str__"))
/-- at a: an exception of the class at C, of either kind -/
def ExAt (C : Addr) (H : Hp) (a : Addr) : Prop := (∃ t, H a = some (exP a C t)) ∨ ∃ d fs, H a = some (exo a C (some d)) ∧ H d = some (.xd fs)
def rIsX (K : PySem.W.Frag) : List V → Hp → VK → Prop := fun xs H Q => ∃ (a C : Addr) (c : V) (cv : Value) (b : Bool), xs = [.ref a, c] ∧ ClsV c cv ∧ ExTxt K C ∧ ExAt C H a ∧ PySem.W.kitOne K (.ref C) cv = some b ∧ Q (.bl b) H
theorem ExTxt.cls {K : PySem.W.Frag} {C : Addr} (T : ExTxt K C) : (PySem.W.clsIn K C).isSome = true := by
  obtain ⟨cd, h, _⟩ := PySem.W.any_some T.hc
  rw [h]
  rfl
section
variable {X : Cx}
theorem call_isX : CallR X (.builtin "isinstance") (rIsX X.K) := by
  intro pins s σ H xs us Q I r h
  obtain ⟨a, C, c, cv, b, rfl, k, T, ha, e, q⟩ := h
  obtain ⟨u1, u2, rfl, r1, r2⟩ := vals2 r
  have e2 := k.eq r2
  subst e2
  obtain rfl : u1 = Value.ref a := r1
  rcases ha with ⟨t, ea⟩ | ⟨d, fs, ea, ed⟩
  · have J : PySem.W.InstAt s.heap a (PySem.HandSPX.excO C t) C none := ⟨exP_at I.hok ea, rfl, rfl, trivial⟩
    exact PySem.W.kia_one (PySem.W.kitx_exc T.cls T.ga T.gg T.sb T.ha T.hn T.ht T.hm) I.kIn J e (fun z => nomatch z) fun tk => ⟨.bl b, H, I.tok tk, rfl, q⟩
  · obtain ⟨t, ho⟩ := exo_at I.hok ea
    have hx : ObjOk X.prog X.w H s.heap d (.xd fs) := I.hok d _ ed
    obtain ⟨mA, hns, hr⟩ := hx
    obtain ⟨od, hd, hl⟩ := lookIn_ns hns
    have J : PySem.W.InstAt s.heap a { cls := .ref C, dict := some d, data := .fields #[.ref t, .none, .none, .none, .bool false, .none] } C (some od) := ⟨ho, rfl, rfl, hd⟩
    exact PySem.W.kia_one (PySem.W.kitx_exc T.cls T.ga T.gg T.sb T.ha T.hn T.ht T.hm) I.kIn J e (fun z => nomatch z) fun tk => ⟨.bl b, H, I.tok tk, rfl, q⟩
def tFldX (K : PySem.W.Frag) (n : Str) (te : TE) : TE := fun σ H Q => te σ H fun x H1 => ∃ (a C d : Addr) (fs : List (Str × V)) (v : V), x = .ref a ∧ ExTxt K C ∧ PySem.W.findIn K (.ref C) n = some none ∧ H1 a = some (exo a C (some d)) ∧ H1 d = some (.xd fs) ∧ fs.lookup n = some v ∧ Q v H1
theorem pe_fldX {e : Expr} {te : TE} {pos : Pos} {n : Str} (he : PE X e te) (hb : attributeBase e n X.env (eval e X.env) = eval e X.env := by rfl) : PE X (.Attribute e n pos) (tFldX X.K n te) := by
  refine ⟨fun pins s σ H Q I h => ?_⟩
  refine attr_of hb (thn (he.run pins s σ H _ I h) fun u s1 hh => ?_)
  obtain ⟨x, H1, I1, rx, a, C, d, fs, v, ex, T, hno, ea, ed, l, q⟩ := hh
  subst ex
  obtain rfl : u = Value.ref a := rx
  obtain ⟨t, ho⟩ := exo_at I1.hok ea
  have hx : ObjOk X.prog X.w H1 s1.heap d (.xd fs) := I1.hok d _ ed
  obtain ⟨mA, hns, hr⟩ := hx
  obtain ⟨od, hd, hl⟩ := lookIn_ns hns
  obtain ⟨u, hu, ru⟩ := RelO.some_of (v := v) (o := mA n) (by rw [← l]; exact hr n)
  have J : PySem.W.InstAt s1.heap a { cls := .ref C, dict := some d, data := .fields #[.ref t, .none, .none, .none, .bool false, .none] } C (some od) := ⟨ho, rfl, rfl, hd⟩
  exact PySem.HandSPX.exc_get I1.kIn J T.ga T.gg T.sb (PySem.W.findObj_own T.hc hno rfl (by rw [hl, hu])) (handed_of ru) ⟨v, H1, I1.tok _, ru, q⟩
def rStrX (K : PySem.W.Frag) : List V → Hp → VK → Prop := fun xs H Q => ∃ (a C t : Addr) (m : Str), xs = [.ref a] ∧ ExTxt K C ∧ H a = some (exP a C t) ∧ H t = some (.tup [.str m]) ∧ Q (.str m) H
theorem call_strX {k : Nat} (hr : Room k X.A) : CallR X (.type "str") (rStrX X.K) := by
  intro pins s σ H xs us Q I r h
  obtain ⟨a, C, t, m, rfl, T, ea, et, q⟩ := h
  cases r with
  | cons rx rr =>
    cases rr
    cases rx
    have ho := exP_at I.hok ea
    have hx : ObjOk X.prog X.w H s.heap t (.tup [.str m]) := I.hok t _ et
    obtain ⟨_, its, rv, o, h1, h2, n, h3⟩ := hx
    cases rv with
    | cons ru rn =>
      cases rn
      obtain ⟨tk, rfl⟩ := ru
      exact PySem.P.str_of_C_one (K := X.K) (by have := hr.un; omega) ⟨I.kIn, _, _, ho, rfl, rfl, rfl⟩ ⟨o, n, h1, h2, h3⟩ T.st T.sb ⟨.str m, H, I, ⟨_, rfl⟩, q⟩
end
end K03
namespace K03
open PySem PySem.Spec PyProof.Rows L2
/-! ### the law's draws: any digit -/
abbrev sWell : Stmt := top 16
abbrev sDraw : Stmt := top 17
abbrev sOne : Stmt := top 18
abbrev sPlain : Stmt := top 19
abbrev sWith : Stmt := top 20
abbrev sKinds : Stmt := top 21
abbrev sLaw : Stmt := top 22
/-- the builtins that the law asks by name -/
structure TxtB (mg : Str → Option Value) : Prop where
  int : mg "int" = none
  len : mg "len" = none
  isi : mg "isinstance" = none
  bool : mg "bool" = none
  str : mg "str" = none
  range : mg "range" = none
  enum : mg "enumerate" = none
  ve : mg "ValueError" = none
/-- all but p stays -/
def But (p : Addr) (H H' : Hp) : Prop := ∀ b o, b ≠ p → H b = some o → H' b = some o
/-- a well that may be drawn from z times so far -/
def WellAt (H : Hp) (p : Addr) (z : Int) : Prop := ∃ x y : Int, H p = some (.lst [.int x, .int y, .int z]) ∧ 0 ≤ y ∧ y < 2 ^ 31
def spWell : Sp := fun vs H Q _ => ∃ c : Int, vs = [.int c] ∧ ∀ (p : Addr) (x y : Int), H p = none → 0 ≤ y → y < 2 ^ 31 → Q (.ref p) (upd H p (.lst [.int x, .int y, .int 0]))
def spDraw : Sp := fun vs H Q _ => ∃ (p : Addr) (m z : Int), vs = [.ref p, .int m] ∧ WellAt H p z ∧ 0 < m ∧ m < 2 ^ 20 ∧ 0 ≤ z ∧ z < 2 ^ 30 ∧
  ∀ (H' : Hp) (d z' : Int), But p H H' → WellAt H' p z' → 0 ≤ z' → z' ≤ z + 1 → 0 ≤ d → d < m → Q (.int d) H'
def spOne (K : PySem.W.Frag) : Sp := fun vs H Q _ => ∃ (p l : Addr) (xs : List V) (z : Int), vs = [.ref p, .ref l] ∧ WellAt H p z ∧ 0 ≤ z ∧ z < 2 ^ 30 ∧ H l = some (.lst xs) ∧ l ≠ p ∧ 0 < xs.length ∧ xs.length < 1000 ∧
  ∀ (H' : Hp) (z' : Int) (x : V), But p H H' → WellAt H' p z' → 0 ≤ z' → z' ≤ z + 1 → x ∈ xs → Q x H'
theorem at_k {xs : List V} {k : Int} {v : V} (h0 : 0 ≤ k) (h : xs[k.toNat]? = some v) : atI xs k = some v := by
  have e := atI_nat h
  rw [Int.toNat_of_nonneg h0] at e
  exact e
theorem prime_of {z : Int} : ∃ v : Int, atI [V.int 2147483647, V.int 2147483629, V.int 2147483587, V.int 2147483579, V.int 2147483563, V.int 2147483549, V.int 2147483543] (z % 7) = some (V.int v) ∧ 0 < v ∧ v < 2 ^ 31 := by
  have h : z % 7 = 0 ∨ z % 7 = 1 ∨ z % 7 = 2 ∨ z % 7 = 3 ∨ z % 7 = 4 ∨ z % 7 = 5 ∨ z % 7 = 6 := by omega
  rcases h with h | h | h | h | h | h | h <;> rw [h]
  · exact ⟨_, at_k (by decide) rfl, by decide, by decide⟩
  · exact ⟨_, at_k (by decide) rfl, by decide, by decide⟩
  · exact ⟨_, at_k (by decide) rfl, by decide, by decide⟩
  · exact ⟨_, at_k (by decide) rfl, by decide, by decide⟩
  · exact ⟨_, at_k (by decide) rfl, by decide, by decide⟩
  · exact ⟨_, at_k (by decide) rfl, by decide, by decide⟩
  · exact ⟨_, at_k (by decide) rfl, by decide, by decide⟩
section
variable {P : Program} {w : World} {K : PySem.W.Frag} {mg : Str → Option Value} {base : Heap}
theorem scWell : FnScope ["cell"] ["cell"] (defScope sWell) := ⟨rfl, rfl, rfl, by decide +kernel, rfl, by decide +kernel, by decide +kernel⟩
theorem ok_well {f : Addr} {fd : FuncData} (F : Fun K "_law_well" "_law_well" sWell f fd) (B : TxtB mg) : FnOk P w K mg base CX0 1 f fd ["cell"] spWell := by
  refine F.ok scWell (fun vs H Q E h => ?_) (fun cdv A outer s H vs Q E hr h => ?_)
  · obtain ⟨c, rfl, _⟩ := h
    rfl
  · obtain ⟨c, rfl, kq⟩ := h
    refine ⟨_, pss_one (ps_ret (pe_lst (pa_cons (pe_op op_mul (pv 0) (pe_callTy call_int1 (by rfl) B.int (by decide +kernel) (pa_cons (pe_cmpR op_ge (pv 0) (pe_op op_pow pe_int pe_int) (nomark _)) pa_nil)))
      (pa_cons (pe_op op_mod (pv 0) pe_int) (pa_cons pe_int pa_nil))))), ?_⟩
    refine ⟨_, rfl, _, rfl, _, _, rfl, rfl, ⟨by decide, by decide, by decide⟩, _, _, rfl, rfl, .inr ⟨_, rfl, ?_⟩⟩
    refine ⟨_, _, rfl, rfl, .inr (by split <;> decide), _, rfl, _, _, rfl, rfl, (by show (0 : Int) < 2147483647; decide), (by show 3 ≤ sizeLine; decide), fun p hp => ?_⟩
    exact kq p _ _ hp (Int.emod_nonneg _ (by decide)) (Int.lt_of_lt_of_le (Int.emod_lt_of_pos _ (by decide)) (by decide))
theorem scDraw : FnScope ["well", "many", "digit", "prime", "number"] ["well", "many"] (defScope sDraw) := ⟨rfl, rfl, rfl, by decide +kernel, rfl, by decide +kernel, by decide +kernel⟩
theorem ok_draw {f : Addr} {fd : FuncData} (F : Fun K "_law_draw" "_law_draw" sDraw f fd) : FnOk P w K mg base CX0 1 f fd ["well", "many"] spDraw := by
  refine F.ok scDraw (fun vs H Q E h => ?_) (fun cdv A outer s H vs Q E hr h => ?_)
  · obtain ⟨p, m, z, rfl, _⟩ := h
    rfl
  · obtain ⟨p, m, z, rfl, ⟨x, y, hp, y0, y1⟩, m0, m1, z0, z1, kq⟩ := h
    refine ⟨_, pss_cons (ps_if (pt_cmpR op_gt (pe_ix ix_list (pv 0) pe_int (fun _ _ => rfl)) pe_int (nomark _))
        (pss_cons (ps_set (i := 2) scDraw.nd rfl (Or.inl rfl) (pe_op op_mod (pe_ix ix_list (pv 0) pe_int (fun _ _ => rfl)) (pv 1)))
        (pss_cons (ps_asg (pe_op op_fdiv (pe_ix ix_list (pv 0) pe_int (fun _ _ => rfl)) (pv 1)) (pg_sub (pv 0) pe_int set_list))
        (pss_one (ps_ret (pv 2))))) pss_nil)
      (pss_cons (ps_asg (pe_op op_add (pe_ix ix_list (pv 0) pe_int (fun _ _ => rfl)) pe_int) (pg_sub (pv 0) pe_int set_list))
      (pss_cons (ps_set (i := 3) scDraw.nd rfl (Or.inl rfl) (pe_ix ix_list (pe_lst (pa_cons pe_int (pa_cons pe_int (pa_cons pe_int (pa_cons pe_int (pa_cons pe_int (pa_cons pe_int (pa_cons pe_int pa_nil)))))))) (pe_op op_mod (pe_ix ix_list (pv 0) pe_int (fun _ _ => rfl)) pe_int) (fun _ _ => rfl)))
      (pss_cons (ps_set (i := 4) scDraw.nd rfl (Or.inl rfl) (pe_op op_mod (pe_op op_pow (pe_op op_add (pe_op op_add (pe_ix ix_list (pv 0) pe_int (fun _ _ => rfl)) (pe_op op_mul pe_int (pe_ix ix_list (pv 0) pe_int (fun _ _ => rfl)))) pe_int) pe_int) (pv 3)))
      (pss_cons (ps_set (i := 4) scDraw.nd rfl (Or.inl rfl) (pe_op op_mod (pe_op op_mul (pe_op op_add (pv 4) (pe_ix ix_list (pv 0) pe_int (fun _ _ => rfl))) (pe_op op_add (pe_op op_fdiv (pv 4) pe_int) pe_int)) (pv 3)))
      (pss_one (ps_ret (pe_op op_mod (pe_op op_fdiv (pv 4) pe_int) (pv 1)))))))), ?_⟩
    refine ⟨_, rfl, p, _, _, _, rfl, rfl, SqL.of hp, at_k (by decide) rfl, _, _, rfl, rfl, _, rfl, ?_⟩
    refine ite2 (fun h => ?_) (fun h => ?_)
    · refine ⟨_, rfl, p, _, _, _, rfl, rfl, SqL.of hp, at_k (by decide) rfl, _, rfl, _, _, rfl, rfl, m0, ?_⟩
      refine ⟨_, rfl, p, _, _, _, rfl, rfl, SqL.of hp, at_k (by decide) rfl, _, rfl, _, _, rfl, rfl, ⟨m0, by omega⟩, ?_⟩
      refine ⟨_, rfl, p, _, _, 0, rfl, rfl, hp, rfl, ?_⟩
      exact ⟨_, rfl, kq _ _ _ (fun b o hb e => by rw [upd_ne hb]; exact e) ⟨_, _, upd_same, y0, y1⟩ z0 (by omega) (Int.emod_nonneg _ (by omega)) (Int.emod_lt_of_pos _ m0)⟩
    · refine ⟨_, rfl, p, _, _, _, rfl, rfl, SqL.of hp, at_k (by decide) rfl, _, _, rfl, rfl, ?_⟩
      refine ⟨_, rfl, p, _, _, 2, rfl, rfl, hp, rfl, ?_⟩
      obtain ⟨v, hv, v0, v1⟩ := prime_of (z := z + 1)
      refine ⟨(by show 7 ≤ sizeLine; decide), fun q hq => ?_⟩
      have hqp : p ≠ q := fun e => by rw [← e, upd_same] at hq; cases hq
      have hw : upd (upd H p (.lst [.int x, .int y, .int (z + 1)])) q (.lst [V.int 2147483647, V.int 2147483629, V.int 2147483587, V.int 2147483579, V.int 2147483563, V.int 2147483549, V.int 2147483543]) p = some (.lst [.int x, .int y, .int (z + 1)]) := by rw [upd_ne hqp, upd_same]
      refine ⟨_, rfl, p, _, _, _, rfl, rfl, SqL.of hw, at_k (by decide) rfl, _, _, rfl, rfl, (by show (0 : Int) < 7; decide), ?_⟩
      refine ⟨q, _, _, _, rfl, rfl, SqL.of upd_same, hv, ?_⟩
      refine ⟨_, rfl, p, _, _, _, rfl, rfl, SqL.of hw, at_k (by decide) rfl, _, rfl, p, _, _, _, rfl, rfl, SqL.of hw, at_k (by decide) rfl, _, _, rfl, rfl, .inl ⟨by decide, by decide⟩, _, _, rfl, rfl, _, _, rfl, rfl, _, _, rfl, rfl,
        ⟨by decide, by decide, by omega⟩, _, rfl, _, _, rfl, rfl, v0, ?_⟩
      have n0 := Int.emod_nonneg ((y + 7919 * (z + 1) + 1) ^ (5 : Int).toNat) (show v ≠ 0 by omega)
      have n1 := Int.emod_lt_of_pos ((y + 7919 * (z + 1) + 1) ^ (5 : Int).toNat) v0
      refine ⟨_, rfl, _, rfl, p, _, _, _, rfl, rfl, SqL.of hw, at_k (by decide) rfl, _, _, rfl, rfl, _, rfl, _, _, rfl, rfl, ⟨by decide, by decide⟩, _, _, rfl, rfl, _, _, rfl, rfl, .inl ⟨by omega, by omega⟩, _, rfl, _, _, rfl, rfl, v0, ?_⟩
      refine ⟨_, rfl, _, _, rfl, rfl, ⟨by decide, by decide⟩, _, rfl, _, _, rfl, rfl, m0, ?_⟩
      refine kq _ _ _ (fun b o hb e => ?_) ⟨_, _, hw, y0, y1⟩ (by omega) (by omega) (Int.emod_nonneg _ (by omega)) (Int.emod_lt_of_pos _ m0)
      have e1 : upd H p (.lst [.int x, .int y, .int (z + 1)]) b = some o := by rw [upd_ne hb]; exact e
      rw [upd_ne (ne_of_none e1 hq)]
      exact e1
theorem scOne : FnScope ["well", "some"] ["well", "some"] (defScope sOne) := ⟨rfl, rfl, rfl, by decide +kernel, rfl, by decide +kernel, by decide +kernel⟩
theorem ok_one {f fD : Addr} {fd fdD : FuncData} (F : Fun K "_law_one" "_law_one" sOne f fd) (B : TxtB mg) (GD : FnOk P w K mg base CX0 1 fD fdD ["well", "many"] spDraw) (mD : mg "_law_draw" = some (.ref fD)) (kD : PySem.W.keepIn K (.ref fD) = true) (bD : Binds K fdD ["well", "many"] []) :
    FnOk P w K mg base CX0 2 f fd ["well", "some"] (spOne K) := by
  refine F.ok scOne (fun vs H Q E h => ?_) (fun cdv A outer s H vs Q E hr h => ?_)
  · obtain ⟨p, l, xs, z, rfl, _⟩ := h
    rfl
  · obtain ⟨p, l, xs, z, rfl, hp, z0, z1, hl, ne, l0, l1, kq⟩ := h
    refine ⟨_, pss_one (ps_ret (pe_ix ix_list (pv 1) (pe_call GD hr rfl mD kD bD .nil pass0 (pa_cons (pv 0) (pa_cons (pe_callB call_len_seq (by rfl) B.len PySem.boot_len (pa_cons (pv 1) pa_nil)) pa_nil))) (fun _ _ => rfl))), ?_⟩
    refine ⟨_, rfl, _, rfl, _, rfl, l, xs, rfl, .inl (SqL.of hl), ?_⟩
    refine ⟨p, _, z, rfl, hp, (by omega), (by omega), z0, z1, fun H' d z' bt hp' z0' z1' d0 d1 => ?_⟩
    have hd : d.toNat < xs.length := by omega
    refine ⟨l, xs, _, xs[d.toNat], rfl, rfl, SqL.of (bt l _ ne hl), at_k d0 (by simp [hd]), ?_⟩
    exact kq H' z' _ bt hp' z0' z1' (List.getElem_mem hd)
end
end K03
namespace K03
open PySem PySem.Spec PyProof.Rows L2
/-! ### the thirteen classes, and the law's defs that make and ask -/
abbrev veTl : List Value := [.type "ValueError", .type "Exception", .type "BaseException", .type "object"]
structure PCls (K : PySem.W.Frag) (mg : Str → Option Value) (x : Str) (C : Addr) : Prop where
  g : mg x = some (.ref C)
  e : PySem.W.excIn K C veTl "ValueError.__new__" = true
  k : PySem.W.keepIn K (.ref C) = true
  t : ExTxt K C
structure OCls (P : Program) (w : World) (K : PySem.W.Frag) (mg : Str → Option Value) (x qual fld : Str) (st : Stmt) (C fI : Addr) : Prop where
  x : OwnX P K mg C fI x qual fld st
  z : InitOk P w K mg C fI fld
  t : ExTxt K C
/-- each of the classes is what itself and the two above it name, and none of the others -/
def Kits (K : PySem.W.Frag) (cs : List Addr) (R : Addr) : Prop := ∀ (i : Nat) (a : Addr), cs[i]? = some a → (∀ (j : Nat) (b : Addr), cs[j]? = some b → PySem.W.kitOne K (.ref a) (.ref b) = some (decide (i = j))) ∧
  PySem.W.kitOne K (.ref a) (.ref R) = some true ∧ PySem.W.kitOne K (.ref a) (.type "ValueError") = some true
structure Cls (P : Program) (w : World) (K : PySem.W.Frag) (mg : Str → Option Value) (R c0 c1 c2 c3 c4 c5 c6 c7 c8 c9 c10 c11 f8 f9 f10 f11 : Addr) : Prop where
  p0 : PCls K mg "NoShare" c0
  p1 : PCls K mg "NoCourse" c1
  p2 : PCls K mg "NoDay" c2
  p3 : PCls K mg "NoDepths" c3
  p4 : PCls K mg "NoRain" c4
  p5 : PCls K mg "NoDigs" c5
  p6 : PCls K mg "NoTurned" c6
  p7 : PCls K mg "NoTie" c7
  p8 : OCls P w K mg "TooLong" "TooLong.__init__" "place" sLong c8 f8
  p9 : OCls P w K mg "NoWeb" "NoWeb.__init__" "part" sWeb c9 f9
  p10 : OCls P w K mg "NoPlace" "NoPlace.__init__" "place" sPlace c10 f10
  p11 : OCls P w K mg "NoBed" "NoBed.__init__" "bed" sBed c11 f11
  rg : mg "RillError" = some (.ref R)
  kits : Kits K [c0, c1, c2, c3, c4, c5, c6, c7, c8, c9, c10, c11] R
/-- a plain one at a, with its text -/
def PlAt (H : Hp) (a C : Addr) (m : Str) : Prop := ∃ t, H a = some (exP a C t) ∧ H t = some (.tup [.str m])
def OwAt (H : Hp) (a C : Addr) (fld : Str) (x : V) : Prop := ∃ d, H a = some (exo a C (some d)) ∧ H d = some (.xd [(fld, x)])
theorem PlAt.mono {H H' : Hp} {a C : Addr} {m : Str} (h : PlAt H a C m) (s : Same H H') : PlAt H' a C m := by
  obtain ⟨t, x, y⟩ := h
  exact ⟨t, s _ _ x, s _ _ y⟩
theorem OwAt.mono {H H' : Hp} {a C : Addr} {f : Str} {x : V} (h : OwAt H a C f x) (s : Same H H') : OwAt H' a C f x := by
  obtain ⟨t, x, y⟩ := h
  exact ⟨t, s _ _ x, s _ _ y⟩
theorem ExAt.mono {H H' : Hp} {a C : Addr} (h : ExAt C H a) (s : Same H H') : ExAt C H' a := by
  rcases h with ⟨t, h⟩ | ⟨d, fs, h, k⟩
  · exact .inl ⟨t, s _ _ h⟩
  · exact .inr ⟨d, fs, s _ _ h, s _ _ k⟩
theorem PlAt.ex {H : Hp} {a C : Addr} {m : Str} (h : PlAt H a C m) : ExAt C H a := by
  obtain ⟨t, x, _⟩ := h
  exact .inl ⟨t, x⟩
theorem OwAt.ex {H : Hp} {a C : Addr} {f : Str} {x : V} (h : OwAt H a C f x) : ExAt C H a := by
  obtain ⟨d, x, y⟩ := h
  exact .inr ⟨d, _, x, y⟩
theorem same1 {H : Hp} {p : Addr} {o : HO} (h : H p = none) : Same H (upd H p o) := fun b u e => by rw [upd_ne (ne_of_none e h)]; exact e
theorem same2 {H : Hp} {t a : Addr} {o u : HO} (ht : H t = none) (ha : H a = none) (n : t ≠ a) : Same H (upd (upd H t o) a u) := (same1 ht).trans (same1 (by rw [upd_ne (Ne.symm n)]; exact ha))
theorem pl_step {H : Hp} {t a : Addr} (C : Addr) (m : Str) (ht : H t = none) (ha : H a = none) (n : t ≠ a) : Same H (upd (upd H t (.tup [.str m])) a (exP a C t)) ∧ PlAt (upd (upd H t (.tup [.str m])) a (exP a C t)) a C m :=
  ⟨same2 ht ha n, t, upd_same, by rw [upd_ne n, upd_same]⟩
theorem ow_step {H : Hp} {d a : Addr} (C : Addr) (f : Str) (x : V) (ht : H d = none) (ha : H a = none) (n : d ≠ a) : Same H (upd (upd H d (.xd [(f, x)])) a (exo a C (some d))) ∧ OwAt (upd (upd H d (.xd [(f, x)])) a (exo a C (some d))) a C f x :=
  ⟨same2 ht ha n, d, upd_same, by rw [upd_ne n, upd_same]⟩
def spPlain (cs : List Addr) : Sp := fun vs H Q _ => ∃ m : Str, vs = [.str m] ∧ ∀ (H' : Hp) (p : Addr) (as : List Addr), Same H H' → H' p = some (.lst (as.map V.ref)) → as.length = 8 →
  (∀ (i : Nat) (a c : Addr), as[i]? = some a → cs[i]? = some c → PlAt H' a c m) → Q (.ref p) H'
def spWith (cs : List Addr) : Sp := fun vs H Q _ => ∃ x : V, vs = [x] ∧ ∀ (H' : Hp) (p : Addr) (ts : List Addr), Same H H' → H' p = some (.lst (ts.map V.ref)) → ts.length = 4 →
  (∀ (i : Nat) (t c : Addr), ts[i]? = some t → cs[i]? = some c → ∃ a, H' t = some (.tup [.ref a, x]) ∧ ExAt c H' a) → Q (.ref p) H'
def spKinds (K : PySem.W.Frag) (cs : List Addr) : Sp := fun vs H Q _ => ∃ (i : Nat) (a C : Addr), vs = [.ref a] ∧ cs[i]? = some C ∧ ExTxt K C ∧ ExAt C H a ∧ ∀ (H' : Hp) (p : Addr), Same H H' → H p = none → H' p = some (.lst ((List.range 12).map fun j => V.bl (decide (i = j)))) → Q (.ref p) H'
section
variable {P : Program} {w : World} {K : PySem.W.Frag} {mg : Str → Option Value} {base : Heap} {R c0 c1 c2 c3 c4 c5 c6 c7 c8 c9 c10 c11 f8 f9 f10 f11 : Addr}
theorem scPlain : FnScope ["text", "first"] ["text"] (defScope sPlain) := ⟨rfl, rfl, rfl, by decide +kernel, rfl, by decide +kernel, by decide +kernel⟩
theorem ok_plain {f : Addr} {fd : FuncData} (F : Fun K "_law_plain" "_law_plain" sPlain f fd) (C : Cls P w K mg R c0 c1 c2 c3 c4 c5 c6 c7 c8 c9 c10 c11 f8 f9 f10 f11) : FnOk P w K mg base CX0 1 f fd ["text"] (spPlain [c0, c1, c2, c3, c4, c5, c6, c7]) := by
  refine F.ok scPlain (fun vs H Q E h => ?_) (fun cdv A outer s H vs Q E hr h => ?_)
  · obtain ⟨m, rfl, _⟩ := h
    rfl
  · obtain ⟨m, rfl, kq⟩ := h
    refine ⟨_, pss_cons (ps_set (i := 1) scPlain.nd rfl (Or.inl rfl) (pe_lst (pa_cons (pe_plain PySem.F.excBase_ValueError C.p0.e C.p0.g C.p0.k rfl (pv 0)) (pa_cons (pe_plain PySem.F.excBase_ValueError C.p1.e C.p1.g C.p1.k rfl (pv 0))
        (pa_cons (pe_plain PySem.F.excBase_ValueError C.p2.e C.p2.g C.p2.k rfl (pv 0)) (pa_cons (pe_plain PySem.F.excBase_ValueError C.p3.e C.p3.g C.p3.k rfl (pv 0)) pa_nil))))))
      (pss_one (ps_ret (pe_op op_cat (pv 1) (pe_lst (pa_cons (pe_plain PySem.F.excBase_ValueError C.p4.e C.p4.g C.p4.k rfl (pv 0)) (pa_cons (pe_plain PySem.F.excBase_ValueError C.p5.e C.p5.g C.p5.k rfl (pv 0))
        (pa_cons (pe_plain PySem.F.excBase_ValueError C.p6.e C.p6.g C.p6.k rfl (pv 0)) (pa_cons (pe_plain PySem.F.excBase_ValueError C.p7.e C.p7.g C.p7.k rfl (pv 0)) pa_nil)))))))), ?_⟩
    refine ⟨_, rfl, fun t0 a0 ht ha n => ?_⟩
    obtain ⟨s0, q0⟩ := pl_step c0 m ht ha n
    generalize upd (upd H t0 (.tup [.str m])) a0 (exP a0 c0 t0) = H0 at *
    refine ⟨_, rfl, fun t1 a1 ht ha n => ?_⟩
    obtain ⟨s1, q1⟩ := pl_step c1 m ht ha n
    generalize upd (upd H0 t1 (.tup [.str m])) a1 (exP a1 c1 t1) = H1 at *
    refine ⟨_, rfl, fun t2 a2 ht ha n => ?_⟩
    obtain ⟨s2, q2⟩ := pl_step c2 m ht ha n
    generalize upd (upd H1 t2 (.tup [.str m])) a2 (exP a2 c2 t2) = H2 at *
    refine ⟨_, rfl, fun t3 a3 ht ha n => ?_⟩
    obtain ⟨s3, q3⟩ := pl_step c3 m ht ha n
    generalize upd (upd H2 t3 (.tup [.str m])) a3 (exP a3 c3 t3) = H3 at *
    refine ⟨(by show 4 ≤ sizeLine; decide), fun l hl => ?_⟩
    have sl : Same H3 (upd H3 l (.lst [.ref a0, .ref a1, .ref a2, .ref a3])) := same1 hl
    have hL : upd H3 l (.lst [.ref a0, .ref a1, .ref a2, .ref a3]) l = some (.lst [.ref a0, .ref a1, .ref a2, .ref a3]) := upd_same
    generalize upd H3 l (.lst [.ref a0, .ref a1, .ref a2, .ref a3]) = HL at *
    refine ⟨_, rfl, _, rfl, fun t4 a4 ht ha n => ?_⟩
    obtain ⟨s4, q4⟩ := pl_step c4 m ht ha n
    generalize upd (upd HL t4 (.tup [.str m])) a4 (exP a4 c4 t4) = H4 at *
    refine ⟨_, rfl, fun t5 a5 ht ha n => ?_⟩
    obtain ⟨s5, q5⟩ := pl_step c5 m ht ha n
    generalize upd (upd H4 t5 (.tup [.str m])) a5 (exP a5 c5 t5) = H5 at *
    refine ⟨_, rfl, fun t6 a6 ht ha n => ?_⟩
    obtain ⟨s6, q6⟩ := pl_step c6 m ht ha n
    generalize upd (upd H5 t6 (.tup [.str m])) a6 (exP a6 c6 t6) = H6 at *
    refine ⟨_, rfl, fun t7 a7 ht ha n => ?_⟩
    obtain ⟨s7, q7⟩ := pl_step c7 m ht ha n
    generalize upd (upd H6 t7 (.tup [.str m])) a7 (exP a7 c7 t7) = H7 at *
    refine ⟨(by show 4 ≤ sizeLine; decide), fun b hb => ?_⟩
    have sb : Same H7 (upd H7 b (.lst [.ref a4, .ref a5, .ref a6, .ref a7])) := same1 hb
    have hB : upd H7 b (.lst [.ref a4, .ref a5, .ref a6, .ref a7]) b = some (.lst [.ref a4, .ref a5, .ref a6, .ref a7]) := upd_same
    generalize upd H7 b (.lst [.ref a4, .ref a5, .ref a6, .ref a7]) = HB at *
    refine ⟨l, b, _, _, rfl, rfl, sb _ _ (s7 _ _ (s6 _ _ (s5 _ _ (s4 _ _ hL)))), hB, (by show 8 ≤ sizeLine; decide), fun p hp => ?_⟩
    have z : Same HB (upd HB p (.lst ([.ref a0, .ref a1, .ref a2, .ref a3] ++ [.ref a4, .ref a5, .ref a6, .ref a7]))) := same1 hp
    have z7 := sb.trans z
    have z6 := s7.trans z7
    have z5 := s6.trans z6
    have z4 := s5.trans z5
    have z3 := sl.trans (s4.trans z4)
    have z2 := s3.trans z3
    have z1 := s2.trans z2
    have z0 := s1.trans z1
    refine kq _ p [a0, a1, a2, a3, a4, a5, a6, a7] (s0.trans z0) upd_same rfl fun i a c ea ec => ?_
    match i, ea, ec with
    | 0, ea, ec => cases ea; cases ec; exact q0.mono z0
    | 1, ea, ec => cases ea; cases ec; exact q1.mono z1
    | 2, ea, ec => cases ea; cases ec; exact q2.mono z2
    | 3, ea, ec => cases ea; cases ec; exact q3.mono z3
    | 4, ea, ec => cases ea; cases ec; exact q4.mono z4
    | 5, ea, ec => cases ea; cases ec; exact q5.mono z5
    | 6, ea, ec => cases ea; cases ec; exact q6.mono z6
    | 7, ea, ec => cases ea; cases ec; exact q7.mono z7
end
end K03
namespace K03
open PySem PySem.Spec PyProof.Rows L2
section
variable {P : Program} {w : World} {K : PySem.W.Frag} {mg : Str → Option Value} {base : Heap} {R c0 c1 c2 c3 c4 c5 c6 c7 c8 c9 c10 c11 f8 f9 f10 f11 : Addr}
theorem scWith : FnScope ["thing", "one", "other", "third", "last"] ["thing"] (defScope sWith) := ⟨rfl, rfl, rfl, by decide +kernel, rfl, by decide +kernel, by decide +kernel⟩
theorem ok_with {f : Addr} {fd : FuncData} (F : Fun K "_law_with" "_law_with" sWith f fd) (C : Cls P w K mg R c0 c1 c2 c3 c4 c5 c6 c7 c8 c9 c10 c11 f8 f9 f10 f11) : FnOk P w K mg base CX0 2 f fd ["thing"] (spWith [c8, c9, c10, c11]) := by
  refine F.ok scWith (fun vs H Q E h => ?_) (fun cdv A outer s H vs Q E hr h => ?_)
  · obtain ⟨m, rfl, _⟩ := h
    rfl
  · obtain ⟨x, rfl, kq⟩ := h
    refine ⟨_, pss_cons (ps_asg (pe_tup (pa_cons (pe_own C.p8.x C.p8.z hr rfl (pv 0)) (pa_cons (pe_own C.p9.x C.p9.z hr rfl (pv 0)) (pa_cons (pe_own C.p10.x C.p10.z hr rfl (pv 0)) (pa_cons (pe_own C.p11.x C.p11.z hr rfl (pv 0)) pa_nil)))))
        (pg_tup (by rfl) (pgs_cons (pg_name (i := 1) scWith.nd rfl (.inl rfl)) (pgs_cons (pg_name (i := 2) scWith.nd rfl (.inl rfl)) (pgs_cons (pg_name (i := 3) scWith.nd rfl (.inl rfl)) (pgs_cons (pg_name (i := 4) scWith.nd rfl (.inl rfl)) pgs_nil))))))
      (pss_one (ps_ret (pe_lst (pa_cons (pe_tup (pa_cons (pv 1) (pa_cons (pe_fldX (pv 1)) pa_nil))) (pa_cons (pe_tup (pa_cons (pv 2) (pa_cons (pe_fldX (pv 2)) pa_nil)))
        (pa_cons (pe_tup (pa_cons (pv 3) (pa_cons (pe_fldX (pv 3)) pa_nil))) (pa_cons (pe_tup (pa_cons (pv 4) (pa_cons (pe_fldX (pv 4)) pa_nil))) pa_nil))))))), ?_⟩
    refine ⟨_, rfl, fun d0 a0 ht ha n => ?_⟩
    obtain ⟨s0, q0⟩ := ow_step c8 "place" x ht ha n
    generalize upd (upd H d0 (.xd [("place", x)])) a0 (exo a0 c8 (some d0)) = H0 at *
    refine ⟨_, rfl, fun d1 a1 ht ha n => ?_⟩
    obtain ⟨s1, q1⟩ := ow_step c9 "part" x ht ha n
    generalize upd (upd H0 d1 (.xd [("part", x)])) a1 (exo a1 c9 (some d1)) = H1 at *
    refine ⟨_, rfl, fun d2 a2 ht ha n => ?_⟩
    obtain ⟨s2, q2⟩ := ow_step c10 "place" x ht ha n
    generalize upd (upd H1 d2 (.xd [("place", x)])) a2 (exo a2 c10 (some d2)) = H2 at *
    refine ⟨_, rfl, fun d3 a3 ht ha n => ?_⟩
    obtain ⟨s3, q3⟩ := ow_step c11 "bed" x ht ha n
    generalize upd (upd H2 d3 (.xd [("bed", x)])) a3 (exo a3 c11 (some d3)) = H3 at *
    refine ⟨(by show 4 ≤ sizeLine; decide), fun l hl => ?_⟩
    have sl : Same H3 (upd H3 l (.tup [.ref a0, .ref a1, .ref a2, .ref a3])) := same1 hl
    have hL : upd H3 l (.tup [.ref a0, .ref a1, .ref a2, .ref a3]) l = some (.tup [.ref a0, .ref a1, .ref a2, .ref a3]) := upd_same
    generalize upd H3 l (.tup [.ref a0, .ref a1, .ref a2, .ref a3]) = HL at *
    have r3 := q3.mono sl
    have r2 := q2.mono (s3.trans sl)
    have r1 := q1.mono (s2.trans (s3.trans sl))
    have r0 := q0.mono (s1.trans (s2.trans (s3.trans sl)))
    have sH := s0.trans (s1.trans (s2.trans (s3.trans sl)))
    refine ⟨l, _, rfl, SqT.of hL, rfl, _, _, rfl, _, _, rfl, _, _, rfl, _, _, rfl, rfl, ?_⟩
    obtain ⟨e0, u0, v0⟩ := r0
    refine ⟨_, rfl, _, rfl, a0, c8, e0, _, x, rfl, C.p8.t, C.p8.x.noN, u0, v0, rfl, (by show 2 ≤ sizeLine; decide), fun t0 h0 => ?_⟩
    have g0 : Same HL (upd HL t0 (.tup [.ref a0, x])) := same1 h0
    have w0 : upd HL t0 (.tup [.ref a0, x]) t0 = some (.tup [.ref a0, x]) := upd_same
    generalize upd HL t0 (.tup [.ref a0, x]) = G0 at *
    obtain ⟨e1, u1, v1⟩ := r1.mono g0
    refine ⟨_, rfl, _, rfl, a1, c9, e1, _, x, rfl, C.p9.t, C.p9.x.noN, u1, v1, rfl, (by show 2 ≤ sizeLine; decide), fun t1 h1 => ?_⟩
    have g1 : Same G0 (upd G0 t1 (.tup [.ref a1, x])) := same1 h1
    have w1 : upd G0 t1 (.tup [.ref a1, x]) t1 = some (.tup [.ref a1, x]) := upd_same
    generalize upd G0 t1 (.tup [.ref a1, x]) = G1 at *
    obtain ⟨e2, u2, v2⟩ := r2.mono (g0.trans g1)
    refine ⟨_, rfl, _, rfl, a2, c10, e2, _, x, rfl, C.p10.t, C.p10.x.noN, u2, v2, rfl, (by show 2 ≤ sizeLine; decide), fun t2 h2 => ?_⟩
    have g2 : Same G1 (upd G1 t2 (.tup [.ref a2, x])) := same1 h2
    have w2 : upd G1 t2 (.tup [.ref a2, x]) t2 = some (.tup [.ref a2, x]) := upd_same
    generalize upd G1 t2 (.tup [.ref a2, x]) = G2 at *
    obtain ⟨e3, u3, v3⟩ := r3.mono (g0.trans (g1.trans g2))
    refine ⟨_, rfl, _, rfl, a3, c11, e3, _, x, rfl, C.p11.t, C.p11.x.noN, u3, v3, rfl, (by show 2 ≤ sizeLine; decide), fun t3 h3 => ?_⟩
    have g3 : Same G2 (upd G2 t3 (.tup [.ref a3, x])) := same1 h3
    have w3 : upd G2 t3 (.tup [.ref a3, x]) t3 = some (.tup [.ref a3, x]) := upd_same
    generalize upd G2 t3 (.tup [.ref a3, x]) = G3 at *
    refine ⟨(by show 4 ≤ sizeLine; decide), fun p hp => ?_⟩
    have gp : Same G3 (upd G3 p (.lst [.ref t0, .ref t1, .ref t2, .ref t3])) := same1 hp
    have z2 := g3.trans gp
    have z1 := g2.trans z2
    have z0 := g1.trans z1
    have zz := g0.trans z0
    refine kq _ p [t0, t1, t2, t3] (sH.trans zz) upd_same rfl fun i t c ea ec => ?_
    match i, ea, ec with
    | 0, ea, ec => cases ea; cases ec; exact ⟨a0, z0 _ _ w0, .inr ⟨e0, _, zz _ _ u0, zz _ _ v0⟩⟩
    | 1, ea, ec => cases ea; cases ec; exact ⟨a1, z1 _ _ w1, .inr ⟨e1, _, z0 _ _ u1, z0 _ _ v1⟩⟩
    | 2, ea, ec => cases ea; cases ec; exact ⟨a2, z2 _ _ w2, .inr ⟨e2, _, z1 _ _ u2, z1 _ _ v2⟩⟩
    | 3, ea, ec => cases ea; cases ec; exact ⟨a3, gp _ _ w3, .inr ⟨e3, _, z2 _ _ u3, z2 _ _ v3⟩⟩
theorem scKinds : FnScope ["error", "first", "second"] ["error"] (defScope sKinds) := ⟨rfl, rfl, rfl, by decide +kernel, rfl, by decide +kernel, by decide +kernel⟩
theorem ok_kinds {f : Addr} {fd : FuncData} (F : Fun K "_law_kinds" "_law_kinds" sKinds f fd) (B : TxtB mg) (C : Cls P w K mg R c0 c1 c2 c3 c4 c5 c6 c7 c8 c9 c10 c11 f8 f9 f10 f11) : FnOk P w K mg base CX0 1 f fd ["error"] (spKinds K [c0, c1, c2, c3, c4, c5, c6, c7, c8, c9, c10, c11]) := by
  refine F.ok scKinds (fun vs H Q E h => ?_) (fun cdv A outer s H vs Q E hr h => ?_)
  · obtain ⟨i, a, c, rfl, _⟩ := h
    rfl
  · obtain ⟨i, a, c, rfl, hc, T, ha, kq⟩ := h
    have kt := (C.kits i c hc).1
    refine ⟨_, pss_cons (ps_set (i := 1) scKinds.nd rfl (Or.inl rfl) (pe_lst (pa_cons (pe_callB call_isX (by rfl) B.isi (by decide +kernel) (pa_cons (pv 0) (pa_cons (pe_glob (v := .ref c0) rfl C.p0.g rfl) pa_nil))) (pa_cons (pe_callB call_isX (by rfl) B.isi (by decide +kernel) (pa_cons (pv 0) (pa_cons (pe_glob (v := .ref c1) rfl C.p1.g rfl) pa_nil)))
        (pa_cons (pe_callB call_isX (by rfl) B.isi (by decide +kernel) (pa_cons (pv 0) (pa_cons (pe_glob (v := .ref c2) rfl C.p2.g rfl) pa_nil))) pa_nil)))))
      (pss_cons (ps_set (i := 1) scKinds.nd rfl (Or.inl rfl) (pe_op op_cat (pv 1) (pe_lst (pa_cons (pe_callB call_isX (by rfl) B.isi (by decide +kernel) (pa_cons (pv 0) (pa_cons (pe_glob (v := .ref c3) rfl C.p3.g rfl) pa_nil))) (pa_cons (pe_callB call_isX (by rfl) B.isi (by decide +kernel) (pa_cons (pv 0) (pa_cons (pe_glob (v := .ref c4) rfl C.p4.g rfl) pa_nil)))
        (pa_cons (pe_callB call_isX (by rfl) B.isi (by decide +kernel) (pa_cons (pv 0) (pa_cons (pe_glob (v := .ref c5) rfl C.p5.g rfl) pa_nil))) pa_nil))))))
      (pss_cons (ps_set (i := 2) scKinds.nd rfl (Or.inl rfl) (pe_lst (pa_cons (pe_callB call_isX (by rfl) B.isi (by decide +kernel) (pa_cons (pv 0) (pa_cons (pe_glob (v := .ref c6) rfl C.p6.g rfl) pa_nil))) (pa_cons (pe_callB call_isX (by rfl) B.isi (by decide +kernel) (pa_cons (pv 0) (pa_cons (pe_glob (v := .ref c7) rfl C.p7.g rfl) pa_nil)))
        (pa_cons (pe_callB call_isX (by rfl) B.isi (by decide +kernel) (pa_cons (pv 0) (pa_cons (pe_glob (v := .ref c8) rfl C.p8.x.gC rfl) pa_nil))) pa_nil)))))
      (pss_one (ps_ret (pe_op op_cat (pe_op op_cat (pv 1) (pv 2)) (pe_lst (pa_cons (pe_callB call_isX (by rfl) B.isi (by decide +kernel) (pa_cons (pv 0) (pa_cons (pe_glob (v := .ref c9) rfl C.p9.x.gC rfl) pa_nil))) (pa_cons (pe_callB call_isX (by rfl) B.isi (by decide +kernel) (pa_cons (pv 0) (pa_cons (pe_glob (v := .ref c10) rfl C.p10.x.gC rfl) pa_nil)))
        (pa_cons (pe_callB call_isX (by rfl) B.isi (by decide +kernel) (pa_cons (pv 0) (pa_cons (pe_glob (v := .ref c11) rfl C.p11.x.gC rfl) pa_nil))) pa_nil))))))))), ?_⟩
    refine ⟨_, rfl, a, c, _, _, _, rfl, ClsV.own _, T, ha.mono (Same.refl H), kt 0 c0 rfl, _, rfl, a, c, _, _, _, rfl, ClsV.own _, T, ha.mono (Same.refl H), kt 1 c1 rfl, _, rfl, a, c, _, _, _, rfl, ClsV.own _, T, ha.mono (Same.refl H), kt 2 c2 rfl, (by show 3 ≤ sizeLine; decide), fun l hl => ?_⟩
    have sl : Same H (upd H l (.lst [.bl (decide (i = 0)), .bl (decide (i = 1)), .bl (decide (i = 2))])) := same1 hl
    have hL : upd H l (.lst [.bl (decide (i = 0)), .bl (decide (i = 1)), .bl (decide (i = 2))]) l = some (.lst [.bl (decide (i = 0)), .bl (decide (i = 1)), .bl (decide (i = 2))]) := upd_same
    generalize upd H l (.lst [.bl (decide (i = 0)), .bl (decide (i = 1)), .bl (decide (i = 2))]) = HL at *
    refine ⟨_, rfl, _, rfl, a, c, _, _, _, rfl, ClsV.own _, T, ha.mono (sl), kt 3 c3 rfl, _, rfl, a, c, _, _, _, rfl, ClsV.own _, T, ha.mono (sl), kt 4 c4 rfl, _, rfl, a, c, _, _, _, rfl, ClsV.own _, T, ha.mono (sl), kt 5 c5 rfl, (by show 3 ≤ sizeLine; decide), fun b hb => ?_⟩
    have sb : Same HL (upd HL b (.lst [.bl (decide (i = 3)), .bl (decide (i = 4)), .bl (decide (i = 5))])) := same1 hb
    have hB : upd HL b (.lst [.bl (decide (i = 3)), .bl (decide (i = 4)), .bl (decide (i = 5))]) b = some (.lst [.bl (decide (i = 3)), .bl (decide (i = 4)), .bl (decide (i = 5))]) := upd_same
    generalize upd HL b (.lst [.bl (decide (i = 3)), .bl (decide (i = 4)), .bl (decide (i = 5))]) = HB at *
    refine ⟨l, b, _, _, rfl, rfl, sb _ _ hL, hB, (by show 6 ≤ sizeLine; decide), fun p hp => ?_⟩
    have sp : Same HB (upd HB p (.lst ([.bl (decide (i = 0)), .bl (decide (i = 1)), .bl (decide (i = 2))] ++ [.bl (decide (i = 3)), .bl (decide (i = 4)), .bl (decide (i = 5))]))) := same1 hp
    have hP : upd HB p (.lst ([.bl (decide (i = 0)), .bl (decide (i = 1)), .bl (decide (i = 2))] ++ [.bl (decide (i = 3)), .bl (decide (i = 4)), .bl (decide (i = 5))])) p = some (.lst ([.bl (decide (i = 0)), .bl (decide (i = 1)), .bl (decide (i = 2))] ++ [.bl (decide (i = 3)), .bl (decide (i = 4)), .bl (decide (i = 5))])) := upd_same
    generalize upd HB p (.lst ([.bl (decide (i = 0)), .bl (decide (i = 1)), .bl (decide (i = 2))] ++ [.bl (decide (i = 3)), .bl (decide (i = 4)), .bl (decide (i = 5))])) = HP at *
    have s3 : Same H HP := sl.trans (sb.trans sp)
    refine ⟨_, rfl, a, c, _, _, _, rfl, ClsV.own _, T, ha.mono (s3), kt 6 c6 rfl, _, rfl, a, c, _, _, _, rfl, ClsV.own _, T, ha.mono (s3), kt 7 c7 rfl, _, rfl, a, c, _, _, _, rfl, ClsV.own _, T, ha.mono (s3), kt 8 c8 rfl, (by show 3 ≤ sizeLine; decide), fun t ht => ?_⟩
    have st : Same HP (upd HP t (.lst [.bl (decide (i = 6)), .bl (decide (i = 7)), .bl (decide (i = 8))])) := same1 ht
    have hT : upd HP t (.lst [.bl (decide (i = 6)), .bl (decide (i = 7)), .bl (decide (i = 8))]) t = some (.lst [.bl (decide (i = 6)), .bl (decide (i = 7)), .bl (decide (i = 8))]) := upd_same
    generalize upd HP t (.lst [.bl (decide (i = 6)), .bl (decide (i = 7)), .bl (decide (i = 8))]) = HT at *
    refine ⟨_, rfl, _, rfl, p, t, _, _, rfl, rfl, st _ _ hP, hT, (by show 9 ≤ sizeLine; decide), fun u hu => ?_⟩
    have su : Same HT (upd HT u (HO.lst (([.bl (decide (i = 0)), .bl (decide (i = 1)), .bl (decide (i = 2))] ++ [.bl (decide (i = 3)), .bl (decide (i = 4)), .bl (decide (i = 5))]) ++ [.bl (decide (i = 6)), .bl (decide (i = 7)), .bl (decide (i = 8))]))) := same1 hu
    have hU := @upd_same HT u (HO.lst (([.bl (decide (i = 0)), .bl (decide (i = 1)), .bl (decide (i = 2))] ++ [.bl (decide (i = 3)), .bl (decide (i = 4)), .bl (decide (i = 5))]) ++ [.bl (decide (i = 6)), .bl (decide (i = 7)), .bl (decide (i = 8))]))
    generalize upd HT u (HO.lst (([.bl (decide (i = 0)), .bl (decide (i = 1)), .bl (decide (i = 2))] ++ [.bl (decide (i = 3)), .bl (decide (i = 4)), .bl (decide (i = 5))]) ++ [.bl (decide (i = 6)), .bl (decide (i = 7)), .bl (decide (i = 8))])) = HU at *
    have s9 : Same H HU := s3.trans (st.trans su)
    refine ⟨_, rfl, a, c, _, _, _, rfl, ClsV.own _, T, ha.mono (s9), kt 9 c9 rfl, _, rfl, a, c, _, _, _, rfl, ClsV.own _, T, ha.mono (s9), kt 10 c10 rfl, _, rfl, a, c, _, _, _, rfl, ClsV.own _, T, ha.mono (s9), kt 11 c11 rfl, (by show 3 ≤ sizeLine; decide), fun v hv => ?_⟩
    have sv : Same HU (upd HU v (.lst [.bl (decide (i = 9)), .bl (decide (i = 10)), .bl (decide (i = 11))])) := same1 hv
    have hV : upd HU v (.lst [.bl (decide (i = 9)), .bl (decide (i = 10)), .bl (decide (i = 11))]) v = some (.lst [.bl (decide (i = 9)), .bl (decide (i = 10)), .bl (decide (i = 11))]) := upd_same
    generalize upd HU v (.lst [.bl (decide (i = 9)), .bl (decide (i = 10)), .bl (decide (i = 11))]) = HV at *
    refine ⟨u, v, _, _, rfl, rfl, sv _ _ hU, hV, (by show 12 ≤ sizeLine; decide), fun q hq => ?_⟩
    exact kq _ q (s9.trans (sv.trans (same1 hq))) ((s9.trans sv).free hq) upd_same
end
end K03
namespace K03
open PySem PySem.Spec PyProof.Rows L2
/-! ### the law itself -/
/-- a thing that may be handed in: its == and its isinstance are told -/
inductive ThingAt (H : Hp) : V → Prop where
  | non : ThingAt H .non
  | bl (b : Bool) : ThingAt H (.bl b)
  | int (i : Int) : ThingAt H (.int i)
  | str (x : Str) (h : SeqAt.shaped (.str x) = true) : ThingAt H (.str x)
  | emp {a : Addr} (h : H a = some (.tup [])) : ThingAt H (.ref a)
  | two {a : Addr} (h : H a = some (.tup [.int 0, .int 3])) : ThingAt H (.ref a)
theorem ThingAt.but {H H' : Hp} {p : Addr} {xs : List V} {v : V} (t : ThingAt H v) (hp : H p = some (.lst xs)) (b : But p H H') : ThingAt H' v := by
  cases t with
  | non => exact .non
  | bl b => exact .bl b
  | int i => exact .int i
  | str x h => exact .str x h
  | emp h => exact .emp (b _ _ (fun z => by rw [z, hp] at h; cases h) h)
  | two h => exact .two (b _ _ (fun z => by rw [z, hp] at h; cases h) h)
theorem ThingAt.mono {H H' : Hp} {v : V} (t : ThingAt H v) (s : Same H H') : ThingAt H' v := by
  cases t with
  | non => exact .non
  | bl b => exact .bl b
  | int i => exact .int i
  | str x h => exact .str x h
  | emp h => exact .emp (s _ _ h)
  | two h => exact .two (s _ _ h)
theorem ThingAt.tell {K : PySem.W.Frag} {H : Hp} {v : V} (t : ThingAt H v) : ∃ (d : PyData) (ty : Value) (b : Bool), Dp K H v d ∧ SeqAt.shaped d = true ∧ PyData.eqv d d = true ∧ TyX K H v ty ∧ PySem.W.kitOne K ty (.type "bool") = some b := by
  cases t with
  | non => exact ⟨_, _, false, .non, rfl, rfl, .base .non, kit_ty (by decide +kernel)⟩
  | bl b => exact ⟨_, _, true, .bl b, rfl, by simp [PyData.eqv], .base (.bl b), kit_ty (by decide +kernel)⟩
  | int i => exact ⟨_, _, false, .int i, rfl, by simp [PyData.eqv], .base (.int i), kit_ty (by decide +kernel)⟩
  | str x h => exact ⟨_, _, false, .str x, h, by simp [PyData.eqv], .base (.str x), kit_ty (by decide +kernel)⟩
  | emp h => exact ⟨_, _, false, .tup (SqT.of h) .nil, rfl, rfl, .base (.tup h), kit_ty (by decide +kernel)⟩
  | two h => exact ⟨_, _, false, .tup (SqT.of h) (.cons (.int _) (.cons (.int _) .nil)), rfl, rfl, .base (.tup h), kit_ty (by decide +kernel)⟩
abbrev lawN : List Str := ["script", "cell", "well", "thing", "text", "error", "value", "errors", "k", "at"]
def spLaw (K : PySem.W.Frag) : Sp := fun vs H Q _ => ∃ (a : Addr) (ns : List Int), vs = [.ref a] ∧ SqL K H a (ns.map V.int) ∧ ns.length ≤ 63 ∧ ∀ H', Q (.bl true) H'
structure Laws (P : Program) (w : World) (K : PySem.W.Frag) (mg : Str → Option Value) (base : Heap) (R c0 c1 c2 c3 c4 c5 c6 c7 c8 c9 c10 c11 f8 f9 f10 f11 : Addr) : Prop where
  B : TxtB mg
  C : Cls P w K mg R c0 c1 c2 c3 c4 c5 c6 c7 c8 c9 c10 c11 f8 f9 f10 f11
  well : ∃ f fd, FnOk P w K mg base CX0 1 f fd ["cell"] spWell ∧ mg "_law_well" = some (.ref f) ∧ PySem.W.keepIn K (.ref f) = true ∧ Binds K fd ["cell"] []
  one : ∃ f fd, FnOk P w K mg base CX0 2 f fd ["well", "some"] (spOne K) ∧ mg "_law_one" = some (.ref f) ∧ PySem.W.keepIn K (.ref f) = true ∧ Binds K fd ["well", "some"] []
  plain : ∃ f fd, FnOk P w K mg base CX0 1 f fd ["text"] (spPlain [c0, c1, c2, c3, c4, c5, c6, c7]) ∧ mg "_law_plain" = some (.ref f) ∧ PySem.W.keepIn K (.ref f) = true ∧ Binds K fd ["text"] []
  with_ : ∃ f fd, FnOk P w K mg base CX0 2 f fd ["thing"] (spWith [c8, c9, c10, c11]) ∧ mg "_law_with" = some (.ref f) ∧ PySem.W.keepIn K (.ref f) = true ∧ Binds K fd ["thing"] []
  kinds : ∃ f fd, FnOk P w K mg base CX0 1 f fd ["error"] (spKinds K [c0, c1, c2, c3, c4, c5, c6, c7, c8, c9, c10, c11]) ∧ mg "_law_kinds" = some (.ref f) ∧ PySem.W.keepIn K (.ref f) = true ∧ Binds K fd ["error"] []
theorem cut_int {ns : List Int} {lo hi : Option Int} {i : Nat} {x : V} (h : (cutV (ns.map V.int) lo hi ++ [V.int 0])[i]? = some x) : ∃ c, x = V.int c := by
  have m := List.mem_of_getElem? h
  rcases List.mem_append.mp m with m | m
  · unfold cutV at m
    obtain ⟨c, _, e⟩ := List.mem_map.mp (List.mem_of_mem_drop (List.mem_of_mem_take m))
    exact ⟨c, e.symm⟩
  · exact ⟨0, by simpa using m⟩
theorem dp_bools {K : PySem.W.Frag} {H : Hp} : ∀ l : List Bool, DpAll K H (l.map V.bl) (l.map PyData.bool)
  | [] => .nil
  | b :: l => .cons (.bl b) (dp_bools l)
theorem eqv_bools : ∀ l : List Bool, PyData.eqvAll (l.map PyData.bool) (l.map PyData.bool) = true
  | [] => rfl
  | b :: l => by
    show (PyData.eqv (.bool b) (.bool b) && PyData.eqvAll (l.map PyData.bool) (l.map PyData.bool)) = true
    rw [eqv_bools l]
    simp [PyData.eqv]
theorem decI (a b : Int) : decide (V.int a = V.int b) = decide (a = b) := by
  by_cases h : a = b
  · rw [h]; simp
  · simp [h]
theorem iteN {c : Bool} {A B : Prop} (hc : c = true) (h : B) : if (!c) = true then A else B := by
  rw [hc]
  exact iteF h
/-- what is known of the errors: each of its own class, the plain ones with the text -/
def ErrAt (cs : List Addr) (H : Hp) (as : List Addr) (m : Str) : Prop := as.length = 12 ∧ ∀ (i : Nat) (e : Addr), as[i]? = some e → ∃ c, cs[i]? = some c ∧ ExAt c H e ∧ (i < 8 → PlAt H e c m)
theorem ErrAt.mono {cs as : List Addr} {H H' : Hp} {m : Str} (h : ErrAt cs H as m) (s : Same H H') : ErrAt cs H' as m := ⟨h.1, fun i e q => by
  obtain ⟨c, a, b, d⟩ := h.2 i e q
  exact ⟨c, a, b.mono s, fun z => (d z).mono s⟩⟩
theorem Cls.txt {P : Program} {w : World} {K : PySem.W.Frag} {mg : Str → Option Value} {R c0 c1 c2 c3 c4 c5 c6 c7 c8 c9 c10 c11 f8 f9 f10 f11 : Addr} (C : Cls P w K mg R c0 c1 c2 c3 c4 c5 c6 c7 c8 c9 c10 c11 f8 f9 f10 f11) (i : Nat) (c : Addr)
    (h : [c0, c1, c2, c3, c4, c5, c6, c7, c8, c9, c10, c11][i]? = some c) : ExTxt K c :=
  match i, h with
  | 0, h => by cases h; exact C.p0.t
  | 1, h => by cases h; exact C.p1.t
  | 2, h => by cases h; exact C.p2.t
  | 3, h => by cases h; exact C.p3.t
  | 4, h => by cases h; exact C.p4.t
  | 5, h => by cases h; exact C.p5.t
  | 6, h => by cases h; exact C.p6.t
  | 7, h => by cases h; exact C.p7.t
  | 8, h => by cases h; exact C.p8.t
  | 9, h => by cases h; exact C.p9.t
  | 10, h => by cases h; exact C.p10.t
  | 11, h => by cases h; exact C.p11.t
  | n + 12, h => by cases h
theorem scLaw : FnScope lawN ["script"] (defScope sLaw) := ⟨rfl, rfl, rfl, by decide +kernel, rfl, by decide +kernel, by decide +kernel⟩
section
variable {P : Program} {w : World} {K : PySem.W.Frag} {mg : Str → Option Value} {base : Heap} {R c0 c1 c2 c3 c4 c5 c6 c7 c8 c9 c10 c11 f8 f9 f10 f11 : Addr}
theorem ok_law {f : Addr} {fd : FuncData} (F : Fun K "law" "law" sLaw f fd) (W : Laws P w K mg base R c0 c1 c2 c3 c4 c5 c6 c7 c8 c9 c10 c11 f8 f9 f10 f11) : FnOk P w K mg base CX0 3 f fd ["script"] (spLaw K) := by
  have B := W.B
  have C := W.C
  obtain ⟨fW, fdW, GW, mW, kW, bW⟩ := W.well
  obtain ⟨fO, fdO, GO, mO, kO, bO⟩ := W.one
  obtain ⟨fP, fdP, GP, mP, kP, bP⟩ := W.plain
  obtain ⟨fT, fdT, GT, mT, kT, bT⟩ := W.with_
  obtain ⟨fK, fdK, GK, mK, kK, bK⟩ := W.kinds
  refine F.ok scLaw (fun vs H Q E h => ?_) (fun cdv A outer s H vs Q E hr h => ?_)
  · obtain ⟨a, ns, rfl, _⟩ := h
    rfl
  · obtain ⟨a, ns, rfl, hs, hl, kq⟩ := h
    have r1 : Room 1 _ := hr.mono (by decide)
    have r2 : Room 2 _ := hr.mono (by decide)
    refine ⟨_, pss_cons (ps_for PassesOwn.never rfl (pi_list (pe_op op_cat (pe_slice sl_list (pv 0) po_none (po_some pe_int)) (pe_lst (pa_cons pe_int pa_nil)))) (pg_name (i := 1) scLaw.nd rfl (.inl rfl))
        (pss_cons (ps_set (i := 2) scLaw.nd rfl (Or.inl rfl) (pe_call GW r1 rfl mW kW bW .nil pass0 (pa_cons (pv 1) pa_nil)))
        (pss_cons (ps_set (i := 3) scLaw.nd rfl (Or.inl rfl) (pe_call GO r2 rfl mO kO bO .nil pass0 (pa_cons (pv 2) (pa_cons (pe_lst (pa_cons pe_non (pa_cons pe_int (pa_cons (pe_un un_neg pe_int) (pa_cons pe_str (pa_cons pe_str (pa_cons (pe_tup (pa_cons pe_int (pa_cons pe_int pa_nil)))
          (pa_cons (pe_cmpR op_eq pe_int pe_int (nomark _)) (pa_cons (pe_op op_pow pe_int pe_int) (pa_cons (pe_tup pa_nil) (pa_cons pe_str pa_nil))))))))))) pa_nil))))
        (C8.pss_cut (ps_set (i := 4) scLaw.nd rfl (Or.inl rfl) (pe_call GO r2 rfl mO kO bO .nil pass0 (pa_cons (pv 2) (pa_cons (pe_lst (pa_cons pe_str (pa_cons pe_str (pa_cons pe_str (pa_cons pe_str pa_nil))))) pa_nil))))
        (C8.pss_cut (ps_set (i := 7) scLaw.nd rfl (Or.inl rfl) (pe_op op_cat (pe_call GP r1 rfl mP kP bP .nil pass0 (pa_cons (pv 4) pa_nil))
          (pe_lc (own := [("error", 5), ("value", 6)]) (g := gTup K 2 (gCons (gName 5) (gCons (gName 6) gNil))) (by rfl) scLaw.nd (pi_list (pe_call GT r2 rfl mT kT bT .nil pass0 (pa_cons (pv 3) pa_nil))) (blkOk_by (own := [("error", 5), ("value", 6)]) (N := lawN) (sc := defScope sLaw) (by decide +kernel))
            (fun _ _ _ _ _ => pg_tup (by rfl) (pgs_cons (pg_name (i := 5) scLaw.nd rfl (.inl rfl)) (pgs_cons (pg_name (i := 6) scLaw.nd rfl (.inl rfl)) pgs_nil))) (fun _ _ _ _ _ => pts_nil) (fun _ _ _ _ _ => pv 5))))
        (C8.pss_cut (ps_for PassesOwn.never rfl (pi_enum (by rfl) B.enum (pa_cons (pv 7) pa_nil)) (pg_tup (by rfl) (pgs_cons (pg_name (i := 8) scLaw.nd rfl (.inr rfl)) (pgs_cons (pg_name (i := 5) scLaw.nd rfl (.inl rfl)) pgs_nil)))
          (pss_cons (ps_if (PW.pt (pw_or (pt_not (pt_val (pe_callB call_isX (by rfl) B.isi (by decide +kernel) (pa_cons (pv 5) (pa_cons (pe_glob (v := .ref R) rfl C.rg rfl) pa_nil)))))
              (pw_or1 (pt_not (pt_val (pe_callB call_isX (by rfl) B.isi (by decide +kernel) (pa_cons (pv 5) (pa_cons (pe_bltn (v := .ty "ValueError") (by rfl) B.ve (by decide +kernel) rfl) pa_nil)))))))) (pss_one (ps_ret pe_bl)) pss_nil)
          (pss_one (ps_if (PW.pt (pw_or (pt_cmpR (op_neD r1.units) (pe_call GK r1 rfl mK kK bK .nil pass0 (pa_cons (pv 5) pa_nil))
                (pe_lc (own := [("at", 9)]) (g := gName 9) (by rfl) scLaw.nd (pi_range1 (by rfl) B.range (pa_cons pe_int pa_nil)) (blkOk_by (own := [("at", 9)]) (N := lawN) (sc := defScope sLaw) (by decide +kernel)) (fun _ _ _ _ _ => pg_name (i := 9) scLaw.nd rfl (.inl rfl)) (fun _ _ _ _ _ => pts_nil)
                  (fun _ _ _ _ _ => pe_cmpR op_eq (pv 8) (pv 9) (nomark _))) (nomark _))
              (pw_or1 (PW.pt (pw_and (pt_cmpR op_lt (pv 8) pe_int (nomark _)) (pw_and1 (pt_cmpR op_ne (pe_callTy (call_strX r1) (by rfl) B.str (by decide +kernel) (pa_cons (pv 5) pa_nil)) (pv 4) (nomark _)))))))) (pss_one (ps_ret pe_bl)) pss_nil))))
        (pss_one (ps_for PassesOwn.never rfl (pi_list (pe_call GT r2 rfl mT kT bT .nil pass0 (pa_cons (pv 3) pa_nil))) (pg_tup (by rfl) (pgs_cons (pg_name (i := 5) scLaw.nd rfl (.inl rfl)) (pgs_cons (pg_name (i := 6) scLaw.nd rfl (.inl rfl)) pgs_nil)))
          (pss_one (ps_if (PW.pt (pw_or (pt_cmpR (op_neD r1.units) (pv 6) (pv 3) (nomark _))
              (pw_or1 (pt_cmpR op_ne (pe_callB call_isi (by rfl) B.isi (by decide +kernel) (pa_cons (pv 6) (pa_cons (pe_bltn (v := .ty "bool") (by rfl) B.bool (by decide +kernel) rfl) pa_nil)))
                (pe_callB call_isi (by rfl) B.isi (by decide +kernel) (pa_cons (pv 3) (pa_cons (pe_bltn (v := .ty "bool") (by rfl) B.bool (by decide +kernel) rfl) pa_nil))) (nomark _))))) (pss_one (ps_ret pe_bl)) pss_nil))))))))))
      (pss_one (ps_ret pe_bl)), ?_⟩
    refine ⟨_, rfl, _, rfl, a, _, rfl, hs, fun l h0 => ⟨(by show 1 ≤ sizeLine; decide), fun b hb => ?_⟩⟩
    have zl : (cutV (ns.map V.int) none (some 6)).length ≤ 63 := Nat.le_trans (cutV_length _ _ _) (by rw [List.length_map]; exact hl)
    refine ⟨l, b, _, _, rfl, rfl, same1 hb _ _ upd_same, upd_same, Nat.le_trans (Nat.add_le_add_right zl _) (by show 64 ≤ sizeLine; decide), fun p hp => ?_⟩
    refine ⟨p, rfl, ⟨_, SqL.of upd_same⟩, for_list (K := K) (a := p) (xs := cutV (ns.map V.int) none (some 6) ++ [V.int 0])
      (fun _ σ G => ∃ v1 v2 v3 v4 v5 v6 v7 v8 v9 : Option V, σ = [some (.ref a), v1, v2, v3, v4, v5, v6, v7, v8, v9] ∧ G p = some (.lst (cutV (ns.map V.int) none (some 6) ++ [V.int 0])))
      ⟨none, none, none, none, none, none, none, none, none, rfl, upd_same⟩ (fun i σ G _ h => ?_) ?_ ?_⟩
    · obtain ⟨_, _, _, _, _, _, _, _, _, _, g⟩ := h
      exact SqL.of g
    · rintro i x σ G hi ⟨v1, v2, v3, v4, v5, v6, v7, v8, v9, rfl, gp⟩
      obtain ⟨c, rfl⟩ := cut_int hi
      generalize cutV (ns.map V.int) none (some 6) ++ [V.int 0] = cells at *
      -- the well
      refine ⟨_, rfl, c, rfl, fun wl x0 y0 hw y1 y2 => ?_⟩
      have pw : p ≠ wl := fun z => by rw [z, hw] at gp; cases gp
      have w1 : WellAt (upd G wl (.lst [.int x0, .int y0, .int 0])) wl 0 := ⟨_, _, upd_same, y1, y2⟩
      have g1 := (same1 (o := .lst [.int x0, .int y0, .int 0]) hw) _ _ gp
      generalize upd G wl (.lst [.int x0, .int y0, .int 0]) = G1 at *
      -- the thing
      refine ⟨_, rfl, _, rfl, (by show 2 ≤ sizeLine; decide), fun t2 ht2 => ?_⟩
      have e2 : upd G1 t2 (.tup [.int 0, .int 3]) t2 = some (.tup [.int 0, .int 3]) := upd_same
      have s2 : Same G1 (upd G1 t2 (.tup [.int 0, .int 3])) := same1 ht2
      generalize upd G1 t2 (.tup [.int 0, .int 3]) = G2 at *
      refine ⟨rfl, _, _, rfl, rfl, ⟨by decide, by decide, by decide⟩, (by show 0 ≤ sizeLine; decide), fun t0 ht0 => ?_⟩
      have e0 : upd G2 t0 (.tup []) t0 = some (.tup []) := upd_same
      have s3 : Same G2 (upd G2 t0 (.tup [])) := same1 ht0
      generalize upd G2 t0 (.tup []) = G3 at *
      refine ⟨(by show 10 ≤ sizeLine; decide), fun q hq => ?_⟩
      have wq : wl ≠ q := fun z => by
        obtain ⟨_, _, e, _⟩ := w1
        rw [← z] at hq
        rw [s3 _ _ (s2 _ _ e)] at hq
        cases hq
      have sq : ∀ o : HO, Same G1 (upd G3 q o) := fun o => s2.trans (s3.trans (same1 hq))
      obtain ⟨x1, y1', w2, w3, w4⟩ := w1
      refine ⟨wl, q, _, 0, rfl, ⟨x1, y1', sq _ _ _ w2, w3, w4⟩, by decide, by decide, upd_same, Ne.symm wq, (by show 0 < 10; decide), (by show 10 < 1000; decide), fun H5 z th bt w5 z0 z1 hx => ?_⟩
      have t5 : ThingAt H5 th := by
        refine ThingAt.but (H := upd G3 q _) ?_ (sq _ _ _ w2) bt
        have m2 := (same1 (o := .lst [.non, .int 0, .int (-1), .str "", .str "beds", .ref t2, .bl (decide (V.int 1 = V.int 1)), .int (10 ^ (12 : Int).toNat), .ref t0, .str "a b"]) hq) _ _ (s3 _ _ e2)
        have m0 := (same1 (o := .lst [.non, .int 0, .int (-1), .str "", .str "beds", .ref t2, .bl (decide (V.int 1 = V.int 1)), .int (10 ^ (12 : Int).toNat), .ref t0, .str "a b"]) hq) _ _ e0
        have hx' : th ∈ [V.non, .int 0, .int (-1), .str "", .str "beds", .ref t2, .bl (decide (V.int 1 = V.int 1)), .int (10 ^ (12 : Int).toNat), .ref t0, .str "a b"] := hx
        simp only [List.mem_cons, List.not_mem_nil, or_false] at hx'
        rcases hx' with h | h | h | h | h | h | h | h | h | h <;> subst h
        · exact .non
        · exact .int _
        · exact .int _
        · exact .str _ (by decide +kernel)
        · exact .str _ (by decide +kernel)
        · exact .two m2
        · exact .bl _
        · exact .int _
        · exact .emp m0
        · exact .str _ (by decide +kernel)
      have g5 : H5 p = some (.lst cells) := bt _ _ pw (sq _ _ _ g1)
      clear hx bt sq
      -- the text
      refine ⟨fun σ H => ∃ (m : Str), σ = [some (.ref a), some (.int c), some (.ref wl), some th, some (.str m), v5, v6, v7, v8, v9] ∧ H p = some (.lst cells) ∧ ThingAt H th, ?_, ?_⟩
      · refine ⟨_, rfl, (by show 4 ≤ sizeLine; decide), fun q' hq' => ?_⟩
        have wq : wl ≠ q' := fun z => by
          obtain ⟨_, _, e, _⟩ := w5
          rw [← z, e] at hq'
          cases hq'
        have sq : ∀ o : HO, Same H5 (upd H5 q' o) := fun o => same1 hq'
        obtain ⟨x5, y5, u2, u3, u4⟩ := w5
        refine ⟨wl, q', _, z, rfl, ⟨x5, y5, sq _ _ _ u2, u3, u4⟩, z0, by omega, upd_same, Ne.symm wq, (by show 0 < 4; decide), (by show 4 < 1000; decide), fun H6 z' tx bt w6 z0' z1' hx => ?_⟩
        have hx' : tx ∈ [V.str "", .str "no", .str "a text of its own", .str "0"] := hx
        simp only [List.mem_cons, List.not_mem_nil, or_false] at hx'
        have t6 : ThingAt H6 th := ThingAt.but (t5.mono (sq _)) (sq _ _ _ u2) bt
        have g6 : H6 p = some (.lst cells) := bt _ _ pw (sq _ _ _ g5)
        rcases hx' with h | h | h | h <;> subst h <;> exact ⟨_, rfl, g6, t6⟩
      rintro σ G6 ⟨m, rfl, g6, t6⟩
      -- the errors
      refine ⟨fun σ H => ∃ (E : Addr) (as : List Addr) (v5 v6 : Option V), σ = [some (.ref a), some (.int c), some (.ref wl), some th, some (.str m), v5, v6, some (.ref E), v8, v9] ∧ H p = some (.lst cells) ∧ ThingAt H th ∧ H E = some (.lst (as.map V.ref)) ∧
        ErrAt [c0, c1, c2, c3, c4, c5, c6, c7, c8, c9, c10, c11] H as m, ?_, ?_⟩
      · refine ⟨_, rfl, m, rfl, fun H1 l as s1 hl1 al ha => ?_⟩
        refine ⟨_, rfl, th, rfl, fun H2 t ts s2' ht tl hts => ⟨t, rfl, ⟨_, SqL.of ht⟩, fun D hD => ?_⟩⟩
        have lD : l ≠ D := fun z => by rw [← z, s2' _ _ hl1] at hD; cases hD
        refine lc_list (K := K) (a := t) (xs := ts.map V.ref) (fun j M => ∃ es : List Addr, es.length = j ∧ M D = some (.lst (es.map V.ref)) ∧ Same H2 M ∧ ∀ (i : Nat) (e c : Addr), es[i]? = some e → [c8, c9, c10, c11][i]? = some c → ExAt c M e) ?_ ?_ ?_ ?_
        · exact ⟨[], rfl, upd_same, same1 hD, fun i e c h => by cases h⟩
        · rintro j M _ ⟨es, _, _, sm, _⟩
          exact SqL.of (sm _ _ ht)
        · rintro j x M hx ⟨es, el, eD, sm, he⟩
          rw [List.getElem?_map] at hx
          obtain ⟨tj, htj, rfl⟩ := Option.map_eq_some_iff.mp hx
          have jl : j < 4 := by
            have := (List.getElem?_eq_some_iff.mp htj).1
            omega
          obtain ⟨c, hc⟩ : ∃ c, [c8, c9, c10, c11][j]? = some c := ⟨_, List.getElem?_eq_getElem (by simpa using jl)⟩
          obtain ⟨e, h1, h2⟩ := hts j tj c htj hc
          refine ⟨tj, _, rfl, SqT.of (sm _ _ h1), rfl, _, _, rfl, _, _, rfl, rfl, rfl, ?_⟩
          refine ⟨_, rfl, _, eD, (by rw [List.length_map, el]; exact Nat.lt_trans jl (by show 4 < sizeLine; decide)), es ++ [e], by rw [List.length_append, el]; rfl, ?_, ?_, ?_⟩
          · rw [List.map_append]
            exact upd_same
          · exact fun b o z => by
              rw [upd_ne (ne_of_none z hD)]
              exact sm _ _ z
          · intro i e' c' hi hc'
            have st : ∀ {e'' c'' : Addr}, ExAt c'' M e'' → ExAt c'' (upd M D (.lst (es.map V.ref ++ [V.ref e]))) e'' := fun {e'' c''} h => by
              rcases h with ⟨t', h⟩ | ⟨d, fs, h, k⟩
              · exact .inl ⟨t', by rw [upd_ne (fun z => by rw [z, eD] at h; cases h)]; exact h⟩
              · exact .inr ⟨d, fs, by rw [upd_ne (fun z => by rw [z, eD] at h; cases h)]; exact h, by rw [upd_ne (fun z => by rw [z, eD] at k; cases k)]; exact k⟩
            by_cases hij : i < es.length
            · rw [List.getElem?_append_left hij] at hi
              exact st (he i e' c' hi hc')
            · rw [List.getElem?_append_right (by omega)] at hi
              have h0 : i - es.length = 0 := by
                have := (List.getElem?_eq_some_iff.mp hi).1
                simp at this
                omega
              rw [h0] at hi
              have ee : e = e' := by simpa using hi
              have ij : i = j := by omega
              rw [ij, hc] at hc'
              cases hc'
              rw [← ee]
              exact st (h2.mono sm)
        · rintro M ⟨es, el, eD, sm, he⟩
          refine ⟨l, D, _, _, rfl, rfl, sm _ _ (s2' _ _ hl1), eD, ?_, fun E hE => ?_⟩
          · rw [List.length_map, List.length_map, al, el, List.length_map, tl]
            show 12 ≤ sizeLine
            decide
          · have sE : Same M (upd M E (.lst (as.map V.ref ++ es.map V.ref))) := same1 hE
            have sG := (s1.trans (s2'.trans (sm.trans sE)))
            refine ⟨E, as ++ es, _, _, rfl, sG _ _ g6, t6.mono sG, by rw [List.map_append]; exact upd_same, by rw [List.length_append, al, el, List.length_map, tl], fun i e hi => ?_⟩
            by_cases h8 : i < 8
            · rw [List.getElem?_append_left (by omega)] at hi
              obtain ⟨c, hc⟩ : ∃ c, [c0, c1, c2, c3, c4, c5, c6, c7][i]? = some c := ⟨_, List.getElem?_eq_getElem (by simpa using h8)⟩
              have q := (ha i e c hi hc).mono (s2'.trans (sm.trans sE))
              refine ⟨c, ?_, q.ex, fun _ => q⟩
              rw [show [c0, c1, c2, c3, c4, c5, c6, c7, c8, c9, c10, c11] = [c0, c1, c2, c3, c4, c5, c6, c7] ++ [c8, c9, c10, c11] from rfl, List.getElem?_append_left (by simpa using h8)]
              exact hc
            · rw [List.getElem?_append_right (by omega), al] at hi
              have hl4 : i - 8 < 4 := by
                have := (List.getElem?_eq_some_iff.mp hi).1
                rw [el, List.length_map, tl] at this
                exact this
              obtain ⟨c, hc⟩ : ∃ c, [c8, c9, c10, c11][i - 8]? = some c := ⟨_, List.getElem?_eq_getElem (by simpa using hl4)⟩
              refine ⟨c, ?_, (he _ e c hi hc).mono sE, fun z => absurd z h8⟩
              rw [show [c0, c1, c2, c3, c4, c5, c6, c7, c8, c9, c10, c11] = [c0, c1, c2, c3, c4, c5, c6, c7] ++ [c8, c9, c10, c11] from rfl, List.getElem?_append_right (by simp; omega)]
              exact hc
      rintro σ G7 ⟨E, as, v5, v6, rfl, g7, t7, e7, r7⟩
      refine ⟨fun σ H => ∃ (v5 v6 v8 v9 : Option V), σ = [some (.ref a), some (.int c), some (.ref wl), some th, some (.str m), v5, v6, some (.ref E), v8, v9] ∧ H p = some (.lst cells) ∧ ThingAt H th, ?_, ?_⟩
      · refine ⟨_, rfl, E, as.map V.ref, rfl, SqL.of e7, for_it (walk_enum (K := K) (a := E) (xs := as.map V.ref)) (fun j σ H => ∃ (v5 v8 v9 : Option V), σ = [some (.ref a), some (.int c), some (.ref wl), some th, some (.str m), v5, v6, some (.ref E), v8, v9] ∧ Same G7 H) ⟨v5, v8, v9, rfl, Same.refl _⟩ ?_ ?_ ?_⟩
        · rintro j σ M _ ⟨_, _, _, _, sm⟩
          exact SqL.of (sm _ _ e7)
        · rintro j x σ M M' hj ⟨v5, v8, v9, rfl, sm⟩ ⟨T, kk, ee, rfl, hT, rfl, hk, he⟩
          cases hk
          have he : (as.map V.ref)[j]? = some ee := he
          rw [List.getElem?_map] at he
          obtain ⟨e, hej, rfl⟩ := Option.map_eq_some_iff.mp he
          have j12 : j < 12 := by
            have := (List.getElem?_eq_some_iff.mp hej).1
            rw [r7.1] at this
            exact this
          have sT : Same M (upd M T (.tup [.int (j : Nat), .ref e])) := same1 hT
          have aT : upd M T (.tup [.int (j : Nat), .ref e]) T = some (.tup [.int (j : Nat), .ref e]) := upd_same
          refine ⟨T, _, rfl, SqT.of aT, rfl, _, _, rfl, _, _, rfl, rfl, ?_⟩
          generalize upd M T (.tup [.int (j : Nat), .ref e]) = M1 at *
          have s7 := sm.trans sT
          obtain ⟨cj, hcj, ex, pl⟩ := (r7.mono s7).2 j e hej
          have Tx := C.txt j cj hcj
          obtain ⟨_, kr, kv⟩ := C.kits j cj hcj
          refine ⟨_, rfl, e, cj, _, _, true, rfl, ClsV.own R, Tx, ex, kr, true, rfl, iteF ?_⟩
          refine ⟨_, rfl, e, cj, _, _, true, rfl, ClsV.ty _, Tx, ex, kv, true, rfl, iteF ?_⟩
          refine ⟨_, rfl, j, e, cj, rfl, hcj, Tx, ex, fun M2 kp sk nk hk => ?_⟩
          refine ⟨12, rfl, by decide, by decide, fun D hD => ?_⟩
          have kD : kp ≠ D := fun z => by rw [← z, hk] at hD; cases hD
          refine lc_range (lo := 0) (n := 12) (fun i N => N D = some (.lst ((List.range i).map fun t => V.bl (decide (j = t)))) ∧ Same M2 N) ⟨upd_same, same1 hD⟩ ?_ ?_
          · rintro i N hi ⟨hN, sN⟩
            refine ⟨rfl, ?_⟩
            refine ⟨_, rfl, _, rfl, rfl, _, hN, (by rw [List.length_map, List.length_range]; exact Nat.lt_trans hi (by show 12 < sizeLine; decide)), ?_, fun b o z => ?_⟩
            · rw [List.range_succ, List.map_append, decI, show decide ((j : Int) = 0 + (i : Int)) = decide (j = i) from decide_eq_decide.mpr (by omega)]
              exact upd_same
            · rw [upd_ne (ne_of_none z hD)]
              exact sN _ _ z
          · rintro N ⟨hN, sN⟩
            have sMN : Same M1 N := sk.trans sN
            refine ⟨.list ((List.range 12).map fun t => PyData.bool (decide (j = t))), .list ((List.range 12).map fun t => PyData.bool (decide (j = t))), Dp.lst (SqL.of (sN _ _ hk)) ?_, Dp.lst (SqL.of hN) ?_, rfl, rfl, _, rfl, ?_⟩
            · have q := dp_bools (K := K) (H := N) ((List.range 12).map fun t => decide (j = t))
              rw [List.map_map, List.map_map] at q
              exact q
            · have q := dp_bools (K := K) (H := N) ((List.range 12).map fun t => decide (j = t))
              rw [List.map_map, List.map_map] at q
              exact q
            have q := eqv_bools ((List.range 12).map fun t => decide (j = t))
            rw [List.map_map] at q
            refine iteN (show PyData.eqv (.list ((List.range 12).map fun t => PyData.bool (decide (j = t)))) (.list ((List.range 12).map fun t => PyData.bool (decide (j = t)))) = true from q) ?_
            refine ⟨_, rfl, _, _, rfl, rfl, _, rfl, ?_⟩
            refine ite2 (fun h => ?_) (fun h => ?_)
            · have j8 : j < 8 := by
                have h : (j : Int) < 8 := of_decide_eq_true h
                omega
              obtain ⟨t, q1, q2⟩ := (pl j8).mono sMN
              refine ⟨_, rfl, e, cj, t, m, rfl, Tx, q1, q2, _, rfl, rfl, _, rfl, ?_⟩
              refine iteN (decide_eq_true rfl) ?_
              exact ⟨_, _, _, rfl, s7.trans sMN⟩
            · exact iteF ⟨_, _, _, rfl, s7.trans sMN⟩
        · rintro σ M ⟨v5, v8, v9, rfl, sm⟩
          exact ⟨v5, v6, v8, v9, rfl, sm _ _ g7, t7.mono sm⟩
      rintro σ G8 ⟨v5, v6, v8, v9, rfl, g8, t8⟩
      -- what the four keep
      refine ⟨_, rfl, th, rfl, fun H2 t ts s2' ht tl hts => ⟨t, rfl, ⟨_, SqL.of ht⟩, ?_⟩⟩
      refine for_list (K := K) (a := t) (xs := ts.map V.ref) (fun j σ M => ∃ (v5 v6 : Option V), σ = [some (.ref a), some (.int c), some (.ref wl), some th, some (.str m), v5, v6, some (.ref E), v8, v9] ∧ Same H2 M) ⟨v5, v6, rfl, Same.refl _⟩ ?_ ?_ ?_
      · rintro j σ M _ ⟨_, _, _, sm⟩
        exact SqL.of (sm _ _ ht)
      · rintro j x σ M hx ⟨v5, v6, rfl, sm⟩
        rw [List.getElem?_map] at hx
        obtain ⟨tj, htj, rfl⟩ := Option.map_eq_some_iff.mp hx
        have jl : j < 4 := by
          have := (List.getElem?_eq_some_iff.mp htj).1
          omega
        obtain ⟨cj, hc⟩ : ∃ cj, [c8, c9, c10, c11][j]? = some cj := ⟨_, List.getElem?_eq_getElem (by simpa using jl)⟩
        obtain ⟨e, h1, _⟩ := hts j tj cj htj hc
        obtain ⟨d, ty, bb, hd, hsh, heq, hty, hkt⟩ := (t8.mono (s2'.trans sm)).tell (K := K)
        refine ⟨tj, _, rfl, SqT.of (sm _ _ h1), rfl, _, _, rfl, _, _, rfl, rfl, ?_⟩
        refine ⟨_, rfl, _, rfl, d, d, hd, hd, hsh, hsh, _, rfl, ?_⟩
        refine iteN heq ?_
        refine ⟨_, rfl, _, _, ty, _, bb, rfl, ClsV.ty _, hty, hkt, _, rfl, _, _, ty, _, bb, rfl, ClsV.ty _, hty, hkt, rfl, _, rfl, ?_⟩
        refine iteN (decide_eq_true rfl) ?_
        exact ⟨_, _, rfl, sm⟩
      · rintro σ M ⟨v5, v6, rfl, sm⟩
        exact ⟨_, _, _, _, _, _, _, _, _, rfl, sm _ _ (s2' _ _ g8)⟩
    · rintro σ G ⟨v1, v2, v3, v4, v5, v6, v7, v8, v9, rfl, gp⟩
      exact kq _
end
end K03
namespace K03
open PySem PySem.Spec PyProof.Rows L2
/-! ### what the written part says -/
/-- a class of the program's own at a, of the line bm -/
structure CLn (K : PySem.W.Frag) (a : Addr) (bm : List Value) : Prop where
  ex : ∃ cd, PySem.W.clsIn K a = some cd ∧ cd.mro = .ref a :: bm
  ty : PySem.W.typeIn K (.ref a) = some (.type "type")
theorem cln_of {K : PySem.W.Frag} {a : Addr} {bm : List Value} {nm q : Str} {N : Addr} {bs : List Value} {hd : Bool} {sn : List Str} {sub : List Value} {ab : Bool} {col : Option Bool} {dd : Option Addr} {k0 k1 k2 k3 k5 : Option Value} {nw : String}
    (h : K.lookup a = some (excClassObj nm q a N bs bm hd sn sub ab col dd k0 k1 k2 k3 k5 nw)) (t : PySem.W.typeIn K (.ref a) = some (.type "type")) : CLn K a bm := by
  refine ⟨⟨{ name := nm, bases := bs, mro := .ref a :: bm, ns := N, qualname := q, hasDict := hd, slotNames := sn, subclasses := sub, abstract := ab, collection := col, hasDel := false }, ?_, rfl⟩, t⟩
  unfold PySem.W.clsIn
  rw [h] <;> rfl
theorem CLn.mro {K : PySem.W.Frag} {a : Addr} {bm : List Value} (h : CLn K a bm) (b : Value) : PySem.W.mroIn K a b = some ((.ref a :: bm).contains b) := by
  obtain ⟨cd, e, m⟩ := h.ex
  unfold PySem.W.mroIn
  rw [e, Option.bind_some, m]
  rfl
theorem CLn.cls {K : PySem.W.Frag} {a : Addr} {bm : List Value} (h : CLn K a bm) : (PySem.W.clsIn K a).isSome = true := by
  obtain ⟨cd, e, _⟩ := h.ex
  rw [e]
  rfl
theorem kit_ref {K : PySem.W.Frag} {a b : Addr} {bm bm' : List Value} {r : Bool} (ha : CLn K a bm) (hb : CLn K b bm') (h : (Value.ref a :: bm).contains (.ref b) = r) : PySem.W.kitOne K (.ref a) (.ref b) = some r := by
  unfold PySem.W.kitOne
  by_cases e : a = b
  · subst e
    have : r = true := by rw [← h]; simp
    rw [this]
    simp
  · rw [if_neg (by simpa using e)]
    show (if ((PySem.W.clsIn K b).isSome && PySem.W.typeIn K (.ref b) == some (.type "type")) = true then PySem.W.subIn K (.ref a) (.ref b) else none) = some r
    rw [if_pos (by rw [hb.cls, hb.ty]; rfl)]
    show PySem.W.mroIn K a (.ref b) = some r
    rw [ha.mro, h]
theorem kit_ve {K : PySem.W.Frag} {a R : Addr} (ha : CLn K a (.ref R :: veTl)) : PySem.W.kitOne K (.ref a) (.type "ValueError") = some true := by
  unfold PySem.W.kitOne
  rw [if_neg (by simp)]
  show (if PySem.W.kitMeta "ValueError" = true then PySem.W.subIn K (.ref a) (.type "ValueError") else none) = some true
  rw [if_pos (by decide +kernel)]
  show PySem.W.mroIn K a (.type "ValueError") = some true
  rw [ha.mro]
  simp [List.contains_cons]
theorem has_type {a R : Addr} {n : String} (h : veTl.contains (.type n) = true) : (Value.ref a :: .ref R :: veTl).contains (.type n) = true := by
  rw [List.contains_cons, List.contains_cons, h]
  simp
theorem kits_of {K : PySem.W.Frag} {cs : List Addr} {R : Addr} (hR : CLn K R veTl) (h : ∀ a ∈ cs, CLn K a (.ref R :: veTl)) (nd : (R :: cs).Nodup) : Kits K cs R := by
  intro i a hi
  have ma : a ∈ cs := List.mem_of_getElem? hi
  have ha := h a ma
  have nR : R ∉ cs := (List.nodup_cons.mp nd).1
  refine ⟨fun j b hj => ?_, ?_, kit_ve ha⟩
  · have mb : b ∈ cs := List.mem_of_getElem? hj
    refine kit_ref ha (h b mb) ?_
    have e : (a = b) ↔ (i = j) := by
      constructor
      · intro q
        subst q
        exact (List.getElem?_inj (List.getElem?_eq_some_iff.mp hi).1 (List.nodup_cons.mp nd).2).mp (hi.trans hj.symm)
      · intro q
        subst q
        exact Option.some.inj (hi.symm.trans hj)
    have nb : b ≠ R := fun q => nR (q ▸ mb)
    by_cases q : i = j
    · have q' := e.mpr q
      subst q'
      rw [decide_eq_true q]
      simp
    · have q' : ¬ a = b := fun z => q (e.mp z)
      rw [decide_eq_false q]
      simp [List.contains_cons, Ne.symm q', nb, Ne.symm]
  · refine kit_ref ha hR ?_
    simp [List.contains_cons]

theorem all_mk {P : Program} {w : World} {K : PySem.W.Frag} {h : Heap} {mg : Str → Option Value} {fa : Addr} (X : K.In h) (G : h.Ns mainGlobals mg) (hfa : mg "law" = some (.ref fa))
    {cR NR : Addr} {nmR qR : Str} {bsR subR : List Value} {snR : List Str} {abR : Bool} {colR : Option Bool} {ddR : Option Addr} {kaR kbR kcR kdR keR : Option Value}
    {c0 N0 : Addr} {nm0 q0 : Str} {bs0 sub0 : List Value} {sn0 : List Str} {ab0 : Bool} {col0 : Option Bool} {dd0 : Option Addr} {ka0 kb0 kc0 kd0 ke0 : Option Value}
    {c1 N1 : Addr} {nm1 q1 : Str} {bs1 sub1 : List Value} {sn1 : List Str} {ab1 : Bool} {col1 : Option Bool} {dd1 : Option Addr} {ka1 kb1 kc1 kd1 ke1 : Option Value}
    {c2 N2 : Addr} {nm2 q2 : Str} {bs2 sub2 : List Value} {sn2 : List Str} {ab2 : Bool} {col2 : Option Bool} {dd2 : Option Addr} {ka2 kb2 kc2 kd2 ke2 : Option Value}
    {c3 N3 : Addr} {nm3 q3 : Str} {bs3 sub3 : List Value} {sn3 : List Str} {ab3 : Bool} {col3 : Option Bool} {dd3 : Option Addr} {ka3 kb3 kc3 kd3 ke3 : Option Value}
    {c4 N4 : Addr} {nm4 q4 : Str} {bs4 sub4 : List Value} {sn4 : List Str} {ab4 : Bool} {col4 : Option Bool} {dd4 : Option Addr} {ka4 kb4 kc4 kd4 ke4 : Option Value}
    {c5 N5 : Addr} {nm5 q5 : Str} {bs5 sub5 : List Value} {sn5 : List Str} {ab5 : Bool} {col5 : Option Bool} {dd5 : Option Addr} {ka5 kb5 kc5 kd5 ke5 : Option Value}
    {c6 N6 : Addr} {nm6 q6 : Str} {bs6 sub6 : List Value} {sn6 : List Str} {ab6 : Bool} {col6 : Option Bool} {dd6 : Option Addr} {ka6 kb6 kc6 kd6 ke6 : Option Value}
    {c7 N7 : Addr} {nm7 q7 : Str} {bs7 sub7 : List Value} {sn7 : List Str} {ab7 : Bool} {col7 : Option Bool} {dd7 : Option Addr} {ka7 kb7 kc7 kd7 ke7 : Option Value}
    {c8 N8 : Addr} {nm8 q8 : Str} {bs8 sub8 : List Value} {sn8 : List Str} {ab8 : Bool} {col8 : Option Bool} {dd8 : Option Addr} {ka8 kb8 kc8 kd8 ke8 : Option Value}
    {f8 cda8 cc8 : Addr} {odf8 anf8 cdd8 cld8 : Option Addr} {slf8 csl8 ccs8 : Array (Option Value)} {ocf8 kVf8 dcf8 pmf8 ctf8 ccl8 cl8 : Value} {vs8 : Array Value} {file8 : Str} {tf8 : Tok}
    {c9 N9 : Addr} {nm9 q9 : Str} {bs9 sub9 : List Value} {sn9 : List Str} {ab9 : Bool} {col9 : Option Bool} {dd9 : Option Addr} {ka9 kb9 kc9 kd9 ke9 : Option Value}
    {f9 cda9 cc9 : Addr} {odf9 anf9 cdd9 cld9 : Option Addr} {slf9 csl9 ccs9 : Array (Option Value)} {ocf9 kVf9 dcf9 pmf9 ctf9 ccl9 cl9 : Value} {vs9 : Array Value} {file9 : Str} {tf9 : Tok}
    {c10 N10 : Addr} {nm10 q10 : Str} {bs10 sub10 : List Value} {sn10 : List Str} {ab10 : Bool} {col10 : Option Bool} {dd10 : Option Addr} {ka10 kb10 kc10 kd10 ke10 : Option Value}
    {f10 cda10 cc10 : Addr} {odf10 anf10 cdd10 cld10 : Option Addr} {slf10 csl10 ccs10 : Array (Option Value)} {ocf10 kVf10 dcf10 pmf10 ctf10 ccl10 cl10 : Value} {vs10 : Array Value} {file10 : Str} {tf10 : Tok}
    {c11 N11 : Addr} {nm11 q11 : Str} {bs11 sub11 : List Value} {sn11 : List Str} {ab11 : Bool} {col11 : Option Bool} {dd11 : Option Addr} {ka11 kb11 kc11 kd11 ke11 : Option Value}
    {f11 cda11 cc11 : Addr} {odf11 anf11 cdd11 cld11 : Option Addr} {slf11 csl11 ccs11 : Array (Option Value)} {ocf11 kVf11 dcf11 pmf11 ctf11 ccl11 cl11 : Value} {vs11 : Array Value} {file11 : Str} {tf11 : Tok}
    {fW : Addr} {odW anW : Option Addr} {slW : Array (Option Value)} {ocW kVW dcW pmW cdW ctW : Value}
    {fD : Addr} {odD anD : Option Addr} {slD : Array (Option Value)} {ocD kVD dcD pmD cdD ctD : Value}
    {fO : Addr} {odO anO : Option Addr} {slO : Array (Option Value)} {ocO kVO dcO pmO cdO ctO : Value}
    {fP : Addr} {odP anP : Option Addr} {slP : Array (Option Value)} {ocP kVP dcP pmP cdP ctP : Value}
    {fT : Addr} {odT anT : Option Addr} {slT : Array (Option Value)} {ocT kVT dcT pmT cdT ctT : Value}
    {fK : Addr} {odK anK : Option Addr} {slK : Array (Option Value)} {ocK kVK dcK pmK cdK ctK : Value}
    {fZ : Addr} {odZ anZ : Option Addr} {slZ : Array (Option Value)} {ocZ kVZ dcZ pmZ cdZ ctZ : Value}
    (xT : (P.main.scope.names.lookup ("super" : Str)).isSome = false)
    (z_int : PySem.W.nsIn K mainGlobals "int" = some none)
    (z_len : PySem.W.nsIn K mainGlobals "len" = some none)
    (z_isinstance : PySem.W.nsIn K mainGlobals "isinstance" = some none)
    (z_bool : PySem.W.nsIn K mainGlobals "bool" = some none)
    (z_str : PySem.W.nsIn K mainGlobals "str" = some none)
    (z_range : PySem.W.nsIn K mainGlobals "range" = some none)
    (z_enumerate : PySem.W.nsIn K mainGlobals "enumerate" = some none)
    (z_ValueError : PySem.W.nsIn K mainGlobals "ValueError" = some none)
    (z_super : PySem.W.nsIn K mainGlobals "super" = some none)
    (xO : PySem.W.nsIn K cStatics "thirdparty.any" = some none)
    (gs : PySem.W.specialIn K (.builtin "object.__class__") "__get__" = some (some (.builtin "getset_descriptor.__get__")))
    (gt : PySem.W.takesIn K (.builtin "object.__class__") = some true)
    (acR : PySem.W.nsIn K mainGlobals "RillError" = some (some (.ref cR)))
    (xcR : K.lookup cR = some (excClassObj nmR qR cR NR bsR veTl true snR subR abR colR ddR kaR kbR kcR kdR keR "ValueError.__new__"))
    (tcR : PySem.W.typeIn K (.ref cR) = some (.type "type"))
    (ac0 : PySem.W.nsIn K mainGlobals "NoShare" = some (some (.ref c0)))
    (xc0 : K.lookup c0 = some (excClassObj nm0 q0 c0 N0 bs0 (.ref cR :: veTl) true sn0 sub0 ab0 col0 dd0 ka0 kb0 kc0 kd0 ke0 "ValueError.__new__"))
    (tc0 : PySem.W.typeIn K (.ref c0) = some (.type "type"))
    (kc0 : PySem.W.keepIn K (.ref c0) = true)
    (dc0 : PySem.W.hasDictIn K c0 = true)
    (gac0 : PySem.W.findIn K (.ref c0) "__getattribute__" = some (some (.builtin "BaseException.__getattribute__")))
    (ggc0 : PySem.W.findIn K (.ref c0) "__getattr__" = some none)
    (gcc0 : PySem.W.findIn K (.ref c0) "__class__" = some (some (.builtin "object.__class__")))
    (stc0 : PySem.W.findIn K (.ref c0) "__str__" = some (some (.builtin "BaseException.__str__")))
    (ec0 : PySem.W.excIn K c0 veTl "ValueError.__new__" = true)
    (ac1 : PySem.W.nsIn K mainGlobals "NoCourse" = some (some (.ref c1)))
    (xc1 : K.lookup c1 = some (excClassObj nm1 q1 c1 N1 bs1 (.ref cR :: veTl) true sn1 sub1 ab1 col1 dd1 ka1 kb1 kc1 kd1 ke1 "ValueError.__new__"))
    (tc1 : PySem.W.typeIn K (.ref c1) = some (.type "type"))
    (kc1 : PySem.W.keepIn K (.ref c1) = true)
    (dc1 : PySem.W.hasDictIn K c1 = true)
    (gac1 : PySem.W.findIn K (.ref c1) "__getattribute__" = some (some (.builtin "BaseException.__getattribute__")))
    (ggc1 : PySem.W.findIn K (.ref c1) "__getattr__" = some none)
    (gcc1 : PySem.W.findIn K (.ref c1) "__class__" = some (some (.builtin "object.__class__")))
    (stc1 : PySem.W.findIn K (.ref c1) "__str__" = some (some (.builtin "BaseException.__str__")))
    (ec1 : PySem.W.excIn K c1 veTl "ValueError.__new__" = true)
    (ac2 : PySem.W.nsIn K mainGlobals "NoDay" = some (some (.ref c2)))
    (xc2 : K.lookup c2 = some (excClassObj nm2 q2 c2 N2 bs2 (.ref cR :: veTl) true sn2 sub2 ab2 col2 dd2 ka2 kb2 kc2 kd2 ke2 "ValueError.__new__"))
    (tc2 : PySem.W.typeIn K (.ref c2) = some (.type "type"))
    (kc2 : PySem.W.keepIn K (.ref c2) = true)
    (dc2 : PySem.W.hasDictIn K c2 = true)
    (gac2 : PySem.W.findIn K (.ref c2) "__getattribute__" = some (some (.builtin "BaseException.__getattribute__")))
    (ggc2 : PySem.W.findIn K (.ref c2) "__getattr__" = some none)
    (gcc2 : PySem.W.findIn K (.ref c2) "__class__" = some (some (.builtin "object.__class__")))
    (stc2 : PySem.W.findIn K (.ref c2) "__str__" = some (some (.builtin "BaseException.__str__")))
    (ec2 : PySem.W.excIn K c2 veTl "ValueError.__new__" = true)
    (ac3 : PySem.W.nsIn K mainGlobals "NoDepths" = some (some (.ref c3)))
    (xc3 : K.lookup c3 = some (excClassObj nm3 q3 c3 N3 bs3 (.ref cR :: veTl) true sn3 sub3 ab3 col3 dd3 ka3 kb3 kc3 kd3 ke3 "ValueError.__new__"))
    (tc3 : PySem.W.typeIn K (.ref c3) = some (.type "type"))
    (kc3 : PySem.W.keepIn K (.ref c3) = true)
    (dc3 : PySem.W.hasDictIn K c3 = true)
    (gac3 : PySem.W.findIn K (.ref c3) "__getattribute__" = some (some (.builtin "BaseException.__getattribute__")))
    (ggc3 : PySem.W.findIn K (.ref c3) "__getattr__" = some none)
    (gcc3 : PySem.W.findIn K (.ref c3) "__class__" = some (some (.builtin "object.__class__")))
    (stc3 : PySem.W.findIn K (.ref c3) "__str__" = some (some (.builtin "BaseException.__str__")))
    (ec3 : PySem.W.excIn K c3 veTl "ValueError.__new__" = true)
    (ac4 : PySem.W.nsIn K mainGlobals "NoRain" = some (some (.ref c4)))
    (xc4 : K.lookup c4 = some (excClassObj nm4 q4 c4 N4 bs4 (.ref cR :: veTl) true sn4 sub4 ab4 col4 dd4 ka4 kb4 kc4 kd4 ke4 "ValueError.__new__"))
    (tc4 : PySem.W.typeIn K (.ref c4) = some (.type "type"))
    (kc4 : PySem.W.keepIn K (.ref c4) = true)
    (dc4 : PySem.W.hasDictIn K c4 = true)
    (gac4 : PySem.W.findIn K (.ref c4) "__getattribute__" = some (some (.builtin "BaseException.__getattribute__")))
    (ggc4 : PySem.W.findIn K (.ref c4) "__getattr__" = some none)
    (gcc4 : PySem.W.findIn K (.ref c4) "__class__" = some (some (.builtin "object.__class__")))
    (stc4 : PySem.W.findIn K (.ref c4) "__str__" = some (some (.builtin "BaseException.__str__")))
    (ec4 : PySem.W.excIn K c4 veTl "ValueError.__new__" = true)
    (ac5 : PySem.W.nsIn K mainGlobals "NoDigs" = some (some (.ref c5)))
    (xc5 : K.lookup c5 = some (excClassObj nm5 q5 c5 N5 bs5 (.ref cR :: veTl) true sn5 sub5 ab5 col5 dd5 ka5 kb5 kc5 kd5 ke5 "ValueError.__new__"))
    (tc5 : PySem.W.typeIn K (.ref c5) = some (.type "type"))
    (kc5 : PySem.W.keepIn K (.ref c5) = true)
    (dc5 : PySem.W.hasDictIn K c5 = true)
    (gac5 : PySem.W.findIn K (.ref c5) "__getattribute__" = some (some (.builtin "BaseException.__getattribute__")))
    (ggc5 : PySem.W.findIn K (.ref c5) "__getattr__" = some none)
    (gcc5 : PySem.W.findIn K (.ref c5) "__class__" = some (some (.builtin "object.__class__")))
    (stc5 : PySem.W.findIn K (.ref c5) "__str__" = some (some (.builtin "BaseException.__str__")))
    (ec5 : PySem.W.excIn K c5 veTl "ValueError.__new__" = true)
    (ac6 : PySem.W.nsIn K mainGlobals "NoTurned" = some (some (.ref c6)))
    (xc6 : K.lookup c6 = some (excClassObj nm6 q6 c6 N6 bs6 (.ref cR :: veTl) true sn6 sub6 ab6 col6 dd6 ka6 kb6 kc6 kd6 ke6 "ValueError.__new__"))
    (tc6 : PySem.W.typeIn K (.ref c6) = some (.type "type"))
    (kc6 : PySem.W.keepIn K (.ref c6) = true)
    (dc6 : PySem.W.hasDictIn K c6 = true)
    (gac6 : PySem.W.findIn K (.ref c6) "__getattribute__" = some (some (.builtin "BaseException.__getattribute__")))
    (ggc6 : PySem.W.findIn K (.ref c6) "__getattr__" = some none)
    (gcc6 : PySem.W.findIn K (.ref c6) "__class__" = some (some (.builtin "object.__class__")))
    (stc6 : PySem.W.findIn K (.ref c6) "__str__" = some (some (.builtin "BaseException.__str__")))
    (ec6 : PySem.W.excIn K c6 veTl "ValueError.__new__" = true)
    (ac7 : PySem.W.nsIn K mainGlobals "NoTie" = some (some (.ref c7)))
    (xc7 : K.lookup c7 = some (excClassObj nm7 q7 c7 N7 bs7 (.ref cR :: veTl) true sn7 sub7 ab7 col7 dd7 ka7 kb7 kc7 kd7 ke7 "ValueError.__new__"))
    (tc7 : PySem.W.typeIn K (.ref c7) = some (.type "type"))
    (kc7 : PySem.W.keepIn K (.ref c7) = true)
    (dc7 : PySem.W.hasDictIn K c7 = true)
    (gac7 : PySem.W.findIn K (.ref c7) "__getattribute__" = some (some (.builtin "BaseException.__getattribute__")))
    (ggc7 : PySem.W.findIn K (.ref c7) "__getattr__" = some none)
    (gcc7 : PySem.W.findIn K (.ref c7) "__class__" = some (some (.builtin "object.__class__")))
    (stc7 : PySem.W.findIn K (.ref c7) "__str__" = some (some (.builtin "BaseException.__str__")))
    (ec7 : PySem.W.excIn K c7 veTl "ValueError.__new__" = true)
    (ac8 : PySem.W.nsIn K mainGlobals "TooLong" = some (some (.ref c8)))
    (xc8 : K.lookup c8 = some (excClassObj nm8 q8 c8 N8 bs8 (.ref cR :: veTl) true sn8 sub8 ab8 col8 dd8 ka8 kb8 kc8 kd8 ke8 "ValueError.__new__"))
    (tc8 : PySem.W.typeIn K (.ref c8) = some (.type "type"))
    (kc8 : PySem.W.keepIn K (.ref c8) = true)
    (dc8 : PySem.W.hasDictIn K c8 = true)
    (gac8 : PySem.W.findIn K (.ref c8) "__getattribute__" = some (some (.builtin "BaseException.__getattribute__")))
    (ggc8 : PySem.W.findIn K (.ref c8) "__getattr__" = some none)
    (gcc8 : PySem.W.findIn K (.ref c8) "__class__" = some (some (.builtin "object.__class__")))
    (stc8 : PySem.W.findIn K (.ref c8) "__str__" = some (some (.builtin "BaseException.__str__")))
    (sac8 : PySem.W.findIn K (.ref c8) "__setattr__" = some (some (.builtin "object.__setattr__")))
    (noc8 : PySem.W.findIn K (.ref c8) "place" = some none)
    (inc8 : PySem.W.findIn K (.ref c8) "__init__" = some (some (.ref f8)))
    (tfc8 : PySem.W.typeIn K (.ref f8) = some (.type "function"))
    (lfc8 : K.lookup f8 = some ⟨ocf8, odf8, .func (PySem.W.ksFn "__init__" "TooLong.__init__" (defArgs sLong) (defBody sLong) (defScope sLong) .none kVf8 dcf8 pmf8 anf8 (.ref cda8) ctf8 cc8), slf8⟩)
    (cfc8 : PySem.W.codeIn K (.ref cda8) "TooLong.__init__" = true)
    (lcc8 : K.lookup cda8 = some ⟨ccl8, cdd8, .fields vs8, ccs8⟩)
    (v2c8 : vs8[2]? = some (.str file8 tf8))
    (flc8 : ((P.main.file : Str) == file8) = true)
    (lec8 : K.lookup cc8 = some ⟨cl8, cld8, .cell (some (.ref c8)), csl8⟩)
    (suc8 : PySem.W.ks_superIn K c8 c8 "__init__" = some (some (.builtin "ValueError.__init__")))
    (ac9 : PySem.W.nsIn K mainGlobals "NoWeb" = some (some (.ref c9)))
    (xc9 : K.lookup c9 = some (excClassObj nm9 q9 c9 N9 bs9 (.ref cR :: veTl) true sn9 sub9 ab9 col9 dd9 ka9 kb9 kc9 kd9 ke9 "ValueError.__new__"))
    (tc9 : PySem.W.typeIn K (.ref c9) = some (.type "type"))
    (kc9 : PySem.W.keepIn K (.ref c9) = true)
    (dc9 : PySem.W.hasDictIn K c9 = true)
    (gac9 : PySem.W.findIn K (.ref c9) "__getattribute__" = some (some (.builtin "BaseException.__getattribute__")))
    (ggc9 : PySem.W.findIn K (.ref c9) "__getattr__" = some none)
    (gcc9 : PySem.W.findIn K (.ref c9) "__class__" = some (some (.builtin "object.__class__")))
    (stc9 : PySem.W.findIn K (.ref c9) "__str__" = some (some (.builtin "BaseException.__str__")))
    (sac9 : PySem.W.findIn K (.ref c9) "__setattr__" = some (some (.builtin "object.__setattr__")))
    (noc9 : PySem.W.findIn K (.ref c9) "part" = some none)
    (inc9 : PySem.W.findIn K (.ref c9) "__init__" = some (some (.ref f9)))
    (tfc9 : PySem.W.typeIn K (.ref f9) = some (.type "function"))
    (lfc9 : K.lookup f9 = some ⟨ocf9, odf9, .func (PySem.W.ksFn "__init__" "NoWeb.__init__" (defArgs sWeb) (defBody sWeb) (defScope sWeb) .none kVf9 dcf9 pmf9 anf9 (.ref cda9) ctf9 cc9), slf9⟩)
    (cfc9 : PySem.W.codeIn K (.ref cda9) "NoWeb.__init__" = true)
    (lcc9 : K.lookup cda9 = some ⟨ccl9, cdd9, .fields vs9, ccs9⟩)
    (v2c9 : vs9[2]? = some (.str file9 tf9))
    (flc9 : ((P.main.file : Str) == file9) = true)
    (lec9 : K.lookup cc9 = some ⟨cl9, cld9, .cell (some (.ref c9)), csl9⟩)
    (suc9 : PySem.W.ks_superIn K c9 c9 "__init__" = some (some (.builtin "ValueError.__init__")))
    (ac10 : PySem.W.nsIn K mainGlobals "NoPlace" = some (some (.ref c10)))
    (xc10 : K.lookup c10 = some (excClassObj nm10 q10 c10 N10 bs10 (.ref cR :: veTl) true sn10 sub10 ab10 col10 dd10 ka10 kb10 kc10 kd10 ke10 "ValueError.__new__"))
    (tc10 : PySem.W.typeIn K (.ref c10) = some (.type "type"))
    (kc10 : PySem.W.keepIn K (.ref c10) = true)
    (dc10 : PySem.W.hasDictIn K c10 = true)
    (gac10 : PySem.W.findIn K (.ref c10) "__getattribute__" = some (some (.builtin "BaseException.__getattribute__")))
    (ggc10 : PySem.W.findIn K (.ref c10) "__getattr__" = some none)
    (gcc10 : PySem.W.findIn K (.ref c10) "__class__" = some (some (.builtin "object.__class__")))
    (stc10 : PySem.W.findIn K (.ref c10) "__str__" = some (some (.builtin "BaseException.__str__")))
    (sac10 : PySem.W.findIn K (.ref c10) "__setattr__" = some (some (.builtin "object.__setattr__")))
    (noc10 : PySem.W.findIn K (.ref c10) "place" = some none)
    (inc10 : PySem.W.findIn K (.ref c10) "__init__" = some (some (.ref f10)))
    (tfc10 : PySem.W.typeIn K (.ref f10) = some (.type "function"))
    (lfc10 : K.lookup f10 = some ⟨ocf10, odf10, .func (PySem.W.ksFn "__init__" "NoPlace.__init__" (defArgs sPlace) (defBody sPlace) (defScope sPlace) .none kVf10 dcf10 pmf10 anf10 (.ref cda10) ctf10 cc10), slf10⟩)
    (cfc10 : PySem.W.codeIn K (.ref cda10) "NoPlace.__init__" = true)
    (lcc10 : K.lookup cda10 = some ⟨ccl10, cdd10, .fields vs10, ccs10⟩)
    (v2c10 : vs10[2]? = some (.str file10 tf10))
    (flc10 : ((P.main.file : Str) == file10) = true)
    (lec10 : K.lookup cc10 = some ⟨cl10, cld10, .cell (some (.ref c10)), csl10⟩)
    (suc10 : PySem.W.ks_superIn K c10 c10 "__init__" = some (some (.builtin "ValueError.__init__")))
    (ac11 : PySem.W.nsIn K mainGlobals "NoBed" = some (some (.ref c11)))
    (xc11 : K.lookup c11 = some (excClassObj nm11 q11 c11 N11 bs11 (.ref cR :: veTl) true sn11 sub11 ab11 col11 dd11 ka11 kb11 kc11 kd11 ke11 "ValueError.__new__"))
    (tc11 : PySem.W.typeIn K (.ref c11) = some (.type "type"))
    (kc11 : PySem.W.keepIn K (.ref c11) = true)
    (dc11 : PySem.W.hasDictIn K c11 = true)
    (gac11 : PySem.W.findIn K (.ref c11) "__getattribute__" = some (some (.builtin "BaseException.__getattribute__")))
    (ggc11 : PySem.W.findIn K (.ref c11) "__getattr__" = some none)
    (gcc11 : PySem.W.findIn K (.ref c11) "__class__" = some (some (.builtin "object.__class__")))
    (stc11 : PySem.W.findIn K (.ref c11) "__str__" = some (some (.builtin "BaseException.__str__")))
    (sac11 : PySem.W.findIn K (.ref c11) "__setattr__" = some (some (.builtin "object.__setattr__")))
    (noc11 : PySem.W.findIn K (.ref c11) "bed" = some none)
    (inc11 : PySem.W.findIn K (.ref c11) "__init__" = some (some (.ref f11)))
    (tfc11 : PySem.W.typeIn K (.ref f11) = some (.type "function"))
    (lfc11 : K.lookup f11 = some ⟨ocf11, odf11, .func (PySem.W.ksFn "__init__" "NoBed.__init__" (defArgs sBed) (defBody sBed) (defScope sBed) .none kVf11 dcf11 pmf11 anf11 (.ref cda11) ctf11 cc11), slf11⟩)
    (cfc11 : PySem.W.codeIn K (.ref cda11) "NoBed.__init__" = true)
    (lcc11 : K.lookup cda11 = some ⟨ccl11, cdd11, .fields vs11, ccs11⟩)
    (v2c11 : vs11[2]? = some (.str file11 tf11))
    (flc11 : ((P.main.file : Str) == file11) = true)
    (lec11 : K.lookup cc11 = some ⟨cl11, cld11, .cell (some (.ref c11)), csl11⟩)
    (suc11 : PySem.W.ks_superIn K c11 c11 "__init__" = some (some (.builtin "ValueError.__init__")))
    (aW : PySem.W.nsIn K mainGlobals "_law_well" = some (some (.ref fW)))
    (lW : K.lookup fW = some ⟨ocW, odW, .func (PySem.W.fnOf "_law_well" "_law_well" (defArgs sWell) (defBody sWell) (defScope sWell) .none kVW dcW pmW anW cdW ctW), slW⟩)
    (cW : PySem.W.codeIn K cdW "_law_well" = true)
    (kW : PySem.W.keepIn K (.ref fW) = true)
    (aD : PySem.W.nsIn K mainGlobals "_law_draw" = some (some (.ref fD)))
    (lD : K.lookup fD = some ⟨ocD, odD, .func (PySem.W.fnOf "_law_draw" "_law_draw" (defArgs sDraw) (defBody sDraw) (defScope sDraw) .none kVD dcD pmD anD cdD ctD), slD⟩)
    (cD : PySem.W.codeIn K cdD "_law_draw" = true)
    (kD : PySem.W.keepIn K (.ref fD) = true)
    (aO : PySem.W.nsIn K mainGlobals "_law_one" = some (some (.ref fO)))
    (lO : K.lookup fO = some ⟨ocO, odO, .func (PySem.W.fnOf "_law_one" "_law_one" (defArgs sOne) (defBody sOne) (defScope sOne) .none kVO dcO pmO anO cdO ctO), slO⟩)
    (cO : PySem.W.codeIn K cdO "_law_one" = true)
    (kO : PySem.W.keepIn K (.ref fO) = true)
    (aP : PySem.W.nsIn K mainGlobals "_law_plain" = some (some (.ref fP)))
    (lP : K.lookup fP = some ⟨ocP, odP, .func (PySem.W.fnOf "_law_plain" "_law_plain" (defArgs sPlain) (defBody sPlain) (defScope sPlain) .none kVP dcP pmP anP cdP ctP), slP⟩)
    (cP : PySem.W.codeIn K cdP "_law_plain" = true)
    (kP : PySem.W.keepIn K (.ref fP) = true)
    (aT : PySem.W.nsIn K mainGlobals "_law_with" = some (some (.ref fT)))
    (lT : K.lookup fT = some ⟨ocT, odT, .func (PySem.W.fnOf "_law_with" "_law_with" (defArgs sWith) (defBody sWith) (defScope sWith) .none kVT dcT pmT anT cdT ctT), slT⟩)
    (cT : PySem.W.codeIn K cdT "_law_with" = true)
    (kT : PySem.W.keepIn K (.ref fT) = true)
    (aK : PySem.W.nsIn K mainGlobals "_law_kinds" = some (some (.ref fK)))
    (lK : K.lookup fK = some ⟨ocK, odK, .func (PySem.W.fnOf "_law_kinds" "_law_kinds" (defArgs sKinds) (defBody sKinds) (defScope sKinds) .none kVK dcK pmK anK cdK ctK), slK⟩)
    (cK : PySem.W.codeIn K cdK "_law_kinds" = true)
    (kK : PySem.W.keepIn K (.ref fK) = true)
    (aZ : PySem.W.nsIn K mainGlobals "law" = some (some (.ref fZ)))
    (lZ : K.lookup fZ = some ⟨ocZ, odZ, .func (PySem.W.fnOf "law" "law" (defArgs sLaw) (defBody sLaw) (defScope sLaw) .none kVZ dcZ pmZ anZ cdZ ctZ), slZ⟩)
    (cZ : PySem.W.codeIn K cdZ "law" = true)
    (kZ : PySem.W.keepIn K (.ref fZ) = true)
    (nd : (cR :: [c0, c1, c2, c3, c4, c5, c6, c7, c8, c9, c10, c11]).Nodup)
    : ∃ fd : FuncData, (∀ (s : Shared) (v : Value), BindsTo s fd ⟨[v], []⟩ [("script", v)]) ∧ ∀ base : Heap, K.In base → base.Ns mainGlobals mg → FnOk P w K mg base CX0 3 fa fd ["script"] (spLaw K) := by
  have e := hfa.symm.trans (PySem.W.mg_of X G aZ)
  cases e
  have Bt : TxtB mg := ⟨PySem.W.mg_none_of X G z_int, PySem.W.mg_none_of X G z_len, PySem.W.mg_none_of X G z_isinstance, PySem.W.mg_none_of X G z_bool, PySem.W.mg_none_of X G z_str, PySem.W.mg_none_of X G z_range, PySem.W.mg_none_of X G z_enumerate, PySem.W.mg_none_of X G z_ValueError⟩
  have LR : CLn K cR veTl := cln_of xcR tcR
  have L0 : CLn K c0 (.ref cR :: veTl) := cln_of xc0 tc0
  have T0 : ExTxt K c0 := ⟨dc0, gac0, ggc0, (L0.mro _).trans (by rw [has_type (by decide +kernel)]), gcc0, gs, gt, (L0.mro _).trans (by rw [has_type (by decide +kernel)]), stc0⟩
  have L1 : CLn K c1 (.ref cR :: veTl) := cln_of xc1 tc1
  have T1 : ExTxt K c1 := ⟨dc1, gac1, ggc1, (L1.mro _).trans (by rw [has_type (by decide +kernel)]), gcc1, gs, gt, (L1.mro _).trans (by rw [has_type (by decide +kernel)]), stc1⟩
  have L2 : CLn K c2 (.ref cR :: veTl) := cln_of xc2 tc2
  have T2 : ExTxt K c2 := ⟨dc2, gac2, ggc2, (L2.mro _).trans (by rw [has_type (by decide +kernel)]), gcc2, gs, gt, (L2.mro _).trans (by rw [has_type (by decide +kernel)]), stc2⟩
  have L3 : CLn K c3 (.ref cR :: veTl) := cln_of xc3 tc3
  have T3 : ExTxt K c3 := ⟨dc3, gac3, ggc3, (L3.mro _).trans (by rw [has_type (by decide +kernel)]), gcc3, gs, gt, (L3.mro _).trans (by rw [has_type (by decide +kernel)]), stc3⟩
  have L4 : CLn K c4 (.ref cR :: veTl) := cln_of xc4 tc4
  have T4 : ExTxt K c4 := ⟨dc4, gac4, ggc4, (L4.mro _).trans (by rw [has_type (by decide +kernel)]), gcc4, gs, gt, (L4.mro _).trans (by rw [has_type (by decide +kernel)]), stc4⟩
  have L5 : CLn K c5 (.ref cR :: veTl) := cln_of xc5 tc5
  have T5 : ExTxt K c5 := ⟨dc5, gac5, ggc5, (L5.mro _).trans (by rw [has_type (by decide +kernel)]), gcc5, gs, gt, (L5.mro _).trans (by rw [has_type (by decide +kernel)]), stc5⟩
  have L6 : CLn K c6 (.ref cR :: veTl) := cln_of xc6 tc6
  have T6 : ExTxt K c6 := ⟨dc6, gac6, ggc6, (L6.mro _).trans (by rw [has_type (by decide +kernel)]), gcc6, gs, gt, (L6.mro _).trans (by rw [has_type (by decide +kernel)]), stc6⟩
  have L7 : CLn K c7 (.ref cR :: veTl) := cln_of xc7 tc7
  have T7 : ExTxt K c7 := ⟨dc7, gac7, ggc7, (L7.mro _).trans (by rw [has_type (by decide +kernel)]), gcc7, gs, gt, (L7.mro _).trans (by rw [has_type (by decide +kernel)]), stc7⟩
  have L8 : CLn K c8 (.ref cR :: veTl) := cln_of xc8 tc8
  have T8 : ExTxt K c8 := ⟨dc8, gac8, ggc8, (L8.mro _).trans (by rw [has_type (by decide +kernel)]), gcc8, gs, gt, (L8.mro _).trans (by rw [has_type (by decide +kernel)]), stc8⟩
  have L9 : CLn K c9 (.ref cR :: veTl) := cln_of xc9 tc9
  have T9 : ExTxt K c9 := ⟨dc9, gac9, ggc9, (L9.mro _).trans (by rw [has_type (by decide +kernel)]), gcc9, gs, gt, (L9.mro _).trans (by rw [has_type (by decide +kernel)]), stc9⟩
  have L10 : CLn K c10 (.ref cR :: veTl) := cln_of xc10 tc10
  have T10 : ExTxt K c10 := ⟨dc10, gac10, ggc10, (L10.mro _).trans (by rw [has_type (by decide +kernel)]), gcc10, gs, gt, (L10.mro _).trans (by rw [has_type (by decide +kernel)]), stc10⟩
  have L11 : CLn K c11 (.ref cR :: veTl) := cln_of xc11 tc11
  have T11 : ExTxt K c11 := ⟨dc11, gac11, ggc11, (L11.mro _).trans (by rw [has_type (by decide +kernel)]), gcc11, gs, gt, (L11.mro _).trans (by rw [has_type (by decide +kernel)]), stc11⟩
  have Y8 : OwnX P K mg c8 f8 "TooLong" "TooLong.__init__" "place" sLong := ⟨PySem.W.mg_of X G ac8, ⟨_, _, _, _, _, _, _, _, _, _, _, _, _, _, _, xc8, by first | rfl | decide +kernel⟩, sac8, noc8, inc8, tfc8, kc8, suc8, xO, (L8.mro _).trans (by rw [has_type (by decide +kernel)]), (L8.mro _).trans (by simp), PySem.W.mg_none_of X G z_super, xT, ⟨_, _, _, _, _, _, _, _, _, _, lfc8, cfc8, ⟨_, _, _, _, _, _, lcc8, v2c8, flc8⟩, _, _, _, lec8⟩⟩
  have Z8 : InitOk P w K mg c8 f8 "place" := fun A R s mb x t0 v X G Bn hbb hlim hx hnx hroom hq => init_long Y8 X G Bn hbb hlim hx hnx hroom hq
  have Y9 : OwnX P K mg c9 f9 "NoWeb" "NoWeb.__init__" "part" sWeb := ⟨PySem.W.mg_of X G ac9, ⟨_, _, _, _, _, _, _, _, _, _, _, _, _, _, _, xc9, by first | rfl | decide +kernel⟩, sac9, noc9, inc9, tfc9, kc9, suc9, xO, (L9.mro _).trans (by rw [has_type (by decide +kernel)]), (L9.mro _).trans (by simp), PySem.W.mg_none_of X G z_super, xT, ⟨_, _, _, _, _, _, _, _, _, _, lfc9, cfc9, ⟨_, _, _, _, _, _, lcc9, v2c9, flc9⟩, _, _, _, lec9⟩⟩
  have Z9 : InitOk P w K mg c9 f9 "part" := fun A R s mb x t0 v X G Bn hbb hlim hx hnx hroom hq => init_web Y9 X G Bn hbb hlim hx hnx hroom hq
  have Y10 : OwnX P K mg c10 f10 "NoPlace" "NoPlace.__init__" "place" sPlace := ⟨PySem.W.mg_of X G ac10, ⟨_, _, _, _, _, _, _, _, _, _, _, _, _, _, _, xc10, by first | rfl | decide +kernel⟩, sac10, noc10, inc10, tfc10, kc10, suc10, xO, (L10.mro _).trans (by rw [has_type (by decide +kernel)]), (L10.mro _).trans (by simp), PySem.W.mg_none_of X G z_super, xT, ⟨_, _, _, _, _, _, _, _, _, _, lfc10, cfc10, ⟨_, _, _, _, _, _, lcc10, v2c10, flc10⟩, _, _, _, lec10⟩⟩
  have Z10 : InitOk P w K mg c10 f10 "place" := fun A R s mb x t0 v X G Bn hbb hlim hx hnx hroom hq => init_place Y10 X G Bn hbb hlim hx hnx hroom hq
  have Y11 : OwnX P K mg c11 f11 "NoBed" "NoBed.__init__" "bed" sBed := ⟨PySem.W.mg_of X G ac11, ⟨_, _, _, _, _, _, _, _, _, _, _, _, _, _, _, xc11, by first | rfl | decide +kernel⟩, sac11, noc11, inc11, tfc11, kc11, suc11, xO, (L11.mro _).trans (by rw [has_type (by decide +kernel)]), (L11.mro _).trans (by simp), PySem.W.mg_none_of X G z_super, xT, ⟨_, _, _, _, _, _, _, _, _, _, lfc11, cfc11, ⟨_, _, _, _, _, _, lcc11, v2c11, flc11⟩, _, _, _, lec11⟩⟩
  have Z11 : InitOk P w K mg c11 f11 "bed" := fun A R s mb x t0 v X G Bn hbb hlim hx hnx hroom hq => init_bed Y11 X G Bn hbb hlim hx hnx hroom hq
  have KT : Kits K [c0, c1, c2, c3, c4, c5, c6, c7, c8, c9, c10, c11] cR := kits_of LR (fun a m => by
    simp only [List.mem_cons, List.not_mem_nil, or_false] at m
    rcases m with h | h | h | h | h | h | h | h | h | h | h | h <;> subst h
    · exact L0
    · exact L1
    · exact L2
    · exact L3
    · exact L4
    · exact L5
    · exact L6
    · exact L7
    · exact L8
    · exact L9
    · exact L10
    · exact L11) nd
  have C : Cls P w K mg cR c0 c1 c2 c3 c4 c5 c6 c7 c8 c9 c10 c11 f8 f9 f10 f11 := ⟨⟨PySem.W.mg_of X G ac0, ec0, kc0, T0⟩, ⟨PySem.W.mg_of X G ac1, ec1, kc1, T1⟩, ⟨PySem.W.mg_of X G ac2, ec2, kc2, T2⟩, ⟨PySem.W.mg_of X G ac3, ec3, kc3, T3⟩, ⟨PySem.W.mg_of X G ac4, ec4, kc4, T4⟩, ⟨PySem.W.mg_of X G ac5, ec5, kc5, T5⟩, ⟨PySem.W.mg_of X G ac6, ec6, kc6, T6⟩, ⟨PySem.W.mg_of X G ac7, ec7, kc7, T7⟩, ⟨Y8, Z8, T8⟩, ⟨Y9, Z9, T9⟩, ⟨Y10, Z10, T10⟩, ⟨Y11, Z11, T11⟩, PySem.W.mg_of X G acR, KT⟩
  have FW := fun_mk (st := sWell) lW cW kW
  have mW_ := PySem.W.mg_of X G aW
  have bW := FW.binds (ps := ["cell"]) fun _ _ _ _ _ _ us hl => match us, hl with | [_], _ => rfl
  have FD := fun_mk (st := sDraw) lD cD kD
  have mD_ := PySem.W.mg_of X G aD
  have bD := FD.binds (ps := ["well", "many"]) fun _ _ _ _ _ _ us hl => match us, hl with | [_, _], _ => rfl
  have FO := fun_mk (st := sOne) lO cO kO
  have mO_ := PySem.W.mg_of X G aO
  have bO := FO.binds (ps := ["well", "some"]) fun _ _ _ _ _ _ us hl => match us, hl with | [_, _], _ => rfl
  have FP := fun_mk (st := sPlain) lP cP kP
  have mP_ := PySem.W.mg_of X G aP
  have bP := FP.binds (ps := ["text"]) fun _ _ _ _ _ _ us hl => match us, hl with | [_], _ => rfl
  have FT := fun_mk (st := sWith) lT cT kT
  have mT_ := PySem.W.mg_of X G aT
  have bT := FT.binds (ps := ["thing"]) fun _ _ _ _ _ _ us hl => match us, hl with | [_], _ => rfl
  have FK := fun_mk (st := sKinds) lK cK kK
  have mK_ := PySem.W.mg_of X G aK
  have bK := FK.binds (ps := ["error"]) fun _ _ _ _ _ _ us hl => match us, hl with | [_], _ => rfl
  have FZ := fun_mk (st := sLaw) lZ cZ kZ
  have mZ_ := PySem.W.mg_of X G aZ
  refine ⟨PySem.W.fnOf "law" "law" (defArgs sLaw) (defBody sLaw) (defScope sLaw) .none kVZ dcZ pmZ anZ cdZ ctZ, fun s v => .of_eq rfl, fun base _ _ => ?_⟩
  have GW := ok_well (P := P) (w := w) (mg := mg) (base := base) FW Bt
  have GD := ok_draw (P := P) (w := w) (mg := mg) (base := base) FD
  have GO := ok_one (P := P) (w := w) (mg := mg) (base := base) FO Bt GD mD_ kD bD
  have GP := ok_plain (P := P) (w := w) (mg := mg) (base := base) FP C
  have GT := ok_with (P := P) (w := w) (mg := mg) (base := base) FT C
  have GK := ok_kinds (P := P) (w := w) (mg := mg) (base := base) FK Bt C
  exact ok_law FZ ⟨Bt, C, ⟨fW, _, GW, mW_, kW, bW⟩, ⟨fO, _, GO, mO_, kO, bO⟩, ⟨fP, _, GP, mP_, kP, bP⟩, ⟨fT, _, GT, mT_, kT, bT⟩, ⟨fK, _, GK, mK_, kK, bK⟩⟩
theorem walk {l : PySem.W.OpenLaw} {q : Program} {loose : List Str} {XP : (Str → Option Value) → Heap → Prop} {YP : World → Heap → Prop} {d : DefRec} {K : Params → PySem.W.Frag} (hn : l.most = some 63) (hdf : d.params.defaults = [])
    (hY : ∀ (w : World) (h : Heap), YP w h → (K w.params).In h)
    (F : ∀ (w : World) (mg : Str → Option Value) (fa : Addr) (h : Heap), (K w.params).In h → h.Ns mainGlobals mg → mg d.name = some (.ref fa) →
      ∃ fd : FuncData, (∀ (s : Shared) (u : Value), BindsTo s fd ⟨[u], []⟩ [("script", u)]) ∧ ∀ base : Heap, (K w.params).In base → base.Ns mainGlobals mg → FnOk l.prog w (K w.params) mg base CX0 3 fa fd ["script"] (spLaw (K w.params))) :
    PySem.W.WalkO q loose XP YP l.row.toRowW d [] (fun f vs => PySem.call f vs) :=
  walk_of (n := 63) (k := 3) (x := "script") (CX := fun _ => CX0) (sp := fun w => spLaw (K w.params)) hn (by decide) hdf ⟨rfl, by decide, by decide⟩ hY F (fun _ _ a ns hl _ hS => ⟨a, ns, rfl, hS, hl, fun _ => rfl⟩) (fun _ _ _ _ _ z => z)
end K03
open PySem PySem.W PyProof.Rows in
set_option maxRecDepth 100000 in
set_option maxHeartbeats 0 in
theorem PySem.Challenge.cw_rillweb_k03_refusals_made_by_hand_holds : PySem.Challenge.rw_rillweb_k03_refusals_made_by_hand.Holds := by
  w_on; o_law; k_head; (case hw => w_witness2)
  k_fill
  refine K03.walk (l := PySem.Challenge.rw_rillweb_k03_refusals_made_by_hand) rfl rfl (fun w h Y => PySem.W.kIn_of Y) ?F
  case F =>
    intro w mg fa h KX G hmg
    refine' K03.all_mk KX G hmg ?xT ?z_int ?z_len ?z_isinstance ?z_bool ?z_str ?z_range ?z_enumerate ?z_ValueError ?z_super ?xO ?gs ?gt ?acR ?xcR ?tcR ?ac0 ?xc0 ?tc0 ?kc0 ?dc0 ?gac0 ?ggc0 ?gcc0 ?stc0 ?ec0 ?ac1 ?xc1 ?tc1 ?kc1 ?dc1 ?gac1 ?ggc1 ?gcc1 ?stc1 ?ec1 ?ac2 ?xc2 ?tc2 ?kc2 ?dc2 ?gac2 ?ggc2 ?gcc2 ?stc2 ?ec2 ?ac3 ?xc3 ?tc3 ?kc3 ?dc3 ?gac3 ?ggc3 ?gcc3 ?stc3 ?ec3 ?ac4 ?xc4 ?tc4 ?kc4 ?dc4 ?gac4 ?ggc4 ?gcc4 ?stc4 ?ec4 ?ac5 ?xc5 ?tc5 ?kc5 ?dc5 ?gac5 ?ggc5 ?gcc5 ?stc5 ?ec5 ?ac6 ?xc6 ?tc6 ?kc6 ?dc6 ?gac6 ?ggc6 ?gcc6 ?stc6 ?ec6 ?ac7 ?xc7 ?tc7 ?kc7 ?dc7 ?gac7 ?ggc7 ?gcc7 ?stc7 ?ec7 ?ac8 ?xc8 ?tc8 ?kc8 ?dc8 ?gac8 ?ggc8 ?gcc8 ?stc8 ?sac8 ?noc8 ?inc8 ?tfc8 ?lfc8 ?cfc8 ?lcc8 ?v2c8 ?flc8 ?lec8 ?suc8 ?ac9 ?xc9 ?tc9 ?kc9 ?dc9 ?gac9 ?ggc9 ?gcc9 ?stc9 ?sac9 ?noc9 ?inc9 ?tfc9 ?lfc9 ?cfc9 ?lcc9 ?v2c9 ?flc9 ?lec9 ?suc9 ?ac10 ?xc10 ?tc10 ?kc10 ?dc10 ?gac10 ?ggc10 ?gcc10 ?stc10 ?sac10 ?noc10 ?inc10 ?tfc10 ?lfc10 ?cfc10 ?lcc10 ?v2c10 ?flc10 ?lec10 ?suc10 ?ac11 ?xc11 ?tc11 ?kc11 ?dc11 ?gac11 ?ggc11 ?gcc11 ?stc11 ?sac11 ?noc11 ?inc11 ?tfc11 ?lfc11 ?cfc11 ?lcc11 ?v2c11 ?flc11 ?lec11 ?suc11 ?aW ?lW ?cW ?kW ?aD ?lD ?cD ?kD ?aO ?lO ?cO ?kO ?aP ?lP ?cP ?kP ?aT ?lT ?cT ?kT ?aK ?lK ?cK ?kK ?aZ ?lZ ?cZ ?kZ ?nd
    (case xT => first | rfl | decide +kernel)
    (case z_int => k_is)
    (case z_len => k_is)
    (case z_isinstance => k_is)
    (case z_bool => k_is)
    (case z_str => k_is)
    (case z_range => k_is)
    (case z_enumerate => k_is)
    (case z_ValueError => k_is)
    (case z_super => k_is)
    (case xO => k_is)
    (case gs => first | rfl | k_is)
    (case gt => first | rfl | k_is)
    (case acR => k_is)
    (case xcR => k_is)
    (case tcR => k_is)
    (case ac0 => k_is)
    (case xc0 => k_is)
    (case tc0 => k_is)
    (case kc0 => k_is)
    (case dc0 => k_is)
    (case gac0 => k_is)
    (case ggc0 => k_is)
    (case gcc0 => k_is)
    (case stc0 => k_is)
    (case ec0 => k_exc)
    (case ac1 => k_is)
    (case xc1 => k_is)
    (case tc1 => k_is)
    (case kc1 => k_is)
    (case dc1 => k_is)
    (case gac1 => k_is)
    (case ggc1 => k_is)
    (case gcc1 => k_is)
    (case stc1 => k_is)
    (case ec1 => k_exc)
    (case ac2 => k_is)
    (case xc2 => k_is)
    (case tc2 => k_is)
    (case kc2 => k_is)
    (case dc2 => k_is)
    (case gac2 => k_is)
    (case ggc2 => k_is)
    (case gcc2 => k_is)
    (case stc2 => k_is)
    (case ec2 => k_exc)
    (case ac3 => k_is)
    (case xc3 => k_is)
    (case tc3 => k_is)
    (case kc3 => k_is)
    (case dc3 => k_is)
    (case gac3 => k_is)
    (case ggc3 => k_is)
    (case gcc3 => k_is)
    (case stc3 => k_is)
    (case ec3 => k_exc)
    (case ac4 => k_is)
    (case xc4 => k_is)
    (case tc4 => k_is)
    (case kc4 => k_is)
    (case dc4 => k_is)
    (case gac4 => k_is)
    (case ggc4 => k_is)
    (case gcc4 => k_is)
    (case stc4 => k_is)
    (case ec4 => k_exc)
    (case ac5 => k_is)
    (case xc5 => k_is)
    (case tc5 => k_is)
    (case kc5 => k_is)
    (case dc5 => k_is)
    (case gac5 => k_is)
    (case ggc5 => k_is)
    (case gcc5 => k_is)
    (case stc5 => k_is)
    (case ec5 => k_exc)
    (case ac6 => k_is)
    (case xc6 => k_is)
    (case tc6 => k_is)
    (case kc6 => k_is)
    (case dc6 => k_is)
    (case gac6 => k_is)
    (case ggc6 => k_is)
    (case gcc6 => k_is)
    (case stc6 => k_is)
    (case ec6 => k_exc)
    (case ac7 => k_is)
    (case xc7 => k_is)
    (case tc7 => k_is)
    (case kc7 => k_is)
    (case dc7 => k_is)
    (case gac7 => k_is)
    (case ggc7 => k_is)
    (case gcc7 => k_is)
    (case stc7 => k_is)
    (case ec7 => k_exc)
    (case ac8 => k_is)
    (case xc8 => k_is)
    (case tc8 => k_is)
    (case kc8 => k_is)
    (case dc8 => k_is)
    (case gac8 => k_is)
    (case ggc8 => k_is)
    (case gcc8 => k_is)
    (case stc8 => k_is)
    (case sac8 => k_is)
    (case noc8 => k_is)
    (case inc8 => k_is)
    (case tfc8 => k_is)
    (case lfc8 => k_is)
    (case cfc8 => k_is)
    (case lcc8 => k_is)
    (case v2c8 => rfl)
    (case flc8 => first | rfl | decide +kernel)
    (case lec8 => k_is)
    (case suc8 => ks_is)
    (case ac9 => k_is)
    (case xc9 => k_is)
    (case tc9 => k_is)
    (case kc9 => k_is)
    (case dc9 => k_is)
    (case gac9 => k_is)
    (case ggc9 => k_is)
    (case gcc9 => k_is)
    (case stc9 => k_is)
    (case sac9 => k_is)
    (case noc9 => k_is)
    (case inc9 => k_is)
    (case tfc9 => k_is)
    (case lfc9 => k_is)
    (case cfc9 => k_is)
    (case lcc9 => k_is)
    (case v2c9 => rfl)
    (case flc9 => first | rfl | decide +kernel)
    (case lec9 => k_is)
    (case suc9 => ks_is)
    (case ac10 => k_is)
    (case xc10 => k_is)
    (case tc10 => k_is)
    (case kc10 => k_is)
    (case dc10 => k_is)
    (case gac10 => k_is)
    (case ggc10 => k_is)
    (case gcc10 => k_is)
    (case stc10 => k_is)
    (case sac10 => k_is)
    (case noc10 => k_is)
    (case inc10 => k_is)
    (case tfc10 => k_is)
    (case lfc10 => k_is)
    (case cfc10 => k_is)
    (case lcc10 => k_is)
    (case v2c10 => rfl)
    (case flc10 => first | rfl | decide +kernel)
    (case lec10 => k_is)
    (case suc10 => ks_is)
    (case ac11 => k_is)
    (case xc11 => k_is)
    (case tc11 => k_is)
    (case kc11 => k_is)
    (case dc11 => k_is)
    (case gac11 => k_is)
    (case ggc11 => k_is)
    (case gcc11 => k_is)
    (case stc11 => k_is)
    (case sac11 => k_is)
    (case noc11 => k_is)
    (case inc11 => k_is)
    (case tfc11 => k_is)
    (case lfc11 => k_is)
    (case cfc11 => k_is)
    (case lcc11 => k_is)
    (case v2c11 => rfl)
    (case flc11 => first | rfl | decide +kernel)
    (case lec11 => k_is)
    (case suc11 => ks_is)
    (case aW => k_is)
    (case lW => k_is)
    (case cW => k_is)
    (case kW => k_is)
    (case aD => k_is)
    (case lD => k_is)
    (case cD => k_is)
    (case kD => k_is)
    (case aO => k_is)
    (case lO => k_is)
    (case cO => k_is)
    (case kO => k_is)
    (case aP => k_is)
    (case lP => k_is)
    (case cP => k_is)
    (case kP => k_is)
    (case aT => k_is)
    (case lT => k_is)
    (case cT => k_is)
    (case kT => k_is)
    (case aK => k_is)
    (case lK => k_is)
    (case cK => k_is)
    (case kK => k_is)
    (case aZ => k_is)
    (case lZ => k_is)
    (case cZ => k_is)
    (case kZ => k_is)
    (case nd => decide)
