import PyProof.Rows.All
import Wide.All
import OpenK.AllK
import Wide.FinOn
import HandS.ForMost
import HandS.Exc
import HandS.ExcCtx
import HandS.ExcField
import HandS.ExcIs
import HandS.IsInst
import HandS.HotCalls
import HandS.Wide
import HandS.Style
import KE.KExcIs
import HandS.Evl
import HandS.Conv
import PyProof.LongRange
import HandS.TupAny
import HandS.TupMul
import HandS.TupLe
import HandS.StrMore
import HandS.StrSplit
import HandS.FStr
import HandS.Text
import HandS.Iter
import PyProof.StrBlock2
import KE.GoesMore
import HandS.Property
import HandS.IterNext
import HandS.IterVal
import HandS.OwnIter
import HandS.OwnEq
import PyProof.WalksMore
import PySem.Challenge.RW_sumtalk_k46_best_unit_has_most_roots
import KE.KEqDeep
import HandS.SortInts
import KE.KTupSum
set_option Elab.async false
set_option linter.all false
set_option maxRecDepth 100000
set_option maxHeartbeats 4000000
/-! an own error with one field, value: what the written part says of its class, and its making -/
namespace PySem
namespace Lowvalue
open PySem.W PySem.Calls PyProof.Rows PySem.HandSPX
def iA (p1 p2 : Pos) : Arguments := { posonlyargs := [], args := [{ arg := "self", annotation := none, pos := p1 }, { arg := "value", annotation := none, pos := p2 }], vararg := none, kwonlyargs := [], kw_defaults := [], kwarg := none, defaults := [] }
def iB (q1 q2 q3 q4 : Pos) : List Stmt := [.Assign [.Attribute (.Name "self" q1) "value" q2] (.Name "value" q3) q4]
def iS : Scope := { kind := .function, names := [(PySem.Str.ofString "self", .local), (PySem.Str.ofString "value", .local)], isGenerator := false, isCoroutine := false, more := [] }
/-- the class x at C, its __init__ (qn) at fI -/
structure LowTxt (K : Frag) (mg : Str → Option Value) (x qn : Str) (C fI : Addr) : Prop where
  g : mg x = some (.ref C)
  cls : ∃ nm q N bs bm sn sub ab col dd k0 k1 k2 k3 k5, K.lookup C = some (excClassObj nm q C N bs bm true sn sub ab col dd k0 k1 k2 k3 k5 "ValueError.__new__") ∧ refsVE bm = true
  sa : findIn K (.ref C) "__setattr__" = some (some (.builtin "object.__setattr__"))
  noN : findIn K (.ref C) "value" = some none
  iC : findIn K (.ref C) "__init__" = some (some (.ref fI))
  tC : typeIn K (.ref fI) = some (.type "function")
  kC : keepIn K (.ref C) = true
  exC : subIn K (.ref C) (.type "BaseException") = some true
  tyC : typeIn K (.ref C) = some (.type "type")
  fn : ∃ (oc : Value) (od : Option Addr) (kV doc pm : Value) (an : Option Addr) (cdv ct : Value) (osl : Array (Option Value)) (p1 p2 q1 q2 q3 q4 : Pos),
    K.lookup fI = some ⟨oc, od, .func (fnOf "__init__" qn (iA p1 p2) (iB q1 q2 q3 q4) iS .none kV doc pm an cdv ct), osl⟩ ∧ codeIn K cdv qn = true
theorem one_size (v : Value) : [v].length ≤ sizeLine := by
  rw [sizeLine_eq]
  exact (by decide : 1 ≤ 16777216)
theorem ldC {M : Model} {s : Shared} {name : Str} {scope : Scope} {L a : Addr} {cd : Value} {m : Str → Option Value} {x : Str} {pos : Pos} {v : Value} {Q : Value → Shared → Prop} {A : Around} {E : Value → Shared → Prop} (hn : s.heap.Ns L m) (hv : m x = some v) (h : Q v s)
    (hk : scope.kind = .function := by rfl) (hl : (envOfC name scope L a cd).kindOf x = some .local := by rfl) (hd : (x == ("__debug__" : Str)) = false := by decide) :
    wpAny M A (eval (.Name x pos) (envOfC name scope L a cd)) Q E s := wpAny_Name (wpAny_loadName_local hk hl hn hv h) hd
/-- what __init__ leaves of a fresh exception at x -/
structure InitEnd (h h' : Heap) (x C dx t1 : Addr) (v : Value) : Prop where
  keep : ∀ b o, b ≠ x → h.get? b = some o → h'.get? b = some o
  obj : h'.get? x = some { cls := .ref C, dict := some dx, data := .fields #[.ref t1, .none, .none, .none, .bool false, .none] }
  dbig : h.objs.size ≤ dx
  dne : dx ≠ x
  ns : h'.Ns1 dx (fun y => if y = "value" then some v else none)
/-- a made one -/
structure OwnMade (h h' : Heap) (e C d : Addr) (v : Value) : Prop where
  keep : ∀ b o, h.get? b = some o → h'.get? b = some o
  new : h.objs.size ≤ e
  obj : ∃ oe vs, h'.get? e = some oe ∧ oe.cls = .ref C ∧ oe.dict = some d ∧ oe.data = .fields vs ∧ vs[1]? = some .none ∧ vs[2]? = some .none
  dbig : h.objs.size ≤ d
  dne : d ≠ e
  ns : h'.Ns1 d (fun y => if y = "value" then some v else none)
section
variable {prog : Program} {w : World} {A : Around} {E : Value → Shared → Prop} {R : Result → Shared → Prop} {s : Shared} {K : Frag} {mg : Str → Option Value} {C fI : Addr} {xn qn : Str}
theorem low_init (T : LowTxt K mg xn qn C fI) {x t0 : Addr} {v : Value} (X : K.In s.heap) (hlim : s.heap.NoLimit) (hx : s.heap.get? x = some (excO C t0)) (hnx : K.lookup x = none) (hroom : A.depth < recursionLimit)
    (hq : ∀ h' tk dx, InitEnd s.heap h' x C dx t0 v → R (.ok (.ret .none)) { s with heap := h', toks := tk }) :
    codeAny (model prog w) A (.call (.ref fI) ⟨[.ref x, v], []⟩) R s := by
  obtain ⟨oc, od, kV, doc, pm, an, cdv, ct, osl, p1, p2, q1, q2, q3, q4, ho, hcd⟩ := T.fn
  obtain ⟨nm, q, N, bs, bm, sn, sub, ab, col, dd, k0, k1, k2, k3, k5, hC, hbm⟩ := T.cls
  have hcl : clsIn K C = some { name := nm, bases := bs, mro := .ref C :: bm, ns := N, qualname := q, hasDict := true, slotNames := sn, subclasses := sub, abstract := ab, collection := col, hasDel := false } := by unfold clsIn; rw [hC] <;> rfl
  refine Att.call_fn (binds := [("self", .ref x), ("value", v)]) X hlim ho hcd hroom (BindsTo.of_eq (by first | rfl | with_unfolding_all rfl)) (by first | rfl | decide | with_unfolding_all rfl) (fun s₁ IC => ?_) rfl rfl rfl
  obtain ⟨h₁, tk₁, rfl⟩ := IC.toInCall.same
  have k : ∀ b o, s.heap.get? b = some o → h₁.get? b = some o := IC.toInCall.keep
  have hn := IC.toInCall.ns
  have hxL : s.heap.objs.size ≠ x := Nat.ne_of_gt (Heap.lt_size hx)
  have X₁ : K.In h₁ := X.keeps k
  have hx₁ := k _ _ hx
  -- self.value = value
  show wpAny _ _ (execs _ _) _ _ _
  refine wpAny_execs_cons (plainObj_wpAny_Assign_Attribute ?_)
  refine ldC (v := v) hn (by first | rfl | with_unfolding_all rfl | kernel_rfl) (ldC (v := .ref x) hn (by first | rfl | with_unfolding_all rfl | kernel_rfl) ?_)
  refine set_plain X₁ (ox := excO C t0) (od := none) ⟨hx₁, rfl, rfl, trivial⟩ T.sa ?_
  refine exc_osa X₁ hx₁ hcl (show refsVE (.ref C :: bm) = true from hbm) rfl T.noN (fun h₃ tk₃ dx k₃ dn dne hx₃ hn₃ => ?_)
  show wpAny _ _ (execs _ _) _ _ _
  have z : s.heap.objs.size < h₁.objs.size := hn.lt
  exact wpAny_execs_nil (hq h₃ tk₃ dx ⟨fun b o hb e => k₃ b o hb (k b o e), hx₃, Nat.le_of_lt (Nat.lt_of_lt_of_le z dn), dne, hn₃⟩)
theorem low_made (T : LowTxt K mg xn qn C fI) {v : Value} (X : K.In s.heap) (hlim : s.heap.NoLimit) (hroom : A.depth + 1 < recursionLimit)
    (hq : ∀ h' tk e d, OwnMade s.heap h' e C d v → R (.ok (.ret (.ref e))) { s with heap := h', toks := tk }) :
    codeAny (model prog w) A (.call (.ref C) ⟨[v], []⟩) R s := by
  obtain ⟨nm, q, N, bs, bm, sn, sub, ab, col, dd, k0, k1, k2, k3, k5, hC, hbm⟩ := T.cls
  obtain ⟨hp, g, dr, tk, os⟩ := s
  have k : ∀ b o, hp.get? b = some o → ((hp.push (kdv_tup [v])).push (excO C hp.objs.size)).get? b = some o := fun b o e => Heap.get?_push_of_some _ (Heap.get?_push_of_some _ e)
  have hget : ((hp.push (kdv_tup [v])).push (excO C hp.objs.size)).get? (hp.objs.size + 1) = some (excO C hp.objs.size) := by heap_get
  have hnx : K.lookup (hp.objs.size + 1) = none := by
    cases e : K.lookup (hp.objs.size + 1) with
    | none => rfl
    | some o =>
      have z : hp.get? (hp.objs.size + 1) = some o := X _ _ e
      exact absurd (Nat.lt_of_succ_lt (Heap.lt_size z)) (Nat.lt_irrefl _)
  refine call_own F.excBase_ValueError (fun X => refsVE_contains X bm hbm) (X _ _ hC) (looks_findIn X T.iC) (fun self => bind_fn X self T.tC) (one_size v) ?_
  refine low_init (s := ⟨(hp.push (kdv_tup [v])).push (excO C hp.objs.size), g, dr, tk, os⟩) T (X.keeps k) (hlim.keeps k) hget hnx ?_ fun h' tk' dx ⟨k', hx, dn, dne, hns⟩ => ?_
  · show A.depth + 1 < recursionLimit
    exact hroom
  · have old : ∀ b o, hp.get? b = some o → h'.get? b = some o := fun b o e => k' b o (Nat.ne_of_lt (Nat.lt_succ_of_lt (Heap.lt_size e))) (k b o e)
    have z : hp.objs.size + 1 + 1 ≤ dx := by
      first
        | (simpa only [Heap.size_push] using dn)
        | exact dn
        | (have q := dn; rw [Heap.size_push, Heap.size_push] at q; exact q)
    exact ⟨rfl, hq h' tk' (hp.objs.size + 1) dx ⟨old, Nat.le_succ _, ⟨_, _, hx, rfl, rfl, rfl, rfl, rfl⟩, Nat.le_trans (Nat.le_trans (Nat.le_succ _) (Nat.le_succ _)) z, dne, hns⟩⟩
end
end Lowvalue
end PySem
namespace L2
open PySem PySem.Spec PyProof.Rows
theorem relO_value {v : V} {v' : Value} (r : RelV v v') (f : Str) : RelO (List.lookup f [(("value" : Str), v)]) (if f = "value" then some v' else none) := by
  by_cases hw : f = "value"
  · subst hw
    rw [if_pos rfl]
    have q : List.lookup ("value" : Str) [(("value" : Str), v)] = some v := by simp [List.lookup]
    rw [q]
    exact r
  · rw [if_neg hw]
    have qw : (f == ("value" : Str)) = false := by simpa using hw
    have q2 : List.lookup f [(("value" : Str), v)] = none := by simp [List.lookup, qw]
    rw [q2]
    trivial
section
variable {X : Cx} {C fI : Addr} {xn qn : Str}
/-- Low(e) -/
def tMkvalue (C : Addr) (ta : TA) : St → Hp → XK → Prop := fun σ H Q => ta σ H fun vs H1 => ∃ v, vs = [v] ∧ ∀ d, H1 d = none → Q (.ref C) (some d) (upd H1 d (.xd [(("value" : Str), v)]))
theorem pmk_value {a : Expr} {ta : TA} {p pos : Pos} {k : Nat} (T : PySem.Lowvalue.LowTxt X.K X.mg xn qn C fI) (hr : Room k X.A) (ha : PA X [a] ta) (hg : Gl X xn) (hdb : (xn == ("__debug__" : Str)) = false := by decide)
    (he : starEach (a :: []) X.env = (false, eval a X.env) :: starEach [] X.env := by rfl) (hpl : (backTo pos (starEach [] X.env)).any (·.1) = false := by rfl) :
    L2N.PMk X (.Call (.Name xn p) [a] [] pos) (tMkvalue C ta) := by
  intro pins s σ H Q I h
  refine wpAny_Call_Name_kw (ld_glob I hg T.g ?_ hdb)
  refine PySem.W.callWith_K (h₀ := X.base) I.ok.mod.kin T.kC (thn (ha.run pos pins s σ H _ I h) fun us s1 hh => ?_) he hpl
  obtain ⟨vs, H1, I1, r1, v, ev, q1⟩ := hh
  subst ev
  refine ⟨I1.kIn, ?_⟩
  cases r1 with
  | cons rv rn =>
    rename_i v' us'
    cases rn
    show wpAny _ _ (call (.ref C) [v']) _ _ _
    have hlim := I1.nolimit
    obtain ⟨hp, g, dr, tk, os⟩ := s1
    refine wpAny_call (PySem.Lowvalue.low_made T I1.kIn hlim (by have := hr.dp; omega) fun h' tk' e d M => ?_)
    show L2N.MkP X pins σ Q (.ref e) ⟨h', g, dr, tk', os⟩
    obtain ⟨oe, fv, hoe, hc, hd, hdat, h1, h2⟩ := M.obj
    have hns := M.ns
    obtain ⟨G', g1, g2⟩ := restrict h' fun b => decide (b ≠ e)
    have gk : ∀ b, b ≠ e → G'.get? b = h'.get? b := fun b hb => g1 b (decide_eq_true hb)
    have ge : G'.get? e = none := g2 e (by simp)
    have old : ∀ b o, hp.get? b = some o → G'.get? b = some o := fun b o q => (gk b (Nat.ne_of_lt (Nat.lt_of_lt_of_le (Heap.lt_size q) M.new))).trans (M.keep b o q)
    have ob : ObjOk X.prog X.w (upd H1 d (.xd [(("value" : Str), v)])) G' d (.xd [(("value" : Str), v)]) :=
      ⟨_, hns.at (fun o q => (gk d M.dne).trans q), fun f => relO_value rv f⟩
    have J : Inv X pins σ (upd H1 d (.xd [(("value" : Str), v)])) ⟨G', g, dr, tk', os⟩ := I1.laid (t' := tk') old M.dbig ob
    refine ⟨e, oe, fv, ⟨G', g, dr, tk', os⟩, _, .ref C, some d, rfl, J, fun b o q => ?_, ge, hoe, ⟨hc, hd, fun vs z => by rw [hdat] at z; cases z; exact h2⟩, hdat, h1, ?_, rfl, I1.bare, raises_own T.exC T.tyC, q1 d (I1.hok.fresh M.dbig)⟩
    · by_cases hb : b = e
      · have q' : G'.get? b = some o := q
        rw [hb, ge] at q'; cases q'
      · exact (gk b hb).symm.trans q
    · rw [upd_ne (Ne.symm M.dne)]
      exact I1.hok.fresh M.new
end
end L2
namespace Vb
open PySem PySem.Spec PyProof.Rows L2
section
variable {P : Program} {w : World} {K : PySem.W.Frag} {mg : Str → Option Value} {base : Heap}
/-- a def that may raise, its exceptions' context told -/
theorem okN {x qual : Str} {st : Stmt} {f : Addr} {fd : FuncData} {N ps : List Str} {k : Nat} {sp : Sp} (F : Fun K x qual st f fd) (S : FnScope N ps (defScope st)) (len : ∀ vs H Q E, sp vs H Q E → vs.length = ps.length)
    (hbody : ∀ (cdv : Value) (A : Around) (outer : List Env) (s : Shared) (H : Hp) (vs : List V) (Q : VK) (E : XK), Room k (A.deeper (envOfC qual (defScope st) s.heap.objs.size f cdv)) → sp vs H Q E →
      ∃ t, PSs (cxOf (L2N.CX P w) P w K mg base N qual (defScope st) f cdv A outer s H E) (defBody st) t ∧ t (Ends.mk (fun _ H' => Q .non H') Q (fun _ _ => False) (fun _ _ => False)) (start N vs) H) : FnOk P w K mg base (L2N.CX P w) (k + 1) f fd ps sp := by
  obtain ⟨oc, od, kV, doc, pm, an, cdv, ct, osl, rfl, lk, hcd⟩ := F.ex
  exact fn_of lk hcd S len fun A outer s H vs Q E hr hsp => hbody cdv A outer s H vs Q E hr hsp
/-- the same, called while an exception is handled -/
theorem okH {x qual : Str} {st : Stmt} {f : Addr} {fd : FuncData} {N ps : List Str} {k : Nat} {sp : Sp} (F : Fun K x qual st f fd) (S : FnScope N ps (defScope st)) (len : ∀ vs H Q E, sp vs H Q E → vs.length = ps.length)
    (hbody : ∀ (cdv : Value) (A : Around) (outer : List Env) (s : Shared) (H : Hp) (vs : List V) (Q : VK) (E : XK) (p : Addr × Obj), L2H.Hot1 A p → L2H.RoomH k (A.deeper (envOfC qual (defScope st) s.heap.objs.size f cdv)) → sp vs H Q E →
      ∃ t, PSs (L2H.cxH CX0 P w K mg base N qual (defScope st) f cdv A outer s H E p) (defBody st) t ∧ t (Ends.mk (fun _ H' => Q .non H') Q (fun _ _ => False) (fun _ _ => False)) (start N vs) H) : L2H.FnH P w K mg base CX0 (k + 1) f fd ps sp := by
  obtain ⟨oc, od, kV, doc, pm, an, cdv, ct, osl, rfl, lk, hcd⟩ := F.ex
  exact L2H.fn_ofH lk hcd S len fun A outer s H vs Q E p hot hr hsp => hbody cdv A outer s H vs Q E p hot hr hsp
/-- a def of the text, by its name -/
structure Dn (K : PySem.W.Frag) (mg : Str → Option Value) (x : Str) (st : Stmt) (ps : List Str) (f : Addr) (fd : FuncData) : Prop where
  F : Fun K x x st f fd
  g : mg x = some (.ref f)
  b : Binds K fd ps []
/-- an own error's class without an __init__ -/
structure Xn (K : PySem.W.Frag) (mg : Str → Option Value) (x : Str) (C : Addr) : Prop where
  g : mg x = some (.ref C)
  q : PySem.W.excIn K C [.type "ValueError", .type "Exception", .type "BaseException", .type "object"] "ValueError.__new__" = true
  kC : PySem.W.keepIn K (.ref C) = true
  exC : PySem.W.subIn K (.ref C) (.type "BaseException") = some true
  tyC : PySem.W.typeIn K (.ref C) = some (.type "type")
/-- what isinstance asks of a caught error's class -/
structure Xk (K : PySem.W.Frag) (C : Addr) : Prop where
  cl : PySem.W.isClsIn K C = true
  ga : PySem.W.findIn K (.ref C) "__getattribute__" = some (some (.builtin "BaseException.__getattribute__"))
  gg : PySem.W.findIn K (.ref C) "__getattr__" = some none
  sb : PySem.W.subIn K (.ref C) (.type "BaseException") = some true
  ca : PySem.W.findIn K (.ref C) "__class__" = some (some (.builtin "object.__class__"))
  sp : PySem.W.specialIn K (.builtin "object.__class__") "__get__" = some (some (.builtin "getset_descriptor.__get__"))
  tk : PySem.W.takesIn K (.builtin "object.__class__") = some true
  mo : PySem.W.mroIn K C (.type "object") = some true
  hd : PySem.W.hasDictIn K C = true
  ss : PySem.W.subIn K (.ref C) (.ref C) = some true
  ty : PySem.W.typeIn K (.ref C) = some (.type "type")
theorem Xk.ex {C : Addr} (k : Xk K C) : PySem.W.exmOne K (.ref C) (.ref C) = some true := PySem.W.exm_ref k.sb k.hd k.ty k.ss
theorem Xk.xf {C : Addr} (k : Xk K C) : XfC K C := ⟨k.ga, k.gg, k.sb, k.hd⟩
theorem kit_yes {D C : Addr} (h1 : PySem.W.isClsIn K C = true) (h2 : PySem.W.typeIn K (.ref C) = some (.type "type")) (h3 : PySem.W.subIn K (.ref D) (.ref C) = some true) : PySem.W.kitOne K (.ref D) (.ref C) = some true := by
  have h1' : (PySem.W.clsIn K C).isSome = true := h1
  unfold PySem.W.kitOne
  split
  · rfl
  · show (if ((PySem.W.clsIn K C).isSome && PySem.W.typeIn K (.ref C) == some (.type "type")) = true then PySem.W.subIn K (.ref D) (.ref C) else none) = _
    rw [h1', h2, if_pos (by decide)]
    exact h3
theorem kit_no {D C : Addr} (h1 : PySem.W.isClsIn K C = true) (h2 : PySem.W.typeIn K (.ref C) = some (.type "type")) (h3 : PySem.W.subIn K (.ref D) (.ref C) = some false) (ne : D ≠ C) : PySem.W.kitOne K (.ref D) (.ref C) = some false := by
  have h1' : (PySem.W.clsIn K C).isSome = true := h1
  unfold PySem.W.kitOne
  split
  · rename_i h
    have e := beq_iff_eq.mp h
    cases e
    exact absurd rfl ne
  · show (if ((PySem.W.clsIn K C).isSome && PySem.W.typeIn K (.ref C) == some (.type "type")) = true then PySem.W.subIn K (.ref D) (.ref C) else none) = _
    rw [h1', h2, if_pos (by decide)]
    exact h3
theorem kit_blt {D : Addr} {T : String} {b : Bool} (h1 : PySem.W.kitMeta T = true) (h3 : PySem.W.subIn K (.ref D) (.type T) = some b) : PySem.W.kitOne K (.ref D) (.type T) = some b := by
  unfold PySem.W.kitOne
  rw [if_neg (by intro h; cases beq_iff_eq.mp h)]
  show (if PySem.W.kitMeta T = true then PySem.W.subIn K (.ref D) (.type T) else none) = _
  rw [h1, if_pos rfl]
  exact h3
end
theorem pass5 {X : Cx} : Passes (L2N.CX X.prog X.w) X E0 := fun _ _ _ _ _ _ _ h => by
  obtain ⟨_, _, _, _, _, _, _, _, _, _, _, _, z⟩ := h
  exact z.elim
theorem roomH_mark {k : Nat} {A : Around} (r : Room k A) (h : Option Value) : L2H.RoomH k (A.mark h) := ⟨r.dp, r.un⟩
theorem passH {X : Cx} {σ : L2.St} : PassesAt CX0 X σ E0 := fun _ _ _ _ _ _ h => h.elim
theorem takesF {X : Cx} : L2N.Takes X (fun _ _ _ _ => False) := fun _ _ x => by
  obtain ⟨_, _, _, _, _, _, _, _, _, _, _, _, _, _, _, _, z⟩ := x
  exact z.elim
section
variable {X : Cx}
theorem hotN {a : Addr} {oe : Obj} {cls : Value} {d : Option Addr} {pn : List (Addr × Obj)} (hz : L2N.Zn cls d oe) (hf : ∃ vs, oe.data = .fields vs) : L2H.HotC (X.suite a ((a, oe) :: pn)) := by
  obtain ⟨vs, e⟩ := hf
  exact ⟨(a, oe), ⟨rfl, vs, e, hz.2.2 vs e⟩, List.mem_cons_self⟩
/-- X() of such a class -/
theorem pmk0 {x : Str} {C : Addr} {p pos : Pos} (T : Xn X.K X.mg x C) (hg : Gl X x) (hdb : (x == ("__debug__" : Str)) = false := by decide) : L2N.PMk X (.Call (.Name x p) [] [] pos) (fun _ H Q => Q (.ref C) none H) := by
  intro pins s σ H Q I h
  refine wpAny_Call_Name_kw (ld_glob I hg T.g ?_ hdb)
  refine PySem.W.callWith_K0 I.kIn T.kC ?_
  obtain ⟨bm, N, nm, qn, bs, hdct, sn, sub, ab, col, dd, k0, k1, k2, k3, k5, mN, hC, hN, hni, T5⟩ := exc_obj I.kIn T.q
  refine wpAny_call_exc_subT PySem.F.excBase_ValueError T5 hC hN hni (fun h' e hm => ?_) (Nat.zero_le _)
  exact L2N.mk_of I hm (raises_own T.exC T.tyC) h (I.hok.gone hm.new)
/-- isinstance(e, c), e the caught error: its class D, its own dict d -/
def rIsX (K : PySem.W.Frag) (D a : Addr) (cls : Value) (d : Option Addr) : List V → Hp → VK → Prop := fun xs H Q => ∃ (c : V) (cv : Value) (b : Bool), xs = [.ref a, c] ∧ cls = .ref D ∧ (∀ u, RelV c u → u = cv) ∧ PySem.W.kitOne K (.ref D) cv = some b ∧ (d = none ∨ ∃ dd fs, d = some dd ∧ H dd = some (.xd fs)) ∧ Q (.bl b) H
theorem call_isX {a D : Addr} {oe : Obj} {cls : Value} {d : Option Addr} {pn : List (Addr × Obj)} (C : Xk X.K D) (hz : L2N.Zn cls d oe) (hf : ∃ vs, oe.data = .fields vs) : CallR (X.suite a ((a, oe) :: pn)) (.builtin "isinstance") (rIsX X.K D a cls d) := by
  intro pins s σ H xs us Q I r h
  obtain ⟨c, cv, b, rfl, ec, hcv, e, hd, q⟩ := h
  obtain ⟨u1, u2, rfl, r1, r2⟩ := vals2 r
  cases (show u1 = Value.ref a from r1)
  have e2 := hcv _ r2
  subst e2
  obtain ⟨hget, _⟩ := I.pin (a, oe) (List.mem_append.mpr (.inl List.mem_cons_self))
  obtain ⟨vs, hv⟩ := hf
  have J : ∃ od, PySem.W.InstAt s.heap a oe D od := by
    rcases hd with hd | ⟨dd, fs, hd, ho⟩
    · refine ⟨none, hget, hz.1.trans ec, by unfold PySem.W.notCls; rw [hv] <;> rfl, ?_⟩
      rw [hz.2.1, hd]
      trivial
    · have hx : ObjOk X.prog X.w H s.heap dd (.xd fs) := I.hok dd _ ho
      obtain ⟨mA, hns, _⟩ := hx
      obtain ⟨od, ho, _⟩ := lookIn_ns hns
      refine ⟨some od, hget, hz.1.trans ec, by unfold PySem.W.notCls; rw [hv] <;> rfl, ?_⟩
      rw [hz.2.1, hd]
      exact ho
  obtain ⟨od, J⟩ := J
  exact PySem.W.kia_one (PySem.W.kitx_exc C.cl C.ga C.gg C.sb C.ca C.sp C.tk C.mo) I.kIn J e (fun z => nomatch z) fun tk => ⟨.bl b, H, I.kept (t' := tk) fun _ _ z => z, rfl, q⟩
/-- a power of a greater number -/
def CPowB (i j : Int) : Prop := 0 ≤ j ∧ (PySem.Builtin.Int.intBits i : Int) * j ≤ 2 ^ 27
theorem op_powB : OpR X (binaryOp .Pow) (rI CPowB fun i j => .int (i ^ j.toNat)) := opI fun _ _ _ _ _ _ _ hc q => PyProof.Rows.pow_int hc.1 hc.2 q
end

/-! ### a reading, step by step -/
section
variable {K : PySem.W.Frag} {σ : L2.St} {H : Hp} {Q : VK} {QT : Bool → Hp → Prop} {QA : List V → Hp → Prop} {ta tb te tc : TE} {t u : TT} {ts tu tw : TS} {x y v : V} {r r' : R2} {nx bk ct : L2.St → Hp → Prop} {rt : VK} {i j : Nat}
theorem r_var (h : σ[i]? = some (some v)) (q : Q v H) : tVar i σ H Q := ⟨v, h, q⟩
theorem r_c (q : Q v H) : tC v σ H Q := q
theorem r_op (h : ta σ H fun x H1 => tb σ H1 fun y H2 => r x y H2 Q) : tOp r ta tb σ H Q := h
theorem r_un {ru : V → Hp → VK → Prop} (h : ta σ H fun x H1 => ru x H1 Q) : tUn ru ta σ H Q := h
theorem r_I0 {g : Int → Int → V} {a b : Int} (q : Q (g a b) H) : rI0 g (.int a) (.int b) H Q := ⟨a, b, rfl, rfl, q⟩
theorem r_I {C : Int → Int → Prop} {g : Int → Int → V} {a b : Int} (c : C a b) (q : Q (g a b) H) : rI C g (.int a) (.int b) H Q := ⟨a, b, rfl, rfl, c, q⟩
theorem r_U {g : Int → V} {a : Int} (q : Q (g a) H) : rU g (.int a) H Q := ⟨a, rfl, q⟩
theorem r_eqI {a b : Int} (q : Q (.bl (decide (a = b))) H) : rEq (.int a) (.int b) H Q := ⟨rfl, by
  have e : decide (V.int a = V.int b) = decide (a = b) := by
    by_cases h : a = b
    · rw [decide_eq_true h, decide_eq_true (congrArg V.int h)]
    · rw [decide_eq_false h, decide_eq_false (fun z => h (V.int.inj z))]
  rw [e]
  exact q⟩
theorem r_neI {a b : Int} (q : Q (.bl (!decide (a = b))) H) : rNe (.int a) (.int b) H Q := ⟨rfl, by
  have e : decide (V.int a = V.int b) = decide (a = b) := by
    by_cases h : a = b
    · rw [decide_eq_true h, decide_eq_true (congrArg V.int h)]
    · rw [decide_eq_false h, decide_eq_false (fun z => h (V.int.inj z))]
  rw [e]
  exact q⟩
theorem r_test (h : te σ H fun x H' => ∃ k, x = .bl k ∧ QT k H') : tTest te σ H QT := h
theorem r_tB (h : te σ H fun x H' => ∃ k, x = .bl k ∧ QT k H') : tB te σ H QT := h
theorem r_bl {k : Bool} {C : Bool → Prop} (q : C k) : ∃ k', V.bl k = .bl k' ∧ C k' := ⟨k, rfl, q⟩
theorem r_and (h : t σ H fun c H1 => if c = true then u σ H1 QT else QT false H1) : tAnd t u σ H QT := h
theorem r_or (h : t σ H fun c H1 => if c = true then QT true H1 else u σ H1 QT) : tOr t u σ H QT := h
theorem r_not (h : t σ H fun c H1 => QT (!c) H1) : tNot t σ H QT := h
theorem r_andV (h : ta σ H fun x H1 => ∃ c, x = .bl c ∧ if c = true then tb σ H1 Q else Q (.bl false) H1) : tAndV ta tb σ H Q := h
theorem r_orV (h : ta σ H fun x H1 => ∃ c, x = .bl c ∧ if c = true then Q (.bl true) H1 else tb σ H1 Q) : tOrV ta tb σ H Q := h
theorem r_notV (h : ta σ H fun x H1 => ∃ c, x = .bl c ∧ Q (.bl (!c)) H1) : tNotV ta σ H Q := h
theorem r_if (h : t σ H fun c H1 => if c = true then ta σ H1 Q else tb σ H1 Q) : tIf t ta tb σ H Q := h
theorem r_chain (h : ta σ H fun x H1 => tb σ H1 fun y H2 => r x y H2 fun z H3 => ∃ k, z = .bl k ∧ (if k = true then tc σ H3 fun w H4 => r' y w H4 Q else Q (.bl false) H3)) : tChain r r' ta tb tc σ H Q := h
theorem r_ite {C : Prop} [Decidable C] {A B : Prop} (h1 : C → A) (h2 : ¬ C → B) : if decide C = true then A else B := by
  by_cases h : C
  · rw [if_pos (decide_eq_true h)]; exact h1 h
  · rw [if_neg (by rw [decide_eq_false h]; decide)]; exact h2 h
theorem r_iteN {C : Prop} [Decidable C] {A B : Prop} (h1 : ¬ C → A) (h2 : C → B) : if (!decide C) = true then A else B := by
  by_cases h : C
  · rw [if_neg (by rw [decide_eq_true h]; decide)]; exact h2 h
  · rw [if_pos (by rw [decide_eq_false h]; decide)]; exact h1 h
theorem r_iteb {b : Bool} {A B : Prop} (h1 : b = true → A) (h2 : b = false → B) : if b = true then A else B := by
  cases b with
  | true => rw [if_pos rfl]; exact h1 rfl
  | false => rw [if_neg (by decide)]; exact h2 rfl
theorem r_iteNb {b : Bool} {A B : Prop} (h1 : b = false → A) (h2 : b = true → B) : if (!b) = true then A else B := by
  cases b with
  | true => rw [if_neg (by decide)]; exact h2 rfl
  | false => rw [if_pos (by decide)]; exact h1 rfl
theorem r_iteT {A B : Prop} (h : A) : if true = true then A else B := by rw [if_pos rfl]; exact h
theorem r_iteF {A B : Prop} (h : B) : if false = true then A else B := by rw [if_neg (by decide)]; exact h
theorem r_iteNT {A B : Prop} (h : B) : if (!true) = true then A else B := by rw [if_neg (by decide)]; exact h
theorem r_iteNF {A B : Prop} (h : A) : if (!false) = true then A else B := by rw [if_pos (by decide)]; exact h
-- arguments, displays
theorem r_nil (q : QA [] H) : tNil σ H QA := q
theorem r_cons {tr : TA} (h : te σ H fun x H1 => tr σ H1 fun xs H2 => QA (x :: xs) H2) : tCons te tr σ H QA := h
theorem r_tup {t : TA} (h : t σ H fun xs H1 => xs.length ≤ sizeLine ∧ ∀ p, H1 p = none → Q (.ref p) (upd H1 p (.tup xs))) : tTup t σ H Q := h
theorem r_lst {t : TA} (h : t σ H fun xs H1 => xs.length ≤ sizeLine ∧ ∀ p, H1 p = none → Q (.ref p) (upd H1 p (.lst xs))) : tLst t σ H Q := h
theorem r_CB {r : List V → Hp → VK → Prop} {t : TA} (h : t σ H fun vs H1 => r vs H1 Q) : tCB r t σ H Q := h
theorem r_callS {sp : Sp} {E : L2.St → XK} {t : TA} (h : t σ H fun vs H1 => sp vs H1 Q (E σ)) : tCallS sp E t σ H Q := h
theorem r_call {sp : Sp} {E : XK} {t : TA} (h : t σ H fun vs H1 => sp vs H1 Q E) : tCall sp [] E t σ H Q := by
  show t σ H fun vs H1 => sp (vs ++ []) H1 Q E
  have e : (fun (vs : List V) (H1 : Hp) => sp (vs ++ []) H1 Q E) = fun vs H1 => sp vs H1 Q E := by
    funext vs H1
    rw [List.append_nil]
  rw [e]
  exact h
def rAbs : List V → Hp → VK → Prop := fun xs H Q => ∃ i, xs = [.int i] ∧ Q (.int (if i < 0 then -i else i)) H
theorem r_abs {a : Int} (q : Q (.int (if a < 0 then -a else a)) H) : rAbs [.int a] H Q := ⟨a, rfl, q⟩
def rMax2 : List V → Hp → VK → Prop := fun xs H Q => ∃ i j, xs = [.int i, .int j] ∧ Q (.int (if j > i then j else i)) H
theorem r_max2 {a b : Int} (q : Q (.int (if b > a then b else a)) H) : rMax2 [.int a, .int b] H Q := ⟨a, b, rfl, q⟩
def rMin2 : List V → Hp → VK → Prop := fun xs H Q => ∃ i j, xs = [.int i, .int j] ∧ Q (.int (if j < i then j else i)) H
theorem r_min2 {a b : Int} (q : Q (.int (if b < a then b else a)) H) : rMin2 [.int a, .int b] H Q := ⟨a, b, rfl, q⟩
def rInt : List V → Hp → VK → Prop := fun xs H Q => (∃ i, xs = [.int i] ∧ Q (.int i) H) ∨ ∃ k, xs = [.bl k] ∧ Q (.int (if k then 1 else 0)) H
theorem r_int {a : Int} (q : Q (.int a) H) : rInt [.int a] H Q := .inl ⟨a, rfl, q⟩
theorem r_intB {b : Bool} (q : Q (.int (if b then 1 else 0)) H) : rInt [.bl b] H Q := .inr ⟨b, rfl, q⟩
def rLenS (K : PySem.W.Frag) : List V → Hp → VK → Prop := fun xs H Q => ∃ p ys, xs = [.ref p] ∧ (SqL K H p ys ∨ SqT K H p ys) ∧ Q (.int ys.length) H
theorem r_len {a : Addr} {xs : List V} (h : SqL K H a xs) (q : Q (.int xs.length) H) : rLenS K [.ref a] H Q := ⟨a, xs, rfl, .inl h, q⟩
theorem r_lenT {a : Addr} {xs : List V} (h : SqT K H a xs) (q : Q (.int xs.length) H) : rLenS K [.ref a] H Q := ⟨a, xs, rfl, .inr h, q⟩
def rList (K : PySem.W.Frag) : List V → Hp → VK → Prop := fun xs H Q => ∃ p ys, xs = [.ref p] ∧ (SqL K H p ys ∨ SqT K H p ys) ∧ ∀ l, H l = none → Q (.ref l) (upd H l (.lst ys))
theorem r_list {a : Addr} {xs : List V} (h : SqL K H a xs) (q : ∀ l, H l = none → Q (.ref l) (upd H l (.lst xs))) : rList K [.ref a] H Q := ⟨a, xs, rfl, .inl h, q⟩
theorem r_ixL {a : Addr} {xs : List V} {z : Int} (h : SqL K H a xs) (e : atI xs z = some v) (q : Q v H) : rIxL K (.ref a) (.int z) H Q := ⟨a, xs, z, v, rfl, rfl, h, e, q⟩
theorem r_ixT {a : Addr} {xs : List V} {z : Int} (h : SqT K H a xs) (e : atI xs z = some v) (q : Q v H) : rIxT K (.ref a) (.int z) H Q := ⟨a, xs, z, v, rfl, rfl, h, e, q⟩
theorem r_setL {a : Addr} {xs : List V} {z : Int} {k : Nat} {C : Hp → Prop} (h : H a = some (.lst xs)) (e : ixN xs.length z = some k) (q : C (upd H a (.lst (xs.set k v)))) : rSetL (.ref a) (.int z) v H C := ⟨a, xs, z, k, rfl, rfl, h, e, q⟩
theorem r_BM0 {T : String} {r : V → List V → Hp → VK → Prop} {to : TE} (h : to σ H fun x H1 => tyV K T x H1 ∧ r x [] H1 Q) : tBM0 K T r to σ H Q := h
theorem r_rev {a : Addr} {xs : List V} (h : H a = some (.lst xs)) (q : Q .non (upd H a (.lst xs.reverse))) : rReverse (.ref a) [] H Q := ⟨a, xs, rfl, rfl, h, q⟩
theorem r_BM {T : String} {r : V → List V → Hp → VK → Prop} {to : TE} {t : TA} (h : to σ H fun x H1 => tyV K T x H1 ∧ t σ H1 fun xs H2 => r x xs H2 Q) : tBM K T r to t σ H Q := h
theorem r_app {a : Addr} {xs : List V} (h : H a = some (.lst xs)) (l : xs.length < sizeLine) (q : Q .non (upd H a (.lst (xs ++ [v])))) : rAppend (.ref a) [v] H Q := ⟨a, xs, v, rfl, rfl, h, l, q⟩
theorem tyL {a : Addr} {xs : List V} (h : H a = some (.lst xs)) : tyV K "list" (.ref a) H := .inl ⟨rfl, _, .inl (.inl h)⟩
theorem r_ty {a : Addr} {xs : List V} {B : Prop} (h : H a = some (.lst xs)) (q : B) : tyV K "list" (.ref a) H ∧ B := ⟨tyL h, q⟩
-- statements, something behind
theorem r_seq_set (h : te σ H fun x H1 => tu (Ends.mk nx rt bk ct) (σ.set i (some x)) H1) : tSeq (tAsg te (gName i)) tu (Ends.mk nx rt bk ct) σ H := h
theorem r_seq_sub {to ti : TE} {tt : TSet} (h : te σ H fun x H1 => to σ H1 fun o H2 => ti σ H2 fun k H3 => tt o k x H3 fun H4 => tu (Ends.mk nx rt bk ct) σ H4) : tSeq (tAsg te (gSub to ti tt)) tu (Ends.mk nx rt bk ct) σ H := h
theorem r_seq_when (h : t σ H fun b H1 => if b = true then ts (Ends.mk (tu (Ends.mk nx rt bk ct)) rt bk ct) σ H1 else tu (Ends.mk nx rt bk ct) σ H1) : tSeq (tIfS t ts tNext) tu (Ends.mk nx rt bk ct) σ H := h
theorem r_seq_if (h : t σ H fun b H1 => if b = true then ts (Ends.mk (tu (Ends.mk nx rt bk ct)) rt bk ct) σ H1 else tw (Ends.mk (tu (Ends.mk nx rt bk ct)) rt bk ct) σ H1) : tSeq (tIfS t ts tw) tu (Ends.mk nx rt bk ct) σ H := h
theorem r_seq_drop (h : te σ H fun _ H1 => tu (Ends.mk nx rt bk ct) σ H1) : tSeq (tDrop te) tu (Ends.mk nx rt bk ct) σ H := h
theorem r_seq (h : ts (Ends.mk (tu (Ends.mk nx rt bk ct)) rt bk ct) σ H) : tSeq ts tu (Ends.mk nx rt bk ct) σ H := h
-- the last one
theorem r_set (h : te σ H fun x H1 => nx (σ.set i (some x)) H1) : tAsg te (gName i) (Ends.mk nx rt bk ct) σ H := h
theorem r_sub {to ti : TE} {tt : TSet} (h : te σ H fun x H1 => to σ H1 fun o H2 => ti σ H2 fun k H3 => tt o k x H3 fun H4 => nx σ H4) : tAsg te (gSub to ti tt) (Ends.mk nx rt bk ct) σ H := h
theorem r_when (h : t σ H fun b H1 => if b = true then ts (Ends.mk nx rt bk ct) σ H1 else nx σ H1) : tIfS t ts tNext (Ends.mk nx rt bk ct) σ H := h
theorem r_ifs (h : t σ H fun b H1 => if b = true then ts (Ends.mk nx rt bk ct) σ H1 else tw (Ends.mk nx rt bk ct) σ H1) : tIfS t ts tw (Ends.mk nx rt bk ct) σ H := h
theorem r_drop (h : te σ H fun _ H1 => nx σ H1) : tDrop te (Ends.mk nx rt bk ct) σ H := h
theorem r_ret (h : te σ H rt) : tRet te (Ends.mk nx rt bk ct) σ H := h
theorem r_brk (h : bk σ H) : tBreak (Ends.mk nx rt bk ct) σ H := h
theorem r_cnt (h : ct σ H) : tCont (Ends.mk nx rt bk ct) σ H := h
theorem r_nxt (h : nx σ H) : tNext (Ends.mk nx rt bk ct) σ H := h
-- loops
def ForW (J : It) (g : TG) (tb : TS) (nx : L2.St → Hp → Prop) (rt : VK) (σ : L2.St) (H : Hp) : Prop := ∃ W : Nat → Nat → L2.St → Hp → Prop, (∃ m, W 0 m σ H) ∧ ∀ i m σ H, W i m σ H →
  (J.stop i H ∧ nx σ H) ∨ (J.go i H ∧ ∃ N : L2.St → Hp → Prop, (∀ σ' H', N σ' H' → ∃ m', m' < m ∧ W (i + 1) m' σ' H') ∧ ∀ x H', J.yld i H x H' → g x σ H' fun σ2 H2 => tb (Ends.mk N rt nx N) σ2 H2)
theorem r_for {wi : TI} {g : TG} (h : wi σ H fun J H1 => ForW J g ts nx rt σ H1) : tFor wi g ts (Ends.mk nx rt bk ct) σ H := h
theorem r_rng1 {ta : TA} {R : It → Hp → Prop} (h : ta σ H fun vs H1 => ∃ j : Int, vs = [.int j] ∧ -(2 ^ 62) ≤ j ∧ j < 2 ^ 62 ∧ R (Itr 0 j.toNat) H1) : iRng1 ta σ H R := h
theorem r_rng2 {ta : TA} {R : It → Hp → Prop} (h : ta σ H fun vs H1 => ∃ i j : Int, vs = [.int i, .int j] ∧ (-(2 ^ 62) ≤ i ∧ i < 2 ^ 62 ∧ -(2 ^ 62) ≤ j ∧ j < 2 ^ 62) ∧ R (Itr i (j - i).toNat) H1) : iRng2 ta σ H R := h
theorem r_iList {tl : TE} {R : It → Hp → Prop} (h : tl σ H fun x H1 => ∃ a, x = .ref a ∧ (∃ xs, SqL K H1 a xs) ∧ R (Itl K a) H1) : iList K tl σ H R := h
theorem f_rng1 {n : Int} {g : TG} (b1 : -(2 ^ 62) ≤ n) (b2 : n < 2 ^ 62) (q : ForW (Itr 0 n.toNat) g ts nx rt σ H) : ∃ j : Int, [V.int n] = [.int j] ∧ -(2 ^ 62) ≤ j ∧ j < 2 ^ 62 ∧ ForW (Itr 0 j.toNat) g ts nx rt σ H := ⟨n, rfl, b1, b2, q⟩
theorem f_rng2 {lo hi : Int} {g : TG} (b : -(2 ^ 62) ≤ lo ∧ lo < 2 ^ 62 ∧ -(2 ^ 62) ≤ hi ∧ hi < 2 ^ 62) (q : ForW (Itr lo (hi - lo).toNat) g ts nx rt σ H) : ∃ i j : Int, [V.int lo, V.int hi] = [.int i, .int j] ∧ (-(2 ^ 62) ≤ i ∧ i < 2 ^ 62 ∧ -(2 ^ 62) ≤ j ∧ j < 2 ^ 62) ∧ ForW (Itr i (j - i).toNat) g ts nx rt σ H := ⟨lo, hi, rfl, b, q⟩
theorem f_rng3 {i j c : Int} {n : Nat} {g : TG} (b : RgC i j c n) (q : ForW (Itc i c n) g ts nx rt σ H) : ∃ (i' j' c' : Int) (n' : Nat), [V.int i, V.int j, V.int c] = [.int i', .int j', .int c'] ∧ RgC i' j' c' n' ∧ ForW (Itc i' c' n') g ts nx rt σ H := ⟨i, j, c, n, rfl, b, q⟩
theorem f_list {a : Addr} {xs : List V} {g : TG} (h : SqL K H a xs) (q : ForW (Itl K a) g ts nx rt σ H) : ∃ b, V.ref a = .ref b ∧ (∃ xs, SqL K H b xs) ∧ ForW (Itl K b) g ts nx rt σ H := ⟨a, rfl, ⟨xs, h⟩, q⟩
theorem f_tup {a : Addr} {xs : List V} {g : TG} (h : SqT K H a xs) (q : ForW (Itt K a) g ts nx rt σ H) : ∃ b, V.ref a = .ref b ∧ (∃ xs, SqT K H b xs) ∧ ForW (Itt K b) g ts nx rt σ H := ⟨a, rfl, ⟨xs, h⟩, q⟩
theorem lp_range {lo : Int} {n : Nat} {g : TG} (Pv : Nat → L2.St → Hp → Prop) (h0 : Pv 0 σ H) (hs : ∀ i σ H, i < n → Pv i σ H → g (.int (lo + i)) σ H fun σ2 H2 => ts (Ends.mk (Pv (i + 1)) rt nx (Pv (i + 1))) σ2 H2) (hd : ∀ σ H, Pv n σ H → nx σ H) : ForW (Itr lo n) g ts nx rt σ H :=
  for_range (D := Ends.mk nx rt nx nx) Pv h0 hs hd
theorem lp_list {a : Addr} {xs : List V} {g : TG} (Pv : Nat → L2.St → Hp → Prop) (h0 : Pv 0 σ H) (hl : ∀ i σ H, i ≤ xs.length → Pv i σ H → SqL K H a xs)
    (hs : ∀ i x σ H, xs[i]? = some x → Pv i σ H → g x σ H fun σ2 H2 => ts (Ends.mk (Pv (i + 1)) rt nx (Pv (i + 1))) σ2 H2) (hd : ∀ σ H, Pv xs.length σ H → nx σ H) : ForW (Itl K a) g ts nx rt σ H :=
  for_list (D := Ends.mk nx rt nx nx) Pv h0 hl hs hd
theorem r_gName {C : L2.St → Hp → Prop} (h : C (σ.set i (some v)) H) : gName i v σ H C := h
/-- a turn's body, from measure m -/
def WhB (W : Nat → L2.St → Hp → Prop) (m : Nat) (tb : TS) (nx : L2.St → Hp → Prop) (rt : VK) (σ : L2.St) (H : Hp) : Prop := ∃ N : L2.St → Hp → Prop, (∀ σ' H', N σ' H' → ∃ m', m' < m ∧ W m' σ' H') ∧ tb (Ends.mk N rt nx N) σ H
theorem wh_body {W : Nat → L2.St → Hp → Prop} {m : Nat} {tb : TS} (h : tb (Ends.mk (fun σ' H' => ∃ m', m' < m ∧ W m' σ' H') rt nx (fun σ' H' => ∃ m', m' < m ∧ W m' σ' H')) σ H) : WhB W m tb nx rt σ H := ⟨_, fun _ _ z => z, h⟩
theorem r_while {tb : TS} (W : Nat → L2.St → Hp → Prop) (m : Nat) (h0 : W m σ H) (hs : ∀ m σ H, W m σ H → t σ H fun b H1 => if b = true then WhB W m tb nx rt σ H1 else nx σ H1) : tWhile t tb (Ends.mk nx rt bk ct) σ H := ⟨W, ⟨m, h0⟩, hs⟩
theorem r_iTup {tl : TE} {R : It → Hp → Prop} (h : tl σ H fun x H1 => ∃ a, x = .ref a ∧ (∃ xs, SqT K H1 a xs) ∧ R (Itt K a) H1) : iTup K tl σ H R := h
theorem lp_tup {a : Addr} {xs : List V} {g : TG} (Pv : Nat → L2.St → Hp → Prop) (h0 : Pv 0 σ H) (hl : ∀ i σ H, i ≤ xs.length → Pv i σ H → SqT K H a xs)
    (hs : ∀ i x σ H, xs[i]? = some x → Pv i σ H → g x σ H fun σ2 H2 => ts (Ends.mk (Pv (i + 1)) rt nx (Pv (i + 1))) σ2 H2) (hd : ∀ σ H, Pv xs.length σ H → nx σ H) : ForW (Itt K a) g ts nx rt σ H :=
  for_tup (D := Ends.mk nx rt nx nx) Pv h0 hl hs hd
theorem lp_rangeC {lo c : Int} {n : Nat} {g : TG} (Pv : Nat → L2.St → Hp → Prop) (h0 : Pv 0 σ H) (hs : ∀ i σ H, i < n → Pv i σ H → g (.int (lo + (i : Nat) * c)) σ H fun σ2 H2 => ts (Ends.mk (Pv (i + 1)) rt nx (Pv (i + 1))) σ2 H2) (hd : ∀ σ H, Pv n σ H → nx σ H) : ForW (Itc lo c n) g ts nx rt σ H :=
  for_rangeC (D := Ends.mk nx rt nx nx) Pv h0 hs hd
theorem r_rng3 {ta : TA} {R : It → Hp → Prop} (h : ta σ H fun vs H1 => ∃ (i j c : Int) (n : Nat), vs = [.int i, .int j, .int c] ∧ RgC i j c n ∧ R (Itc i c n) H1) : iRng3 ta σ H R := h
-- comprehensions
def LcW (J : It) (g : TG) (tt : TT) (te : TE) (vs : List Nat) (σ : L2.St) (H1 : Hp) (D : Addr) (Qd : Hp → Prop) : Prop := ∃ W : Nat → Nat → Hp → Prop, (∃ m, W 0 m (upd H1 D (.lst []))) ∧ ∀ i m H, W i m H →
  (J.stop i H ∧ Qd H) ∨ (J.go i H ∧ ∃ Nx : Hp → Prop, (∀ H', Nx H' → ∃ m', m' < m ∧ W (i + 1) m' H') ∧ ∀ x H', J.yld i H x H' → g x (wipe σ vs) H' fun σ2 H2 => wipe σ2 vs = wipe σ vs ∧ tt σ2 H2 fun b H3 =>
    if b = true then te σ2 H3 fun y H4 => ∃ acc, H4 D = some (.lst acc) ∧ acc.length < sizeLine ∧ Nx (upd H4 D (.lst (acc ++ [y]))) else Nx H3)
theorem r_lc {wi : TI} {g : TG} {tt : TT} {vs : List Nat} (h : wi σ H fun J H1 => ∀ D, H1 D = none → LcW J g tt te vs σ H1 D fun H' => Q (.ref D) H') : tLc wi g tt te vs σ H Q := h
theorem c_rng1 {n : Int} {g : TG} {tt : TT} {vs : List Nat} {σ' : L2.St} {Q' : Addr → Hp → Prop} (b1 : -(2 ^ 62) ≤ n) (b2 : n < 2 ^ 62) (q : ∀ D, H D = none → LcW (Itr 0 n.toNat) g tt te vs σ' H D (Q' D)) : ∃ j : Int, [V.int n] = [.int j] ∧ -(2 ^ 62) ≤ j ∧ j < 2 ^ 62 ∧ ∀ D, H D = none → LcW (Itr 0 j.toNat) g tt te vs σ' H D (Q' D) := ⟨n, rfl, b1, b2, q⟩
theorem c_rng2 {lo hi : Int} {g : TG} {tt : TT} {vs : List Nat} {σ' : L2.St} {Q' : Addr → Hp → Prop} (b : -(2 ^ 62) ≤ lo ∧ lo < 2 ^ 62 ∧ -(2 ^ 62) ≤ hi ∧ hi < 2 ^ 62) (q : ∀ D, H D = none → LcW (Itr lo (hi - lo).toNat) g tt te vs σ' H D (Q' D)) : ∃ i j : Int, [V.int lo, V.int hi] = [.int i, .int j] ∧ (-(2 ^ 62) ≤ i ∧ i < 2 ^ 62 ∧ -(2 ^ 62) ≤ j ∧ j < 2 ^ 62) ∧ ∀ D, H D = none → LcW (Itr i (j - i).toNat) g tt te vs σ' H D (Q' D) := ⟨lo, hi, rfl, b, q⟩
theorem c_list {a : Addr} {xs : List V} {g : TG} {tt : TT} {vs : List Nat} {σ' : L2.St} {Q' : Addr → Hp → Prop} (h : SqL K H a xs) (q : ∀ D, H D = none → LcW (Itl K a) g tt te vs σ' H D (Q' D)) : ∃ b, V.ref a = .ref b ∧ (∃ xs, SqL K H b xs) ∧ ∀ D, H D = none → LcW (Itl K b) g tt te vs σ' H D (Q' D) := ⟨a, rfl, ⟨xs, h⟩, q⟩
theorem c_tup {a : Addr} {xs : List V} {g : TG} {tt : TT} {vs : List Nat} {σ' : L2.St} {Q' : Addr → Hp → Prop} (h : SqT K H a xs) (q : ∀ D, H D = none → LcW (Itt K a) g tt te vs σ' H D (Q' D)) : ∃ b, V.ref a = .ref b ∧ (∃ xs, SqT K H b xs) ∧ ∀ D, H D = none → LcW (Itt K b) g tt te vs σ' H D (Q' D) := ⟨a, rfl, ⟨xs, h⟩, q⟩
/-- a turn of a comprehension over a name: the test, the item -/
def LcT (tt : TT) (te : TE) (D : Addr) (N : Hp → Prop) (σ : L2.St) (H : Hp) : Prop := tt σ H fun b H3 => if b = true then te σ H3 fun y H4 => ∃ acc, H4 D = some (.lst acc) ∧ acc.length < sizeLine ∧ N (upd H4 D (.lst (acc ++ [y]))) else N H3
theorem lcw_range {lo : Int} {n : Nat} {tt : TT} {vs : List Nat} {H1 : Hp} {D : Addr} {Qd : Hp → Prop} (Pv : Nat → Hp → Prop) (h0 : Pv 0 (upd H1 D (.lst []))) (hw : ∀ x, wipe ((wipe σ vs).set j (some x)) vs = wipe σ vs)
    (hs : ∀ i H, i < n → Pv i H → LcT tt te D (Pv (i + 1)) ((wipe σ vs).set j (some (.int (lo + i)))) H) (hd : ∀ H, Pv n H → Qd H) : LcW (Itr lo n) (gName j) tt te vs σ H1 D Qd :=
  lc_range Pv h0 (fun i H hi p => ⟨hw _, hs i H hi p⟩) hd
theorem lcw_list {a : Addr} {xs : List V} {tt : TT} {vs : List Nat} {H1 : Hp} {D : Addr} {Qd : Hp → Prop} (Pv : Nat → Hp → Prop) (h0 : Pv 0 (upd H1 D (.lst []))) (hw : ∀ x, wipe ((wipe σ vs).set j (some x)) vs = wipe σ vs) (hl : ∀ i H, i ≤ xs.length → Pv i H → SqL K H a xs)
    (hs : ∀ i x H, xs[i]? = some x → Pv i H → LcT tt te D (Pv (i + 1)) ((wipe σ vs).set j (some x)) H) (hd : ∀ H, Pv xs.length H → Qd H) : LcW (Itl K a) (gName j) tt te vs σ H1 D Qd :=
  lc_list Pv h0 hl (fun i x H hi p => ⟨hw _, hs i x H hi p⟩) hd
theorem lcw_tup {a : Addr} {xs : List V} {tt : TT} {vs : List Nat} {H1 : Hp} {D : Addr} {Qd : Hp → Prop} (Pv : Nat → Hp → Prop) (h0 : Pv 0 (upd H1 D (.lst []))) (hw : ∀ x, wipe ((wipe σ vs).set j (some x)) vs = wipe σ vs) (hl : ∀ i H, i ≤ xs.length → Pv i H → SqT K H a xs)
    (hs : ∀ i x H, xs[i]? = some x → Pv i H → LcT tt te D (Pv (i + 1)) ((wipe σ vs).set j (some x)) H) (hd : ∀ H, Pv xs.length H → Qd H) : LcW (Itt K a) (gName j) tt te vs σ H1 D Qd :=
  lc_tup Pv h0 hl (fun i x H hi p => ⟨hw _, hs i x H hi p⟩) hd
theorem lct_yes {D : Addr} {N : Hp → Prop} (h : te σ H fun y H4 => ∃ acc, H4 D = some (.lst acc) ∧ acc.length < sizeLine ∧ N (upd H4 D (.lst (acc ++ [y])))) : LcT tYes te D N σ H := r_iteT (B := N H) h
theorem lct_if {tt : TT} {D : Addr} {N : Hp → Prop} (h : tt σ H fun b H3 => if b = true then te σ H3 fun y H4 => ∃ acc, H4 D = some (.lst acc) ∧ acc.length < sizeLine ∧ N (upd H4 D (.lst (acc ++ [y]))) else N H3) : LcT tt te D N σ H := h
end
section
variable {X : Cx}
theorem call_int : CallR X (.type "int") rInt := call_int1
theorem call_abs : CallR X (.builtin "abs") rAbs := L2.call_abs
theorem call_max2 (hc : X.calm = true) : CallR X (.builtin "max") rMax2 := L2.call_max2 hc
theorem call_min2 (hc : X.calm = true) : CallR X (.builtin "min") rMin2 := L2.call_min2 hc
theorem call_len : CallR X (.builtin "len") (rLenS X.K) := L2.call_len_seq
theorem call_list : CallR X (.type "list") (rList X.K) := L2.call_list_of
def rTup (K : PySem.W.Frag) : List V → Hp → VK → Prop := fun xs H Q => ∃ p ys, xs = [.ref p] ∧ ((SqL K H p ys ∧ ∀ l, H l = none → Q (.ref l) (upd H l (.tup ys))) ∨ (SqT K H p ys ∧ Q (.ref p) H))
theorem call_tuple : CallR X (.type "tuple") (rTup X.K) := L2.call_tuple_of
theorem r_tupL {K : PySem.W.Frag} {H : Hp} {Q : VK} {a : Addr} {xs : List V} (h : SqL K H a xs) (q : ∀ l, H l = none → Q (.ref l) (upd H l (.tup xs))) : rTup K [.ref a] H Q := ⟨a, xs, rfl, .inl ⟨h, q⟩⟩
theorem r_tupT {K : PySem.W.Frag} {H : Hp} {Q : VK} {a : Addr} {xs : List V} (h : SqT K H a xs) (q : Q (.ref a) H) : rTup K [.ref a] H Q := ⟨a, xs, rfl, .inr ⟨h, q⟩⟩
def rBool : List V → Hp → VK → Prop := fun xs H Q => (∃ i, xs = [.int i] ∧ Q (.bl (i != 0)) H) ∨ ∃ k, xs = [.bl k] ∧ Q (.bl k) H
theorem call_bool : CallR X (.type "bool") rBool := L2.call_bool1
theorem r_ixSL {K : PySem.W.Frag} {H : Hp} {Q : VK} {a : Addr} {xs : List V} {z : Int} {v : V} (h : SqL K H a xs) (e : atI xs z = some v) (q : Q v H) : rIx K (.ref a) (.int z) H Q := .inl ⟨a, xs, z, v, rfl, rfl, h, e, q⟩
theorem r_ixST {K : PySem.W.Frag} {H : Hp} {Q : VK} {a : Addr} {xs : List V} {z : Int} {v : V} (h : SqT K H a xs) (e : atI xs z = some v) (q : Q v H) : rIx K (.ref a) (.int z) H Q := .inr (.inl ⟨a, xs, z, v, rfl, rfl, h, e, q⟩)
def rIsN : R2 := fun x y H Q => y = .non ∧ Q (.bl (decide (x = .non))) H
def rNotN : R2 := fun x y H Q => y = .non ∧ Q (.bl (!decide (x = .non))) H
theorem op_isN : OpR X (compareOp .Is) rIsN := L2.op_isN
theorem op_notN : OpR X (compareOp .IsNot) rNotN := L2.op_notN
theorem r_isN {x : V} {H : Hp} {Q : VK} (q : Q (.bl (decide (x = .non))) H) : rIsN x .non H Q := ⟨rfl, q⟩
theorem r_notN {x : V} {H : Hp} {Q : VK} (q : Q (.bl (!decide (x = .non))) H) : rNotN x .non H Q := ⟨rfl, q⟩
end
section
variable {K : PySem.W.Frag} {σ : L2.St} {H : Hp} {Q : VK} {nx bk ct : L2.St → Hp → Prop} {rt : VK} {te : TE}
/-- into an except suite -/
theorem r_as {C : Addr} {d : Option Addr} {i : Nat} {ts : Addr → Value → Option Addr → TS} {Wo : WX} (k : Xk K C) (h : ∀ a, H a = none → ts a (.ref C) d (Ends.mk (fun σ' H' => nx (σ'.set i none) H') rt (fun σ' H' => bk (σ'.set i none) H') (fun σ' H' => ct (σ'.set i none) H')) (σ.set i (some (.ref a))) H) :
    WE (wAs K (.ref C) i ts Wo (Ends.mk nx rt bk ct)) σ (.ref C) d H := ⟨true, k.ex, fun _ => h, fun z => Bool.noConfusion z⟩
theorem r_isXr {D a C : Addr} {d : Option Addr} {b : Bool} (e : PySem.W.kitOne K (.ref D) (.ref C) = some b) (hd : d = none ∨ ∃ dd fs, d = some dd ∧ H dd = some (.xd fs)) (q : Q (.bl b) H) : rIsX K D a (.ref D) d [.ref a, .ref C] H Q := ⟨.ref C, .ref C, b, rfl, rfl, fun _ h => h, e, hd, q⟩
theorem r_isXt {D a : Addr} {n : String} {d : Option Addr} {b : Bool} (e : PySem.W.kitOne K (.ref D) (.type n) = some b) (hd : d = none ∨ ∃ dd fs, d = some dd ∧ H dd = some (.xd fs)) (q : Q (.bl b) H) : rIsX K D a (.ref D) d [.ref a, .ty n] H Q := ⟨.ty n, .type n, b, rfl, rfl, fun _ h => h, e, hd, q⟩
theorem r_xf {a C : Addr} {cls : Value} {d : Option Addr} {f : Str} (h : te σ H fun x H1 => x = .ref a ∧ cls = .ref C ∧ ∃ (dd : Addr) (fs : List (Str × V)) (v : V), d = some dd ∧ H1 dd = some (.xd fs) ∧ fs.lookup f = some v ∧ Q v H1) : tXf a cls d C f te σ H Q := h
theorem r_xfv {a C dd : Addr} {f : Str} {fs : List (Str × V)} {v : V} {R : V → Prop} (h : H dd = some (.xd fs)) (l : fs.lookup f = some v) (q : R v) : V.ref a = .ref a ∧ Value.ref C = .ref C ∧ ∃ (dd' : Addr) (fs : List (Str × V)) (v : V), some dd = some dd' ∧ H dd' = some (.xd fs) ∧ fs.lookup f = some v ∧ R v := ⟨rfl, rfl, dd, fs, v, rfl, h, l, q⟩
end
end Vb
namespace Vb
open PySem PySem.Spec PyProof.Rows L2
/-! ### what stands, carried on -/
theorem h_new {H : Hp} {p q : Addr} {o u : HO} (n : H p = none) (h : H q = some u) : upd H p o q = some u := by
  rw [upd_ne (ne_of_none h n)]
  exact h
theorem h_ne {H : Hp} {p q : Addr} {o u : HO} (n : q ≠ p) (h : H q = some u) : upd H p o q = some u := by
  rw [upd_ne n]
  exact h
theorem h_no {H : Hp} {p q : Addr} {o : HO} (n : q ≠ p) (h : H q = none) : upd H p o q = none := by
  rw [upd_ne n]
  exact h
theorem sq_of {K : PySem.W.Frag} {H : Hp} {a : Addr} {xs : List V} (h : H a = some (.lst xs)) : SqL K H a xs := .inl (.inl h)
theorem st_of {K : PySem.W.Frag} {H : Hp} {a : Addr} {xs : List V} (h : H a = some (.tup xs)) : SqT K H a xs := .inl (.inl h)
theorem same_new {H : Hp} {p : Addr} {o : HO} (n : H p = none) : Same H (upd H p o) := fun _ _ h => h_new n h
/-- an object that H does not know may change -/
theorem same_mut {H H' : Hp} {p : Addr} {o : HO} (e : Same H H') (h : H p = none) : Same H (upd H' p o) := fun a u ha => h_ne (ne_of_none ha h) (e a u ha)
/-- all but st is as it was -/
structure Fr (st : Addr) (H H' : Hp) : Prop where
  k : ∀ b o, b ≠ st → H b = some o → H' b = some o
  hd : ∀ l r, H st = some (.lst (.ref l :: r)) → ∃ r', H' st = some (.lst (.ref l :: r'))
theorem Fr.refl (st : Addr) (H : Hp) : Fr st H H := ⟨fun _ _ _ h => h, fun _ r h => ⟨r, h⟩⟩
theorem Fr.trans {st : Addr} {H H1 H2 : Hp} (a : Fr st H H1) (b : Fr st H1 H2) : Fr st H H2 := ⟨fun c o n h => b.k c o n (a.k c o n h), fun l r h => (a.hd l r h).elim fun r' h' => b.hd l r' h'⟩
theorem Fr.of {st : Addr} {H H' : Hp} (a : Same H H') : Fr st H H' := ⟨fun c o _ h => a c o h, fun _ r h => ⟨r, a _ _ h⟩⟩
theorem Fr.seq {K : PySem.W.Frag} {st : Addr} {H H' : Hp} {a : Addr} {xs : List V} (e : Fr st H H') (n : a ≠ st) (h : SqL K H a xs) : SqL K H' a xs := by
  rcases h with (h | ⟨o, h⟩) | h
  · exact .inl (.inl (e.k _ _ n h))
  · exact .inl (.inr ⟨o, e.k _ _ n h⟩)
  · exact .inr h
theorem Fr.mut {st p : Addr} {H H' : Hp} {o : HO} (e : Fr st H H') (h : H p = none) : Fr st H (upd H' p o) := ⟨fun a u n ha => h_ne (ne_of_none ha h) (e.k a u n ha), fun l r ha => (e.hd l r ha).elim fun r' h' => ⟨r', h_ne (ne_of_none ha h) h'⟩⟩
/-- the law's store at st: what is left of the script, a great number that is being used up, a count, a seed -/
def StoreAt (H : Hp) (st : Addr) : Prop := ∃ (l : Addr) (ns : List Int) (pos rest turn seed : Int), l ≠ st ∧ H st = some (.lst [.ref l, .int pos, .int rest, .int turn, .int seed]) ∧ H l = some (.lst (ns.map V.int)) ∧ 0 ≤ pos ∧ 0 ≤ rest
theorem StoreAt.same {H H' : Hp} {st : Addr} (s : StoreAt H st) (e : Same H H') : StoreAt H' st := by
  obtain ⟨l, ns, a, b, c, d, n, h1, h2, h3⟩ := s
  exact ⟨l, ns, a, b, c, d, n, e _ _ h1, e _ _ h2, h3⟩
theorem StoreAt.ne {H : Hp} {st p : Addr} (s : StoreAt H st) (h : H p = none) : p ≠ st := by
  obtain ⟨l, ns, a, b, c, d, n, h1, _⟩ := s
  exact fun z => by rw [z, h1] at h; cases h
/-- the script's list is not the one that H did not know -/
theorem StoreAt.mut {H H' : Hp} {st p : Addr} {o : HO} (s : StoreAt H st) (n : H p = none) (f : Fr st H H') (s' : StoreAt H' st) : StoreAt (upd H' p o) st := by
  obtain ⟨l, ns, a, b, c, d, n1, h1, h2, h3, h4⟩ := s
  obtain ⟨m, ms, a', b', c', d', m1, g1, g2, g3, g4⟩ := s'
  obtain ⟨r', e⟩ := f.hd _ _ h1
  rw [g1] at e
  cases e
  exact ⟨_, ms, a', b', c', d', m1, h_ne (ne_of_none h1 n) g1, h_ne (ne_of_none h2 n) g2, g3, g4⟩
theorem at_i {xs : List V} {j : Nat} {v : V} (h : xs[j]? = some v) : atI xs (j : Int) = some v := atI_nat h
theorem at_lit {xs : List V} {z : Int} {v : V} (j : Nat) (e : z = (j : Int)) (h : xs[j]? = some v) : atI xs z = some v := by
  rw [e]
  exact atI_nat h
theorem ix_lit {n : Nat} {z : Int} (j : Nat) (e : z = (j : Int)) (h0 : Nat.ble (j + 1) n = true) : ixN n z = some j := by
  have h := Nat.le_of_ble_eq_true h0
  subst e
  unfold ixN
  rw [if_pos (Int.natCast_nonneg j), if_pos (by omega)]
  rfl
theorem getV {ns : List Int} {i : Nat} (h : i < ns.length) : (ns.map V.int)[i]? = some (.int ns[i]) := by
  rw [List.getElem?_map, List.getElem?_eq_getElem h]
  rfl
theorem getV' {ns : List Int} {i : Nat} {x : V} (h : (ns.map V.int)[i]? = some x) : ∃ z, ns[i]? = some z ∧ x = .int z := by
  rw [List.getElem?_map] at h
  cases e : ns[i]? with
  | none => rw [e] at h; cases h
  | some z => rw [e] at h; exact ⟨z, rfl, (Option.some.inj h).symm⟩
theorem size_ok {n : Nat} (h : n ≤ 16777216) : n ≤ sizeLine := by rw [sizeLine_eq]; exact h
theorem size_lt {n : Nat} (h : n < 16777216) : n < sizeLine := by rw [sizeLine_eq]; exact h
end Vb
namespace Vb
open PySem PySem.Spec PyProof.Rows L2
/-! ### data -/
mutual
theorem dp_same {K : PySem.W.Frag} {H H' : Hp} (e : Same H H') : ∀ (d : PyData) (v : V), Dp K H v d → Dp K H' v d
  | .none, _, h => by cases h; exact .non
  | .bool b, _, h => by cases h; exact .bl b
  | .int i, _, h => by cases h; exact .int i
  | .str x, _, h => by cases h; exact .str x
  | .list ds, _, h => by
    cases h with
    | lst hs ha => exact .lst (e.seq hs) (dpa_same e ds _ ha)
  | .tuple ds, _, h => by
    cases h with
    | tup hs ha =>
      refine .tup ?_ (dpa_same e ds _ ha)
      rcases hs with (h | ⟨o, h⟩) | h
      · exact .inl (.inl (e _ _ h))
      · exact .inl (.inr ⟨o, e _ _ h⟩)
      · exact .inr h
  | .dict _, _, h => by cases h
theorem dpa_same {K : PySem.W.Frag} {H H' : Hp} (e : Same H H') : ∀ (ds : List PyData) (vs : List V), DpAll K H vs ds → DpAll K H' vs ds
  | [], _, h => by cases h; exact .nil
  | d :: ds, _, h => by
    cases h with
    | cons h1 h2 => exact .cons (dp_same e d _ h1) (dpa_same e ds _ h2)
end
theorem same_sqt {K : PySem.W.Frag} {H H' : Hp} {a : Addr} {xs : List V} (e : Same H H') (h : SqT K H a xs) : SqT K H' a xs := by
  rcases h with (h | ⟨o, h⟩) | h
  · exact .inl (.inl (e _ _ h))
  · exact .inl (.inr ⟨o, e _ _ h⟩)
  · exact .inr h
theorem dpa_len {K : PySem.W.Frag} {H : Hp} : ∀ {ds : List PyData} {vs : List V}, DpAll K H vs ds → vs.length = ds.length
  | [], _, h => by cases h; rfl
  | d :: ds, _, h => by
    cases h with
    | cons h1 h2 => rw [List.length_cons, List.length_cons, dpa_len h2]
theorem dpa_get {K : PySem.W.Frag} {H : Hp} : ∀ {ds : List PyData} {vs : List V} {i : Nat} {v : V}, DpAll K H vs ds → vs[i]? = some v → ∃ d, ds[i]? = some d ∧ Dp K H v d
  | [], _, i, v, h, e => by cases h; simp at e
  | d :: ds, _, 0, v, h, e => by
    cases h with
    | cons h1 h2 =>
      cases (Option.some.inj e)
      exact ⟨d, rfl, h1⟩
  | d :: ds, _, i + 1, v, h, e => by
    cases h with
    | cons h1 h2 =>
      obtain ⟨x, a, b⟩ := dpa_get (i := i) h2 (by simpa using e)
      exact ⟨x, by simpa using a, b⟩
theorem dpa_at {K : PySem.W.Frag} {H : Hp} : ∀ {ds : List PyData} {vs : List V} {i : Nat} {d : PyData}, DpAll K H vs ds → ds[i]? = some d → ∃ v, vs[i]? = some v ∧ Dp K H v d
  | [], _, i, d, h, e => by simp at e
  | x :: ds, _, 0, d, h, e => by
    cases h with
    | @cons v vs _ _ h1 h2 =>
      cases (Option.some.inj e)
      exact ⟨v, rfl, h1⟩
  | x :: ds, _, i + 1, d, h, e => by
    cases h with
    | cons h1 h2 =>
      obtain ⟨v, a, b⟩ := dpa_at (i := i) h2 (by simpa using e)
      exact ⟨v, by simpa using a, b⟩
theorem dpa_app {K : PySem.W.Frag} {H : Hp} : ∀ {ds es : List PyData} {vs us : List V}, DpAll K H vs ds → DpAll K H us es → DpAll K H (vs ++ us) (ds ++ es)
  | [], _, _, _, h, g => by cases h; exact g
  | d :: ds, es, _, us, h, g => by
    cases h with
    | cons h1 h2 => exact .cons h1 (dpa_app h2 g)
/-- ints as data -/
theorem dpa_ints {K : PySem.W.Frag} {H : Hp} : ∀ ns : List Int, DpAll K H (ns.map V.int) (ns.map PyData.int)
  | [] => .nil
  | n :: ns => .cons (.int n) (dpa_ints ns)
theorem dp_ints {K : PySem.W.Frag} {H : Hp} {a : Addr} {ns : List Int} (h : SqL K H a (ns.map V.int)) : Dp K H (.ref a) (.list (ns.map PyData.int)) := .lst h (dpa_ints ns)
/-- nested less than n deep, no list too long, no dicts -/
def DOk : Nat → PyData → Prop
  | 0, _ => False
  | n + 1, .list ds => ds.length ≤ 1000000 ∧ ∀ d ∈ ds, DOk n d
  | n + 1, .tuple ds => ds.length ≤ 1000000 ∧ ∀ d ∈ ds, DOk n d
  | _ + 1, .dict _ => False
  | _ + 1, _ => True
theorem dok_up : ∀ (n : Nat) (d : PyData), DOk n d → DOk (n + 1) d
  | 0, _, h => h.elim
  | n + 1, .list ds, h => ⟨h.1, fun d m => dok_up n d (h.2 d m)⟩
  | n + 1, .tuple ds, h => ⟨h.1, fun d m => dok_up n d (h.2 d m)⟩
  | n + 1, .dict _, h => h
  | n + 1, .none, _ => trivial
  | n + 1, .bool _, _ => trivial
  | n + 1, .int _, _ => trivial
  | n + 1, .str _, _ => trivial
theorem dok_ints {n : Nat} {ns : List Int} (h : ns.length ≤ 1000000) : DOk (n + 2) (.list (ns.map PyData.int)) := ⟨by rw [List.length_map]; exact h, fun d m => by
  obtain ⟨z, _, rfl⟩ := List.mem_map.mp m
  trivial⟩
/-- the type of a piece of data -/
def tyN : PyData → String
  | .none => "NoneType"
  | .bool _ => "bool"
  | .int _ => "int"
  | .str _ => "str"
  | .list _ => "list"
  | .tuple _ => "tuple"
  | .dict _ => "dict"
theorem dp_ty {K : PySem.W.Frag} {H : Hp} {v : V} {d : PyData} (h : Dp K H v d) : TyX K H v (.type (tyN d)) := by
  cases h with
  | non => exact .base .non
  | bl b => exact .base (.bl b)
  | int i => exact .base (.int i)
  | str x => exact .base (.str x)
  | lst hs _ =>
    rcases hs with (h | ⟨o, h⟩) | h
    · exact .base (.lst h)
    · exact .base (.frz h)
    · obtain ⟨o, its, n, h, c, _⟩ := h
      exact .kList h c
  | tup hs _ =>
    rcases hs with (h | ⟨o, h⟩) | h
    · exact .base (.tup h)
    · exact .fTuple h
    · obtain ⟨o, its, n, h, c, _⟩ := h
      exact .kTuple h c
def isB : PyData → Bool | .bool _ => true | _ => false
def isI : PyData → Bool | .bool _ => true | .int _ => true | _ => false
def isS : PyData → Bool | .str _ => true | _ => false
def isL : PyData → Bool | .list _ => true | _ => false
def isT : PyData → Bool | .tuple _ => true | _ => false
theorem r_isi {K : PySem.W.Frag} {H : Hp} {v : V} {d : PyData} {Q : VK} {n : String} {b : Bool} (h : Dp K H v d) (e : kitB (tyN d) n = some b) (q : Q (.bl b) H) : rIsi K [v, .ty n] H Q := ⟨v, .ty n, _, _, b, rfl, .ty n, dp_ty h, kit_ty e, q⟩
theorem r_isB {K : PySem.W.Frag} {H : Hp} {v : V} {d : PyData} {Q : VK} {b : Bool} (h : Dp K H v d) (e : isB d = b) (q : Q (.bl b) H) : rIsi K [v, .ty "bool"] H Q := r_isi h (by subst e; cases h <;> (simp only [tyN, isB]; decide +kernel)) q
theorem r_isI {K : PySem.W.Frag} {H : Hp} {v : V} {d : PyData} {Q : VK} {b : Bool} (h : Dp K H v d) (e : isI d = b) (q : Q (.bl b) H) : rIsi K [v, .ty "int"] H Q := r_isi h (by subst e; cases h <;> (simp only [tyN, isI]; decide +kernel)) q
theorem r_isS {K : PySem.W.Frag} {H : Hp} {v : V} {d : PyData} {Q : VK} {b : Bool} (h : Dp K H v d) (e : isS d = b) (q : Q (.bl b) H) : rIsi K [v, .ty "str"] H Q := r_isi h (by subst e; cases h <;> (simp only [tyN, isS]; decide +kernel)) q
theorem r_isL {K : PySem.W.Frag} {H : Hp} {v : V} {d : PyData} {Q : VK} {b : Bool} (h : Dp K H v d) (e : isL d = b) (q : Q (.bl b) H) : rIsi K [v, .ty "list"] H Q := r_isi h (by subst e; cases h <;> (simp only [tyN, isL]; decide +kernel)) q
theorem r_isT {K : PySem.W.Frag} {H : Hp} {v : V} {d : PyData} {Q : VK} {b : Bool} (h : Dp K H v d) (e : isT d = b) (q : Q (.bl b) H) : rIsi K [v, .ty "tuple"] H Q := r_isi h (by subst e; cases h <;> (simp only [tyN, isT]; decide +kernel)) q
theorem not_non {K : PySem.W.Frag} {H : Hp} {v : V} {d : PyData} (h : Dp K H v d) (hd : d ≠ .none) : ¬ v = .non := by
  cases h with
  | non => exact absurd rfl hd
  | _ => exact fun c => nomatch c
theorem is_non {K : PySem.W.Frag} {H : Hp} {v : V} (h : Dp K H v .none) : v = .non := by
  cases h
  rfl
/-! ### all but some objects -/
def offs (Z : List Addr) (H : Hp) : Hp := fun b => if b ∈ Z then none else H b
theorem offs_of {Z : List Addr} {H : Hp} {b : Addr} {o : HO} (n : b ∉ Z) (h : H b = some o) : offs Z H b = some o := by
  unfold offs
  rw [if_neg n]
  exact h
theorem offs_some {Z : List Addr} {H : Hp} {b : Addr} {o : HO} (h : offs Z H b = some o) : b ∉ Z ∧ H b = some o := by
  unfold offs at h
  split at h
  · cases h
  · exact ⟨‹_›, h⟩
theorem offs_sub {Z : List Addr} {H : Hp} : Same (offs Z H) H := fun _ _ h => (offs_some h).2
theorem offs_nil {H : Hp} : Same H (offs [] H) := fun _ _ h => offs_of (by simp) h
theorem offs_same {Z : List Addr} {H H' : Hp} (e : Same H H') : Same (offs Z H) (offs Z H') := fun _ _ h => offs_of (offs_some h).1 (e _ _ (offs_some h).2)
theorem offs_more {Z : List Addr} {H : Hp} {D : Addr} : Same (offs (D :: Z) H) (offs Z H) := fun _ _ h => offs_of (fun m => (offs_some h).1 (List.mem_cons_of_mem _ m)) (offs_some h).2
theorem offs_new {Z : List Addr} {H : Hp} {D : Addr} (n : H D = none) : Same (offs Z H) (offs (D :: Z) H) := fun b o h => by
  have ⟨h1, h2⟩ := offs_some h
  refine offs_of (fun m => ?_) h2
  rcases List.mem_cons.mp m with e | m
  · rw [e, n] at h2; cases h2
  · exact h1 m
theorem offs_upd {Z : List Addr} {H : Hp} {D : Addr} {o : HO} : Same (offs (D :: Z) H) (offs (D :: Z) (upd H D o)) := fun b u h => by
  have ⟨h1, h2⟩ := offs_some h
  exact offs_of h1 (h_ne (fun e => h1 (by rw [e]; exact List.mem_cons_self)) h2)
theorem offs_fr {Z : List Addr} {st : Addr} {H H' : Hp} (e : Fr st H H') (m : st ∈ Z) : Same (offs Z H) (offs Z H') := fun b o h => by
  have ⟨h1, h2⟩ := offs_some h
  exact offs_of h1 (e.k b o (fun z => h1 (by rw [z]; exact m)) h2)
/-- all of Z is tracked -/
def Trk (Z : List Addr) (H : Hp) : Prop := ∀ z ∈ Z, ∃ o, H z = some o
theorem Trk.same {Z : List Addr} {H H' : Hp} (t : Trk Z H) (e : Same H H') : Trk Z H' := fun z m => by
  obtain ⟨o, h⟩ := t z m
  exact ⟨o, e _ _ h⟩
theorem Trk.new {Z : List Addr} {H : Hp} {D : Addr} (t : Trk Z H) (n : H D = none) : D ∉ Z := fun m => by
  obtain ⟨o, h⟩ := t D m
  rw [n] at h
  cases h
theorem Trk.nil {H : Hp} : Trk [] H := fun _ m => by cases m
theorem Trk.one {H : Hp} {a : Addr} {o : HO} (h : H a = some o) : Trk [a] H := fun z m => by
  cases List.mem_singleton.mp m
  exact ⟨o, h⟩
theorem dp_off {K : PySem.W.Frag} {Z : List Addr} {H : Hp} {v : V} {d : PyData} (h : Dp K (offs Z H) v d) : Dp K H v d := dp_same offs_sub _ _ h
theorem dp_lst {K : PySem.W.Frag} {H : Hp} {a : Addr} {xs : List V} {ds : List PyData} (h : H a = some (.lst xs)) (g : DpAll K H xs ds) : Dp K H (.ref a) (.list ds) := .lst (sq_of h) g
theorem dp_tup {K : PySem.W.Frag} {H : Hp} {a : Addr} {xs : List V} {ds : List PyData} (h : H a = some (.tup xs)) (g : DpAll K H xs ds) : Dp K H (.ref a) (.tuple ds) := .tup (st_of h) g
end Vb
namespace Vb
open PySem PySem.Spec PyProof.Rows L2
/-! ### range(a, b) of any size that has no turn -/
theorem turn_none {P : Program} {w : World} {K : PySem.W.Frag} {tg : Expr} (it : Addr) (lo : Int) : Turn P w K tg (Itr lo 0) [it] it (fun _ h => ∃ x left step, left ≤ 0 ∧ IsLongIter h it x left step) where
  mem := List.mem_singleton.mpr rfl
  obj := fun i h ⟨x, l, c, _, st⟩ b hb => by
    cases List.mem_singleton.mp hb
    exact ⟨_, st, fun v z => by cases (show Data.fields _ = Data.cell v from z)⟩
  keep := fun i h h' ⟨x, l, c, hl, st⟩ k => ⟨x, l, c, hl, k it (List.mem_singleton.mpr rfl) _ st⟩
  item := fun X _ _ _ _ i pins s σ H E _ _ _ hg => absurd (show i < 0 from hg) (Nat.not_lt_zero i)
  done := by
    intro X hP hw hK hc i pins s σ H E I hf st _
    obtain ⟨x, l, c, hl, st⟩ := st
    subst hP hw hK
    have q := hf it (List.mem_singleton.mpr rfl)
    exact wpAny_pyNext_long_end (I.ok.hd hc) st hl fun h' eb => ⟨rfl, I.turned (t' := s.toks) (fun b o hb e => eb b o hb e) q.1 q.2.1 q.2.2.2.1 q.2.2.2.2.1 q.2.2.2.2.2⟩
  self := fun _ _ _ _ _ ⟨_, _, _, _, st⟩ h => wpAny_pyIter_longiter st h
def iRngW (ta : TA) : TI := fun σ H R => ta σ H fun vs H1 => ∃ i j : Int, vs = [.int i, .int j] ∧ ((-(2 ^ 62) ≤ i ∧ i < 2 ^ 62 ∧ -(2 ^ 62) ≤ j ∧ j < 2 ^ 62) ∨ j ≤ i) ∧ R (Itr i (j - i).toNat) H1
section
variable {X : Cx} {tg : Expr}
theorem range_none {pins : List (Addr × Obj)} {σ : L2.St} {H : Hp} {s : Shared} {R : It → Hp → Prop} {E : Value → Shared → Prop} {lo hi : Int} {t u v : Tok} {tk : Nat} (I : Inv X pins σ H s) (hle : hi ≤ lo) (hs : Builtin.Range.small lo hi 1 = false)
    (q : R (Itr lo 0) H) : wpAny (model X.prog X.w) X.A (pyIter (.ref s.heap.objs.size)) (PIE X pins σ tg R) E { s with heap := s.heap.push { cls := .type "range", data := .fields #[.int lo t, .int hi u, .int 1 v] }, toks := tk } := by
  refine wpAny_pyIter_longrange (IsRange.new ..) hs ?_
  have I1 : Inv X pins σ H { s with heap := s.heap.push { cls := .type "range", data := .fields #[.int lo t, .int hi u, .int 1 v] }, toks := tk } := I.kept fun b o e => Heap.get?_push_of_some _ e
  have z : Builtin.Range.rangeSize lo hi 1 ≤ 0 := by rw [rangeSize_one, if_neg (by omega)]; exact Int.le_refl 0
  refine ⟨_, [_], _, Itr lo 0, H, rfl, I1.kept (t' := tk) fun b o e => Heap.get?_push_of_some _ e, turn_none _ lo, ⟨_, _, _, z, Heap.get?_push_size _ rfl⟩, fun b hb => ?_, q⟩
  cases List.mem_singleton.mp hb
  exact I1.fpOk (Nat.le_refl _) (I1.hok.fresh (Nat.le_refl _))
theorem pi_rangeW {a b : Expr} {ta : TA} {p pos : Pos} (hg : Gl X "range") (hm : X.mg "range" = none) (ha : PA X [a, b] ta) (hs : starEach [a, b] X.env = [(false, eval a X.env), (false, eval b X.env)] := by rfl) (hs2 : starEach [b] X.env = [(false, eval b X.env)] := by rfl) :
    PI X tg (.Call (.Name "range" p) [a, b] [] pos) (iRngW ta) := by
  refine ⟨fun pins s σ H R I h => ?_⟩
  refine Call_ (ld_blt I hg hm boot_range (PyProof.Rows.callWith_type1 (thn (ha.run pos pins s σ H _ I h) fun us s1 hh => ?_) (by rw [hs, hs2]) (by rw [hs2]; rfl)))
  obtain ⟨vs, H1, I1, r1, i, j, ev, hb, q⟩ := hh
  subst ev
  obtain ⟨u1, u2, rfl, ⟨t1, rfl⟩, ⟨t2, rfl⟩⟩ := vals2 r1
  refine call_range_2 ?_
  rcases hb with hb | hb
  · exact range_it I1 hb.1 hb.2.1 hb.2.2.1 hb.2.2.2 q
  · have e : (j - i).toNat = 0 := by omega
    rw [e] at q
    cases hsm : Builtin.Range.small i j 1 with
    | false => exact range_none I1 hb hsm q
    | true =>
      refine wpAny_pyIter_range (IsRange.new ..) hsm ?_
      have I2 := I1.kept (h' := s1.heap.push { cls := .type "range", data := .fields #[.int i t1, .int j t2, .int 1 s1.toks] }) (t' := s1.toks + 1) fun b o e => Heap.get?_push_of_some _ e
      have z : Builtin.Range.rangeSize i j 1 = 0 := by rw [rangeSize_one, if_neg (by omega)]
      refine ⟨_, [_], _, Itr i 0, H1, rfl, I2.kept fun b o e => Heap.get?_push_of_some _ e, turn_range _ i 0, ?_, fun b hb => ?_, q⟩
      · show IsRangeIter _ _ (i + ((0 : Nat) : Int) * 1) (((0 : Nat) : Int) - ((0 : Nat) : Int)) 1
        rw [show i + ((0 : Nat) : Int) * 1 = i by omega, show ((0 : Nat) : Int) - ((0 : Nat) : Int) = Builtin.Range.rangeSize i j 1 by omega]
        exact Heap.get?_push_size _ rfl
      · cases List.mem_singleton.mp hb
        exact I2.fpOk (Nat.le_refl _) (I2.hok.fresh (Nat.le_refl _))
end
section
variable {K : PySem.W.Frag} {σ : L2.St} {H : Hp} {te : TE} {ts : TS} {nx : L2.St → Hp → Prop} {rt : VK}
theorem r_rngW {ta : TA} {R : It → Hp → Prop} (h : ta σ H fun vs H1 => ∃ i j : Int, vs = [.int i, .int j] ∧ ((-(2 ^ 62) ≤ i ∧ i < 2 ^ 62 ∧ -(2 ^ 62) ≤ j ∧ j < 2 ^ 62) ∨ j ≤ i) ∧ R (Itr i (j - i).toNat) H1) : iRngW ta σ H R := h
theorem f_rngW {lo hi : Int} {g : TG} (b : (-(2 ^ 62) ≤ lo ∧ lo < 2 ^ 62 ∧ -(2 ^ 62) ≤ hi ∧ hi < 2 ^ 62) ∨ hi ≤ lo) (q : ForW (Itr lo (hi - lo).toNat) g ts nx rt σ H) : ∃ i j : Int, [V.int lo, V.int hi] = [.int i, .int j] ∧ ((-(2 ^ 62) ≤ i ∧ i < 2 ^ 62 ∧ -(2 ^ 62) ≤ j ∧ j < 2 ^ 62) ∨ j ≤ i) ∧ ForW (Itr i (j - i).toNat) g ts nx rt σ H := ⟨lo, hi, rfl, b, q⟩
theorem c_rngW {lo hi : Int} {g : TG} {tt : TT} {vs : List Nat} {σ' : L2.St} {Q' : Addr → Hp → Prop} (b : (-(2 ^ 62) ≤ lo ∧ lo < 2 ^ 62 ∧ -(2 ^ 62) ≤ hi ∧ hi < 2 ^ 62) ∨ hi ≤ lo) (q : ∀ D, H D = none → LcW (Itr lo (hi - lo).toNat) g tt te vs σ' H D (Q' D)) : ∃ i j : Int, [V.int lo, V.int hi] = [.int i, .int j] ∧ ((-(2 ^ 62) ≤ i ∧ i < 2 ^ 62 ∧ -(2 ^ 62) ≤ j ∧ j < 2 ^ 62) ∨ j ≤ i) ∧ ∀ D, H D = none → LcW (Itr i (j - i).toNat) g tt te vs σ' H D (Q' D) := ⟨lo, hi, rfl, b, q⟩
end
/-! ### primes -/
def isP (n : Int) : Bool := decide (2 ≤ n) && (List.range n.toNat).all fun d => decide (d < 2) || decide (n % (d : Int) ≠ 0)
def Prm (n : Int) : Prop := 2 ≤ n ∧ ∀ d : Int, 2 ≤ d → d < n → n % d ≠ 0
theorem isP_iff (n : Int) : isP n = true ↔ Prm n := by
  unfold isP Prm
  rw [Bool.and_eq_true, decide_eq_true_eq, List.all_eq_true]
  refine ⟨fun ⟨h1, h2⟩ => ⟨h1, fun d a b => ?_⟩, fun ⟨h1, h2⟩ => ⟨h1, fun d m => ?_⟩⟩
  · have z := h2 d.toNat (List.mem_range.mpr (by omega))
    rw [Bool.or_eq_true, decide_eq_true_eq, decide_eq_true_eq] at z
    rcases z with z | z
    · omega
    · rwa [show ((d.toNat : Nat) : Int) = d by omega] at z
  · have m := List.mem_range.mp m
    rw [Bool.or_eq_true, decide_eq_true_eq, decide_eq_true_eq]
    by_cases c : d < 2
    · exact .inl c
    · exact .inr (h2 d (by omega) (by omega))
/-- no divisor up to the root: none at all -/
theorem prm_root {n D : Int} (h2 : 2 ≤ n) (hD : 2 ≤ D) (hs : n < D * D) (h : ∀ d : Int, 2 ≤ d → d < D → n % d ≠ 0) : Prm n := by
  refine ⟨h2, fun d a b z => ?_⟩
  have hd : d * (n / d) = n := Int.mul_ediv_cancel' (Int.dvd_of_emod_eq_zero z)
  by_cases c : d < D
  · exact h d a c z
  · have e1 : n / d < D := by
      by_cases c2 : n / d < D
      · exact c2
      · exact absurd (Int.mul_le_mul (show D ≤ d by omega) (show D ≤ n / d by omega) (by omega) (by omega)) (by omega)
    have e2 : 2 ≤ n / d := by
      have p : 1 ≤ n / d := by
        by_cases c3 : n / d ≤ 0
        · have := Int.mul_nonpos_of_nonneg_of_nonpos (show 0 ≤ d by omega) c3
          omega
        · omega
      by_cases c4 : n / d = 1
      · rw [c4] at hd; omega
      · omega
    refine h (n / d) e2 e1 ?_
    have e3 : n % (n / d) = 0 := by
      have : (d * (n / d)) % (n / d) = 0 := Int.mul_emod_left ..
      rwa [hd] at this
    exact e3
theorem not_prm {n d : Int} (h2 : 2 ≤ d) (h : d < n) (z : n % d = 0) : ¬ Prm n := fun p => p.2 d h2 h z
/-- the primes up to a limit -/
def upto (n : Int) : List Int := ((List.range (n + 1).toNat).map Int.ofNat).filter isP
theorem mem_upto {n p : Int} : p ∈ upto n ↔ Prm p ∧ p ≤ n := by
  unfold upto
  rw [List.mem_filter, isP_iff, List.mem_map]
  refine ⟨fun ⟨⟨k, m, e⟩, q⟩ => ⟨q, ?_⟩, fun ⟨q, l⟩ => ⟨⟨p.toNat, ?_, ?_⟩, q⟩⟩
  · have := List.mem_range.mp m
    have e' : (k : Int) = p := e
    omega
  · exact List.mem_range.mpr (by have := q.1; omega)
  · show ((p.toNat : Nat) : Int) = p
    have := q.1
    omega
theorem upto_low {n : Int} (h : n < 2) : upto n = [] := by
  refine List.eq_nil_iff_forall_not_mem.mpr fun p m => ?_
  obtain ⟨q, l⟩ := mem_upto.mp m
  have := q.1
  omega
theorem upto_next {n : Int} (h : 0 ≤ n + 1) : upto (n + 1) = upto n ++ (if isP (n + 1) then [n + 1] else []) := by
  unfold upto
  rw [show (n + 1 + 1).toNat = (n + 1).toNat + 1 by omega, List.range_succ, List.map_append, List.filter_append]
  congr 1
  rw [List.map_cons, List.map_nil, show Int.ofNat (n + 1).toNat = n + 1 by show (((n + 1).toNat : Nat) : Int) = n + 1; omega]
  rw [List.filter_cons, List.filter_nil]
theorem upto_len {n : Int} : (upto n).length ≤ (n + 1).toNat := by
  unfold upto
  refine Nat.le_trans (List.length_filter_le _ _) ?_
  rw [List.length_map, List.length_range]
  exact Nat.le_refl _
end Vb
namespace Vb
open PySem PySem.Spec PyProof.Rows L2
theorem least_prime : ∀ (k : Nat) (n d : Int), d.toNat ≤ k → 2 ≤ d → n % d = 0 → ∃ q, Prm q ∧ q ≤ d ∧ n % q = 0
  | 0, n, d, h, h2, _ => by omega
  | k + 1, n, d, h, h2, z => by
    by_cases p : Prm d
    · exact ⟨d, p, Int.le_refl _, z⟩
    · have ⟨e, e1, e2, e3⟩ : ∃ e : Int, 2 ≤ e ∧ e < d ∧ d % e = 0 := by
        refine Classical.byContradiction fun c => p ⟨h2, fun e a b y => c ⟨e, a, b, y⟩⟩
      have z2 : n % e = 0 := Int.emod_eq_zero_of_dvd (Int.dvd_trans (Int.dvd_of_emod_eq_zero e3) (Int.dvd_of_emod_eq_zero z))
      obtain ⟨q, a, b, c⟩ := least_prime k n e (by omega) e1 z2
      exact ⟨q, a, by omega, c⟩
/-- a number that no smaller prime divides is one -/
theorem prm_of {n : Int} (h2 : 2 ≤ n) (h : ∀ q, Prm q → q < n → n % q ≠ 0) : Prm n := ⟨h2, fun d a b z => by
  obtain ⟨q, p, l, y⟩ := least_prime d.toNat n d (Nat.le_refl _) a z
  exact h q p (by omega) y⟩
theorem upto_sorted (n : Int) : (upto n).Pairwise (· < ·) := by
  unfold upto
  refine List.Pairwise.filter _ (List.pairwise_map.mpr ?_)
  refine List.Pairwise.imp (fun {a b} h => ?_) List.pairwise_lt_range
  show (a : Int) < (b : Int)
  omega
theorem sorted_ahead : ∀ {xs : List Int} {j : Nat} {p q : Int}, xs.Pairwise (· < ·) → xs[j]? = some p → q ∈ xs → q < p → ∃ k, k < j ∧ xs[k]? = some q
  | [], j, p, q, _, _, m, _ => by cases m
  | x :: xs, 0, p, q, s, e, m, l => by
    cases (Option.some.inj e)
    rcases List.mem_cons.mp m with rfl | m
    · omega
    · have := (List.pairwise_cons.mp s).1 q m
      omega
  | x :: xs, j + 1, p, q, s, e, m, l => by
    rcases List.mem_cons.mp m with rfl | m
    · exact ⟨0, by omega, rfl⟩
    · obtain ⟨k, a, b⟩ := sorted_ahead (List.pairwise_cons.mp s).2 (by simpa using e) m l
      exact ⟨k + 1, by omega, by simpa using b⟩
theorem rgc_pos {i j c : Int} (hc : 0 < c) (hc2 : c < 1073741824) (hi : -1000000000 ≤ i ∧ i ≤ 1000000000) (hj : -1000000000 ≤ j ∧ j ≤ 1000000000) : RgC i j c (Builtin.Range.rangeSize i j c).toNat := by
  have hr : Builtin.Range.rangeSize i j c = if i < j then (j - i - 1) / c + 1 else 0 := by
    unfold Builtin.Range.rangeSize
    rw [if_pos (by omega)]
  have h0 : 0 ≤ Builtin.Range.rangeSize i j c := by
    rw [hr]
    split
    · have := Int.ediv_nonneg (show 0 ≤ j - i - 1 by omega) (show 0 ≤ c by omega)
      omega
    · omega
  have h1 : Builtin.Range.rangeSize i j c ≤ 2000000001 := by
    rw [hr]
    split
    · have := Int.ediv_le_self c (show 0 ≤ j - i - 1 by omega)
      omega
    · omega
  refine ⟨by omega, by omega, ?_, by omega⟩
  unfold Builtin.Range.small
  simp only [Builtin.Range.rangeFitsLong, Bool.and_eq_true, Bool.or_eq_true, decide_eq_true_eq, beq_iff_eq, hc, if_true]
  exact ⟨⟨⟨⟨⟨by omega, by omega⟩, by omega, by omega⟩, by omega, by omega⟩, by omega, by omega⟩, .inr ⟨by omega, by omega⟩⟩
section
variable {K : PySem.W.Frag} {σ : L2.St} {H : Hp} {Q : VK} {te ta tb : TE} {ts tu : TS} {nx bk ct : L2.St → Hp → Prop} {rt : VK}
/-- what stands behind ts is shown once, from Mid -/
theorem r_cut (Mid : L2.St → Hp → Prop) (h : ts (Ends.mk Mid rt bk ct) σ H) (k : ∀ σ' H', Mid σ' H' → tu (Ends.mk nx rt bk ct) σ' H') : Evl.tCut ts tu (Ends.mk nx rt bk ct) σ H := ⟨Mid, h, k⟩
theorem r_eqB {a b : Bool} (q : Q (.bl (a == b)) H) : rEq (.bl a) (.bl b) H Q := ⟨rfl, by
  have e : decide (V.bl a = V.bl b) = (a == b) := by cases a <;> cases b <;> rfl
  rw [e]
  exact q⟩
theorem r_eqBs {a : Bool} (q : Q (.bl true) H) : rEq (.bl a) (.bl a) H Q := r_eqB (by rw [beq_self_eq_true]; exact q)
theorem r_neB {a b : Bool} (q : Q (.bl (!(a == b))) H) : rNe (.bl a) (.bl b) H Q := ⟨rfl, by
  have e : decide (V.bl a = V.bl b) = (a == b) := by cases a <;> cases b <;> rfl
  rw [e]
  exact q⟩
theorem r_eqS {a b : Str} (q : Q (.bl (decide (a = b))) H) : rEq (.str a) (.str b) H Q := ⟨rfl, by
  have e : decide (V.str a = V.str b) = decide (a = b) := by
    by_cases h : a = b
    · rw [decide_eq_true h, decide_eq_true (congrArg V.str h)]
    · rw [decide_eq_false h, decide_eq_false (fun z => h (V.str.inj z))]
  rw [e]
  exact q⟩
theorem r_neS {a b : Str} (q : Q (.bl (!decide (a = b))) H) : rNe (.str a) (.str b) H Q := ⟨rfl, by
  have e : decide (V.str a = V.str b) = decide (a = b) := by
    by_cases h : a = b
    · rw [decide_eq_true h, decide_eq_true (congrArg V.str h)]
    · rw [decide_eq_false h, decide_eq_false (fun z => h (V.str.inj z))]
  rw [e]
  exact q⟩
theorem r_revL (h : te σ H fun x H1 => ∃ a xs, x = .ref a ∧ SqL K H1 a xs ∧ ∀ p, H1 p = none → Q (.ref p) (upd H1 p (.lst xs.reverse))) : tRevL K te σ H Q := h
theorem r_revv {a : Addr} {xs : List V} {R : Addr → Hp → Prop} (h : SqL K H a xs) (q : ∀ p, H p = none → R p (upd H p (.lst xs.reverse))) : ∃ b ys, V.ref a = .ref b ∧ SqL K H b ys ∧ ∀ p, H p = none → R p (upd H p (.lst ys.reverse)) := ⟨a, xs, rfl, h, q⟩
theorem r_sl {r : V → Option Int → Option Int → Hp → VK → Prop} {tl th : TO} (h : te σ H fun x H1 => tl σ H1 fun l H2 => th σ H2 fun u H3 => r x l u H3 Q) : tSl r te tl th σ H Q := h
theorem r_noP {QO : Option Int → Hp → Prop} (h : QO none H) : tNoPart σ H QO := h
theorem r_part {QO : Option Int → Hp → Prop} (h : te σ H fun x H1 => ∃ i, x = .int i ∧ QO (some i) H1) : tPart te σ H QO := h
theorem r_partv {i : Int} {R : Option Int → Hp → Prop} (h : R (some i) H) : ∃ j, V.int i = .int j ∧ R (some j) H := ⟨i, rfl, h⟩
theorem r_slL {a : Addr} {xs : List V} {lo hi : Option Int} (h : SqL K H a xs) (q : ∀ p, H p = none → Q (.ref p) (upd H p (.lst (cutV xs lo hi)))) : rSlL K (.ref a) lo hi H Q := ⟨a, xs, rfl, h, q⟩
theorem r_rep {a : Addr} {xs : List V} {k : Int} (h : H a = some (.lst xs)) (b1 : -(2 ^ 63) ≤ k) (b2 : k < 2 ^ 63) (b3 : xs.length * k.toNat ≤ sizeLine) (q : ∀ p, H p = none → Q (.ref p) (upd H p (.lst ((List.replicate k.toNat xs).flatten)))) : rRep (.ref a) (.int k) H Q := by
  refine ⟨a, k, xs, rfl, rfl, h, b1, b2, b3, ?_⟩
  exact q
end
theorem ix_of {n : Nat} {z : Int} (j : Nat) (e : z = (j : Int)) (h : j < n) : ixN n z = some j := by
  subst e
  unfold ixN
  rw [if_pos (Int.natCast_nonneg j), if_pos (by omega)]
  rfl
theorem rs_lt {i j c : Int} (hc : 0 < c) {k : Nat} (h : k < (Builtin.Range.rangeSize i j c).toNat) : i + (k : Int) * c < j := by
  unfold Builtin.Range.rangeSize at h
  rw [if_pos (by omega)] at h
  split at h
  · have h1 : (k : Int) ≤ (j - i - 1) / c := by omega
    have h2 := (Int.le_ediv_iff_mul_le hc).mp h1
    omega
  · exact absurd h (Nat.not_lt_zero k)
theorem rs_end {i j c : Int} (hc : 0 < c) : j ≤ i + ((Builtin.Range.rangeSize i j c).toNat : Int) * c := by
  unfold Builtin.Range.rangeSize
  rw [if_pos (by omega)]
  split
  · have h0 := Int.ediv_nonneg (show 0 ≤ j - i - 1 by omega) (show 0 ≤ c by omega)
    have h1 : ((((j - i - 1) / c + 1).toNat : Nat) : Int) = (j - i - 1) / c + 1 := by omega
    rw [h1, Int.add_mul, Int.one_mul]
    have h2 := Int.lt_ediv_add_one_mul_self (j - i - 1) hc
    rw [Int.add_mul, Int.one_mul] at h2
    omega
  · show j ≤ i + ((0 : Nat) : Int) * c
    omega
/-- a row of marks -/
def marks (N : Nat) (f : Nat → Bool) : List V := (List.range N).map fun m => V.bl (f m)
theorem marks_len (N : Nat) (f : Nat → Bool) : (marks N f).length = N := by
  unfold marks
  rw [List.length_map, List.length_range]
theorem marks_get {N : Nat} {f : Nat → Bool} {j : Nat} (h : j < N) : (marks N f)[j]? = some (.bl (f j)) := by
  unfold marks
  rw [List.getElem?_map, List.getElem?_range h]
  rfl
theorem marks_set {N : Nat} {f : Nat → Bool} {j : Nat} {b : Bool} : (marks N f).set j (.bl b) = marks N (fun m => if m = j then b else f m) := by
  refine List.ext_getElem? fun k => ?_
  by_cases hk : k < N
  · by_cases e : k = j
    · subst e
      rw [List.getElem?_set_self (by rw [marks_len]; exact hk), marks_get hk, if_pos rfl]
    · rw [List.getElem?_set_ne (Ne.symm e), marks_get hk, marks_get hk, if_neg e]
  · rw [List.getElem?_eq_none (by rw [List.length_set, marks_len]; omega), List.getElem?_eq_none (by rw [marks_len]; omega)]
theorem marks_rep (k : Nat) (b : Bool) : (List.replicate k [V.bl b]).flatten = marks k (fun _ => b) := by
  refine List.ext_getElem? fun j => ?_
  have e : (List.replicate k [V.bl b]).flatten = List.replicate k (V.bl b) := by
    induction k with
    | zero => rfl
    | succ k ih => rw [List.replicate_succ, List.flatten_cons, ih]; rfl
  rw [e]
  by_cases hk : j < k
  · rw [List.getElem?_replicate, if_pos hk, marks_get hk]
  · rw [List.getElem?_eq_none (by rw [List.length_replicate]; omega), List.getElem?_eq_none (by rw [marks_len]; omega)]
theorem mul_up {m n : Int} (hn : 0 < n) (h : n < m) (z : m % n = 0) : 2 * n ≤ m := by
  have e : n * (m / n) = m := Int.mul_ediv_cancel' (Int.dvd_of_emod_eq_zero z)
  have h2 : 2 ≤ m / n := by
    refine Int.not_lt.mp fun h3 => ?_
    have h4 : n * (m / n) ≤ n * 1 := Int.mul_le_mul_of_nonneg_left (by omega) (by omega)
    omega
  have h5 : n * 2 ≤ n * (m / n) := Int.mul_le_mul_of_nonneg_left h2 (by omega)
  omega
/-- a multiple below the next one but some -/
theorem mul_between {n m : Int} {k : Nat} (hn : 0 < n) (z : m % n = 0) : m < 2 * n + ((k + 1 : Nat) : Int) * n ↔ m < 2 * n + (k : Int) * n ∨ m = 2 * n + (k : Int) * n := by
  have e : n * (m / n) = m := Int.mul_ediv_cancel' (Int.dvd_of_emod_eq_zero z)
  have ek : ((k + 1 : Nat) : Int) * n = (k : Int) * n + n := by
    rw [show ((k + 1 : Nat) : Int) = (k : Int) + 1 by omega, Int.add_mul, Int.one_mul]
  rw [ek]
  refine ⟨fun h => ?_, fun h => by omega⟩
  by_cases c : m < 2 * n + (k : Int) * n
  · exact .inl c
  · refine .inr ?_
    have h1 : m / n < (k : Int) + 3 := by
      refine Int.not_le.mp fun h3 => ?_
      have h4 : n * ((k : Int) + 3) ≤ n * (m / n) := Int.mul_le_mul_of_nonneg_left h3 (by omega)
      have h5 : n * ((k : Int) + 3) = (k : Int) * n + 3 * n := by rw [Int.mul_add, Int.mul_comm n (k : Int), Int.mul_comm n 3]
      omega
    have h2 : (k : Int) + 2 ≤ m / n := by
      refine Int.not_lt.mp fun h3 => ?_
      have h4 : n * (m / n) ≤ n * ((k : Int) + 1) := Int.mul_le_mul_of_nonneg_left (by omega) (by omega)
      have h5 : n * ((k : Int) + 1) = (k : Int) * n + n := by rw [Int.mul_add, Int.mul_comm n (k : Int), Int.mul_one]
      omega
    have h6 : m / n = (k : Int) + 2 := by omega
    rw [h6, Int.mul_add, Int.mul_comm n (k : Int)] at e
    omega
theorem upto_all (n : Int) : upto (n + 1) = upto n ++ (if isP (n + 1) then [n + 1] else []) := by
  by_cases h : 0 ≤ n + 1
  · exact upto_next h
  · have e : isP (n + 1) = false := by
      cases y : isP (n + 1) with
      | false => rfl
      | true => exact absurd ((isP_iff _).mp y).1 (by omega)
    rw [upto_low (by omega), upto_low (by omega), e]
    rfl
theorem cut_last (xs : List V) (v : V) : cutV (xs ++ [v]) none (some (-1)) = xs := by
  unfold cutV
  have e : HT.sIx (xs ++ [v]).length (xs ++ [v]).length (some (-1)) = xs.length := by
    show (if (-1 : Int) < 0 then ((-1 : Int) + ((xs ++ [v]).length : Int)).toNat else min (-1 : Int).toNat (xs ++ [v]).length) = xs.length
    rw [if_pos (show (-1 : Int) < 0 by decide), List.length_append]
    show ((-1 : Int) + ((xs.length + 1 : Nat) : Int)).toNat = xs.length
    omega
  rw [e, HT.sIx_none, List.drop_zero, Nat.sub_zero, List.take_left]
section
variable {K : PySem.W.Frag} {σ : L2.St} {H : Hp} {Q : VK}
theorem r_isBl {a b : Bool} (q : Q (.bl (decide (a = b))) H) : rIsB (.bl a) (.bl b) H Q := ⟨a, b, rfl, rfl, q⟩
theorem r_notBl {a b : Bool} (q : Q (.bl (!decide (a = b))) H) : rNotB (.bl a) (.bl b) H Q := ⟨a, b, rfl, rfl, q⟩
/-- an int among ints -/
theorem inV_ints (z : Int) (ns : List Int) : inV (.int z) (ns.map V.int) = decide (z ∈ ns) := by
  unfold inV
  rw [List.any_map]
  by_cases h : z ∈ ns
  · rw [decide_eq_true h, List.any_eq_true]
    exact ⟨z, h, by show eqV (.int z) (.int z) = true; simp [eqV]⟩
  · rw [decide_eq_false h, Bool.eq_false_iff]
    intro c
    obtain ⟨y, m, e⟩ := List.any_eq_true.mp c
    have e' : eqV (.int y) (.int z) = true := e
    have : y = z := by simpa [eqV] using e'
    exact h (this ▸ m)
theorem r_inL {a : Addr} {z : Int} {ns : List Int} (h : SqL K H a (ns.map V.int)) (q : Q (.bl (decide (z ∈ ns))) H) : rIn K false (.int z) (.ref a) H Q := by
  refine ⟨a, _, rfl, .inl h, rfl, ?_, ?_⟩
  · rw [List.all_eq_true]
    intro v m
    obtain ⟨y, _, rfl⟩ := List.mem_map.mp m
    rfl
  · rw [if_neg (by decide), inV_ints]
    exact q
theorem r_niL {a : Addr} {z : Int} {ns : List Int} (h : SqL K H a (ns.map V.int)) (q : Q (.bl (!decide (z ∈ ns))) H) : rIn K true (.int z) (.ref a) H Q := by
  refine ⟨a, _, rfl, .inl h, rfl, ?_, ?_⟩
  · rw [List.all_eq_true]
    intro v m
    obtain ⟨y, _, rfl⟩ := List.mem_map.mp m
    rfl
  · rw [if_pos rfl, inV_ints]
    exact q
end
theorem dn_mk {K : PySem.W.Frag} {mg : Str → Option Value} {x : Str} {st : Stmt} {ps : List Str} {f : Addr} {oc : Value} {od an : Option Addr} {osl : Array (Option Value)} {kV doc pm cdv ct : Value} (g : mg x = some (.ref f))
    (l : K.lookup f = some ⟨oc, od, .func (PySem.W.fnOf x x (defArgs st) (defBody st) (defScope st) .none kV doc pm an cdv ct), osl⟩) (c : PySem.W.codeIn K cdv x = true) (k : PySem.W.keepIn K (.ref f) = true)
    (b : ∀ (kV doc pm : Value) (an : Option Addr) (cdv ct : Value) (us : List Value), us.length = ps.length → bindArgs (PySem.W.fnOf x x (defArgs st) (defBody st) (defScope st) .none kV doc pm an cdv ct) ⟨us, []⟩ = pure (ps.zip us)) : Dn K mg x st ps f (PySem.W.fnOf x x (defArgs st) (defBody st) (defScope st) .none kV doc pm an cdv ct) :=
  ⟨fun_mk l c k, g, (fun_mk l c k).binds b⟩
theorem tok_mk {K : PySem.W.Frag} {h : Heap} {mg : Str → Option Value} {x : Str} {n : Int} {t : Tok} (KX : K.In h) (G : h.Ns mainGlobals mg) (a : PySem.W.nsIn K mainGlobals x = some (some (.int n t))) : ∃ t, mg x = some (.int n t) := ⟨t, PySem.W.mg_of KX G a⟩
end Vb
namespace Vb
open PySem PySem.Spec PyProof.Rows L2
/-! ### methods and makings that may raise: what they let out is taken at this state -/
section
variable {X : Cx} {CX : CXT} {k : Nat} {f C : Addr} {fd : FuncData} {ps : List Str} {sp : Sp} {E : L2.St → XK} {x m : Str} {p pos apos : Pos} {e o : Expr} {es : List Expr} {ta : TE} {t : TA}
def tMethP (C : Addr) (m : Str) (sp : Sp) (E : L2.St → XK) (ta : TE) (t : TA) : TE := fun σ H Q => ta σ H fun x H1 => ∃ a dx fs, x = .ref a ∧ H1 a = some (.ins C dx fs) ∧ fs.lookup m = none ∧ t σ H1 fun vs H2 => sp (x :: vs) H2 Q (E σ)
theorem pe_methP {pl : Sem Bool} (ho : PE X o ta) (c : Cls X.K C) (hm : Meth X.K C m f) (F : FnOk X.prog X.w X.K X.mg X.base CX k f fd ps sp) (hr : Room k X.A) (hb : Binds X.K fd ps []) (hx : ∀ σ, PassesAt CX X σ (E σ)) (ha : PA X (e :: es) t) (hst : starEach (e :: es) X.env = (false, eval e X.env) :: starEach es X.env := by rfl) (hpl : (backTo pos (starEach es X.env)).any (·.1) = false := by rfl)
    (ht : eval (.Call (.Attribute o m apos) (e :: es) [] pos) X.env = (do let ov ← eval o X.env; standAt apos.atName; let (f, first) ← holding [ov] (getMethod ov m pl); callWith pos f first (backTo pos (starEach (e :: es) X.env)) (backToKw pos (keywordEach [] X.env))) := by rfl) : PE X (.Call (.Attribute o m apos) (e :: es) [] pos) (tMethP C m sp E ta t) := ⟨fun pins s σ H Q I h => PySem.W.methodCall_KW (pl := pl) (thn (ho.run pins s σ H _ I h) fun u s1 z => by
    obtain ⟨x, H1, I1, rx, a, dx, fs, ex, ea, l, q⟩ := z
    subst ex
    obtain rfl : u = Value.ref a := rx
    exact getmeth_ok I1 ea c hm l (PySem.W.callWith_K (first := [.ref a]) (h₀ := X.base) I1.ok.mod.kin hm.kp (thn (ha.run pos pins s1 σ H1 _ I1 q) fun us s2 ⟨vs, H2, I2, r, q2⟩ => ⟨I2.kIn, run_fnS (us := .ref a :: us) (vs := .ref a :: vs) F hr hb (hx σ) I2 (.cons rfl r) q2⟩) hst hpl)) ht⟩
theorem pe_methP0 {pl : Sem Bool} (ho : PE X o ta) (c : Cls X.K C) (hm : Meth X.K C m f) (F : FnOk X.prog X.w X.K X.mg X.base CX k f fd ps sp) (hr : Room k X.A) (hb : Binds X.K fd ps []) (hx : ∀ σ, PassesAt CX X σ (E σ))
    (ht : eval (.Call (.Attribute o m apos) [] [] pos) X.env = (do let ov ← eval o X.env; standAt apos.atName; let (f, first) ← holding [ov] (getMethod ov m pl); callWith pos f first (backTo pos (starEach [] X.env)) (backToKw pos (keywordEach [] X.env))) := by rfl) : PE X (.Call (.Attribute o m apos) [] [] pos) (tMethP C m sp E ta tNil) := ⟨fun pins s σ H Q I h => PySem.W.methodCall_KW (pl := pl) (thn (ho.run pins s σ H _ I h) fun u s1 z => by
    obtain ⟨x, H1, I1, rx, a, dx, fs, ex, ea, l, q⟩ := z
    subst ex
    obtain rfl : u = Value.ref a := rx
    exact getmeth_ok I1 ea c hm l (PySem.W.callWith_K0 (first := [.ref a]) I1.kIn hm.kp (run_fnS (us := [.ref a]) (vs := [.ref a]) F hr hb (hx σ) I1 (.cons rfl .nil) q))) ht⟩
def tMakeP (C : Addr) (sp : Sp) (E : L2.St → XK) (t : TA) : TE := fun σ H Q => t σ H fun vs H1 => ∀ x dx, H1 x = none → H1 dx = none → dx ≠ x → sp (.ref x :: vs) (upd (upd H1 dx (.own x)) x (.ins C dx [])) (fun v H2 => v = .non ∧ Q (.ref x) H2) (E σ)
theorem run_makeP {pins : List (Addr × Obj)} {σ : L2.St} {H : Hp} {s : Shared} {Q : VK} {us : List Value} {vs : List V} {E' : XK} (M : Mk X.K C f) (F : FnOk X.prog X.w X.K X.mg X.base CX k f fd ps sp) (hr : Room (k + 1) X.A) (hb : Binds X.K fd ps []) (hx : PassesAt CX X σ E') (I : Inv X pins σ H s) (r : Vals vs us)
    (h : ∀ x dx, H x = none → H dx = none → dx ≠ x → sp (.ref x :: vs) (upd (upd H dx (.own x)) x (.ins C dx [])) (fun v H2 => v = .non ∧ Q (.ref x) H2) E') : wpAny (model X.prog X.w) X.A (call (.ref C) us) (EP X pins σ Q) X.xe s := by
  have I2 := Inv.made (C := C) I
  have hq := h (s.heap.objs.size + 1) s.heap.objs.size (I.hok.fresh (Nat.le_succ _)) (I.hok.fresh (Nat.le_refl _)) (Nat.ne_of_lt (Nat.lt_succ_self _))
  have r2 : Vals (V.ref (s.heap.objs.size + 1) :: vs) (Value.ref (s.heap.objs.size + 1) :: us) := .cons rfl r
  have hl : (Value.ref (s.heap.objs.size + 1) :: us).length = ps.length := by
    rw [← r2.length]
    exact F.len _ _ _ _ hq
  have b := hb _ (Value.ref (s.heap.objs.size + 1) :: us) I2.kIn (by rw [List.append_nil]; exact hl)
  rw [List.append_nil] at b
  refine wpAny_call (make_map (f := f) I.kIn M.makes M.init (beq_iff_eq.mp M.fn) (codeAny_mono (F.run _ X.stack _ _ ⟨Value.ref (s.heap.objs.size + 1) :: us, []⟩ _ _ _ E' (hr.make C us []) (I2.env0.make C us []) b r2 hq) fun r s' hq' => ?_))
  cases r with
  | error e => exact hx pins _ _ e s' I2 hq'
  | ok fl =>
    cases fl with
    | ret u =>
      have z := I2.after hq'
      obtain ⟨v, H', I3, rv, ev, q3⟩ := z
      subst ev
      exact ⟨rv, V.ref (s.heap.objs.size + 1), _, I3, rfl, q3⟩
    | next => exact hq'.elim
    | brk => exact hq'.elim
    | cont => exact hq'.elim
theorem pe_makeP (M : Mk X.K C f) (F : FnOk X.prog X.w X.K X.mg X.base CX k f fd ps sp) (hr : Room (k + 1) X.A) (hg : Gl X x) (hm : X.mg x = some (.ref C)) (hb : Binds X.K fd ps []) (hx : ∀ σ, PassesAt CX X σ (E σ)) (ha : PA X (e :: es) t) (hdb : (x == ("__debug__" : Str)) = false := by decide)
    (he : starEach (e :: es) X.env = (false, eval e X.env) :: starEach es X.env := by rfl) (hpl : (backTo pos (starEach es X.env)).any (·.1) = false := by rfl) : PE X (.Call (.Name x p) (e :: es) [] pos) (tMakeP C sp E t) :=
  ⟨fun pins s σ H Q I h => wpAny_Call_Name_kw (ld_glob I hg hm (PySem.W.callWith_K (h₀ := X.base) I.ok.mod.kin M.kp (thn (ha.run pos pins s σ H _ I h) fun us s1 ⟨vs, H1, I1, r, q⟩ => ⟨I1.kIn, run_makeP M F hr hb (hx σ) I1 r q⟩) he hpl) hdb)⟩
end
/-- a method of the text -/
structure Dm (K : PySem.W.Frag) (x qual : Str) (st : Stmt) (ps : List Str) (f : Addr) (fd : FuncData) : Prop where
  F : Fun K x qual st f fd
  b : Binds K fd ps []
theorem dm_mk {K : PySem.W.Frag} {x qual : Str} {st : Stmt} {ps : List Str} {f : Addr} {oc : Value} {od an : Option Addr} {osl : Array (Option Value)} {kV doc pm cdv ct : Value}
    (l : K.lookup f = some ⟨oc, od, .func (PySem.W.fnOf x qual (defArgs st) (defBody st) (defScope st) .none kV doc pm an cdv ct), osl⟩) (c : PySem.W.codeIn K cdv qual = true) (k : PySem.W.keepIn K (.ref f) = true)
    (b : ∀ (kV doc pm : Value) (an : Option Addr) (cdv ct : Value) (us : List Value), us.length = ps.length → bindArgs (PySem.W.fnOf x qual (defArgs st) (defBody st) (defScope st) .none kV doc pm an cdv ct) ⟨us, []⟩ = pure (ps.zip us)) : Dm K x qual st ps f (PySem.W.fnOf x qual (defArgs st) (defBody st) (defScope st) .none kV doc pm an cdv ct) :=
  ⟨fun_mk l c k, (fun_mk l c k).binds b⟩
/-! readings -/
theorem r_fld {K : PySem.W.Frag} {σ : L2.St} {H : Hp} {Q : VK} {a C dx : Addr} {fs : List (Str × V)} {f : Str} {v : V} (h : H a = some (.ins C dx fs)) (c : Cls K C) (n : PySem.W.findIn K (.ref C) f = some none) (l : fs.lookup f = some v) (q : Q v H) : ∃ a' C' dx' fs' v', V.ref a = .ref a' ∧ H a' = some (.ins C' dx' fs') ∧ Cls K C' ∧ NoAttr K C' f ∧ fs'.lookup f = some v' ∧ Q v' H := ⟨a, C, dx, fs, v, rfl, h, c, n, l, q⟩
theorem r_sfld {K : PySem.W.Frag} {σ : L2.St} {H : Hp} {ta tv : TE} {f : Str} {D : L2.Ends} (h : tv σ H fun y H1 => ta σ H1 fun x H2 => ∃ a C dx fs, x = .ref a ∧ H2 a = some (.ins C dx fs) ∧ Cls K C ∧ NoAttr K C f ∧ fs.length < 1000 ∧ D.nx σ (upd H2 a (.ins C dx (putF f y fs)))) : sFld K ta tv f D σ H := h
theorem r_tfld {K : PySem.W.Frag} {σ : L2.St} {H : Hp} {Q : VK} {ta : TE} {f : Str} (h : ta σ H fun x H1 => ∃ a C dx fs v, x = .ref a ∧ H1 a = some (.ins C dx fs) ∧ Cls K C ∧ NoAttr K C f ∧ fs.lookup f = some v ∧ Q v H1) : tFld K ta f σ H Q := h
theorem r_meth {σ : L2.St} {H : Hp} {Q : VK} {C : Addr} {m : Str} {sp : Sp} {E : L2.St → XK} {ta : TE} {t : TA} (h : ta σ H fun x H1 => ∃ a dx fs, x = .ref a ∧ H1 a = some (.ins C dx fs) ∧ fs.lookup m = none ∧ t σ H1 fun vs H2 => sp (x :: vs) H2 Q (E σ)) : tMethP C m sp E ta t σ H Q := h
theorem r_make {σ : L2.St} {H : Hp} {Q : VK} {C : Addr} {sp : Sp} {E : L2.St → XK} {t : TA} (h : t σ H fun vs H1 => ∀ x dx, H1 x = none → H1 dx = none → dx ≠ x → sp (.ref x :: vs) (upd (upd H1 dx (.own x)) x (.ins C dx [])) (fun v H2 => v = .non ∧ Q (.ref x) H2) (E σ)) : tMakeP C sp E t σ H Q := h
theorem r_listRg {σ : L2.St} {H : Hp} {Q : VK} {te : L2.St → Hp → (Int → Int → Hp → Prop) → Prop} (h : te σ H fun a b H1 => RgOk a b ∧ ∀ q, H1 q = none → Q (.ref q) (upd H1 q (.lst (rgV a b)))) : tLstRg te σ H Q := h
theorem r_rg1 {σ : L2.St} {H : Hp} {ta : TE} {Q : Int → Int → Hp → Prop} (h : ta σ H fun x H1 => ∃ n, x = .int n ∧ Q 0 n H1) : tRg1 ta σ H Q := h
theorem r_rg2 {σ : L2.St} {H : Hp} {ta tb : TE} {Q : Int → Int → Hp → Prop} (h : ta σ H fun x H1 => tb σ H1 fun y H2 => ∃ i j, x = .int i ∧ y = .int j ∧ Q i j H2) : tRg2 ta tb σ H Q := h
section
variable {X : Cx} {CX : CXT} {k : Nat} {f C : Addr} {fd : FuncData} {ps ks : List Str} {sp : Sp} {E : XK} {m : Str} {pos apos : Pos} {e o : Expr} {es : List Expr} {kws : List Keyword} {ta : TE} {t tk : TA} {g : List Value → List Value → List Value} {gV : List V → List V → List V}
/-- o.m(e, .., k = v, ..) -/
def tMethK (C : Addr) (m : Str) (sp : Sp) (gV : List V → List V → List V) (E : XK) (ta : TE) (t tk : TA) : TE := fun σ H Q => ta σ H fun x H1 => ∃ a dx fs, x = .ref a ∧ H1 a = some (.ins C dx fs) ∧ fs.lookup m = none ∧ t σ H1 fun vs H2 => tk σ H2 fun zs H3 => sp (gV (x :: vs) zs) H3 Q E
theorem pe_methK {pl : Sem Bool} (ho : PE X o ta) (c : Cls X.K C) (hm : Meth X.K C m f) (F : FnOk X.prog X.w X.K X.mg X.base CX k f fd ps sp) (hr : Room k X.A) (hb : KBinds X.K fd ps ks g gV) (hx : Passes CX X E) (ha : PA X (e :: es) t) (hkw : PK X kws tk)
    (hall : (backToKw pos (keywordEach kws X.env)).all (·.1.isSome) = true := by rfl) (hks : (backToKw pos (keywordEach kws X.env)).filterMap (·.1) = ks := by rfl) (hst : starEach (e :: es) X.env = (false, eval e X.env) :: starEach es X.env := by rfl) (hpl : ((backTo pos (starEach (e :: es) X.env)).any (·.1) || (backToKw pos (keywordEach kws X.env)).any (·.1.isNone)) = false := by rfl)
    (ht : eval (.Call (.Attribute o m apos) (e :: es) kws pos) X.env = (do let ov ← eval o X.env; standAt apos.atName; let (f, first) ← holding [ov] (getMethod ov m pl); callWith pos f first (backTo pos (starEach (e :: es) X.env)) (backToKw pos (keywordEach kws X.env))) := by rfl) : PE X (.Call (.Attribute o m apos) (e :: es) kws pos) (tMethK C m sp gV E ta t tk) := ⟨fun pins s σ H Q I h => PySem.W.methodCall_KW (pl := pl) (thn (ho.run pins s σ H _ I h) fun u s1 z => by
    obtain ⟨x, H1, I1, rx, a, dx, fs, ex, ea, l, q⟩ := z
    subst ex
    obtain rfl : u = Value.ref a := rx
    refine getmeth_ok I1 ea c hm l (PySem.W.callWith_KW (first := [.ref a]) (h₀ := X.base) I1.ok.mod.kin hm.kp hall (thn (ha.run pos pins s1 σ H1 _ I1 q) fun us s2 ⟨vs, H2, I2, r, q2⟩ => ?_) hpl hst)
    refine thn (hkw.run pos pins s2 σ H2 _ I2 q2) fun ws s3 ⟨zs, H3, I3, rz, q3⟩ => ⟨I3.kIn, ?_⟩
    rw [hks]
    exact run_fnk (us := .ref a :: us) (vs := .ref a :: vs) F hr hb hx I3 (.cons rfl r) rz q3) ht⟩
theorem r_methK {σ : L2.St} {H : Hp} {Q : VK} (h : ta σ H fun x H1 => ∃ a dx fs, x = .ref a ∧ H1 a = some (.ins C dx fs) ∧ fs.lookup m = none ∧ t σ H1 fun vs H2 => tk σ H2 fun zs H3 => sp (gV (x :: vs) zs) H3 Q E) : tMethK C m sp gV E ta t tk σ H Q := h
end
/-- two by place, one by its name -/
def g21 {α : Type} : List α → List α → List α
  | [a, b], [c] => [a, b, c]
  | _, _ => []
theorem kb21 {K : PySem.W.Frag} {x qual kn : Str} {st : Stmt} {f : Addr} {fd : FuncData} {ps : List Str} (F : Fun K x qual st f fd) (hp : ps.length = 3)
    (h : ∀ (kV doc pm : Value) (an : Option Addr) (cdv ct a b c : Value), bindArgs (PySem.W.fnOf x qual (defArgs st) (defBody st) (defScope st) .none kV doc pm an cdv ct) ⟨[a, b], [(kn, c)]⟩ = pure (ps.zip [a, b, c])) : KBinds K fd ps [kn] g21 g21 := by
  obtain ⟨oc, od, kV, doc, pm, an, cdv, ct, osl, rfl, lk, hcd⟩ := F.ex
  refine ⟨fun s us ws _ hl => ?_, fun {vs us zs ws} r z => ?_⟩
  · rcases us with _ | ⟨a, _ | ⟨b, _ | ⟨d, us⟩⟩⟩ <;> rcases ws with _ | ⟨c, _ | ⟨e, ws⟩⟩ <;> first | exact .of_eq (h kV doc pm an cdv ct a b c) | (rw [hp] at hl; cases hl)
  · rcases r with _ | ⟨r1, _ | ⟨r2, _ | ⟨r3, r⟩⟩⟩ <;> rcases z with _ | ⟨z1, _ | ⟨z2, z⟩⟩ <;> first | exact .cons r1 (.cons r2 (.cons z1 .nil)) | exact .nil
end Vb
namespace Vb
open PySem PySem.Spec PyProof.Rows L2
/-! ### a try with several clauses, each of which keeps a name -/
/-- what the clauses wish of an error, in their order -/
def wAll (K : PySem.W.Frag) (Wo : WX) (D : L2.Ends) : List (Value × Nat × (Addr → Value → Option Addr → TS)) → WX
  | [] => Wo
  | (c, i, ts) :: r => wAs K c i ts (wAll K Wo D r) D
inductive Clauses (X : Cx) : List ExceptHandler → List (Value × Nat × (Addr → Value → Option Addr → TS)) → Prop
  | nil : Clauses X [] []
  | cons {x n : Str} {c : Value} {i : Nat} {ts : Addr → Value → Option Addr → TS} {b0 : Stmt} {su : List Stmt} {np po : Pos} {hs : List ExceptHandler} {l : List (Value × Nat × (Addr → Value → Option Addr → TS))} (hi : X.N[i]? = some n) (hl : X.env.kindOf n = some .local) (hc : Names X x c)
      (hsu : ∀ (a : Addr) (oe : Obj) (cls : Value) (d : Option Addr) (pn : List (Addr × Obj)), L2N.Zn cls d oe → (∃ vs, oe.data = .fields vs) → PSs (X.suite a ((a, oe) :: pn)) (b0 :: su) (ts a cls d)) (r : Clauses X hs l) : Clauses X (.ExceptHandler (some (.Name x np)) (some n) (b0 :: su) po :: hs) ((c, i, ts) :: l)
section
variable {X : Cx} {body : List Stmt} {c0 : ExceptHandler} {cs : List ExceptHandler} {l : List (Value × Nat × (Addr → Value → Option Addr → TS))} {pos : Pos} {tb : WX → TS} {Wo : WX}
theorem ps_try_all (st : X.stack = X.env :: X.outer) (fr : X.env.frame = some X.env.locals) (nd : X.N.Nodup) (tk : L2N.Takes X Wo)
    (hb : ∀ (W : WX) (pn : List (Addr × Obj)) (xe : Value → Shared → Prop), L2N.Takes (X.tr pn xe) W → PassesOwn (model X.prog X.w) X.A X.env xe → PSs (X.tr pn xe) body (tb W))
    (hh : Clauses X (c0 :: cs) l) : PS X (.Try body (c0 :: cs) [] [] pos) (fun D σ H => tb (wAll X.K Wo D l) D σ H) := by
  refine ⟨fun pins s σ H D I h => ?_⟩
  have iok := I.ok
  have afr : X.A.frames = some (X.env :: X.outer) := by rw [iok.frames, st]
  refine wpAny_Try_except (wpAny_mono ((hb (wAll X.K Wo D l) (X.pn ++ pins) (fun e z1 => wpAny (model X.prog X.w) X.A (noteFrame e X.env) (fun _ z2 => wpAny (model X.prog X.w) X.A (setFlight e none) (fun _ z3 =>
    wpAny (model X.prog X.w) X.A (handleBy e X.env (c0 :: cs)) (SP X pins D) X.xe z3) X.xe z2) X.xe z1) (fun u s' z => ?caught) PassesOwn.looking).run [] s σ H D (I.toTry _) h) (fun f s1 z => ?thru) (fun _ _ z => z))
  case thru =>
    cases f with
    | ret u =>
      obtain ⟨v, σ1, H1, J1, r1, q1⟩ := z
      exact ⟨v, σ1, H1, J1.ofTry iok, r1, q1⟩
    | next =>
      obtain ⟨σ1, H1, J1, q1⟩ := z
      exact wpAny_execs_nil ⟨σ1, H1, J1.ofTry iok, q1⟩
    | brk =>
      obtain ⟨σ1, H1, J1, q1⟩ := z
      exact ⟨σ1, H1, J1.ofTry iok, q1⟩
    | cont =>
      obtain ⟨σ1, H1, J1, q1⟩ := z
      exact ⟨σ1, H1, J1.ofTry iok, q1⟩
  case caught =>
    obtain ⟨a, B, sI, pins1, σ1, H1, cls, d, rfl, J0, nb, up, sky0, na, os, ag, w⟩ := z
    have J : Inv X pins σ1 H1 sI := J0.ofTry iok
    have sky1 : Sky B (X.env :: X.outer) a (L2N.Zn cls d) X.env.locals s'.heap := by rw [← st]; exact sky0
    refine L2N.Sky.land L2N.Zn.steady afr fr sky1 fun h3 fl3 up3 => ?_
    have J3 : Inv X pins σ1 H1 { s' with heap := h3 } := J.landed nb fl3.1 (up.trans up3) os ag
    obtain ⟨oe3, vs3, he3, hz3, hd3⟩ := fl3.there
    have nfr : a ∉ frs (X.env :: X.outer) := fun hm => by
      obtain ⟨_, o', e', hnf⟩ := fl3.2.2.1.mem hm
      rw [he3] at e'
      cases e'
      exact hnf _ hd3
    have nL : a ≠ X.env.locals := fun z => nfr (List.mem_filterMap.mpr ⟨X.env, List.mem_cons_self, by rw [fr, z]⟩)
    have nF : a ∉ X.fs := fun hm => by
      obtain ⟨e, he, q⟩ := List.mem_filterMap.mp hm
      exact nfr (List.mem_filterMap.mpr ⟨e, List.mem_cons_of_mem _ he, q⟩)
    have S3 := J3.suite he3 hd3 na nL nF
    have go : ∀ {cs1 : List ExceptHandler} {l1 : List (Value × Nat × (Addr → Value → Option Addr → TS))}, Clauses X cs1 l1 → wAll X.K Wo D l1 cls d σ1 H1 → wpAny (model X.prog X.w) X.A (handleBy (.ref a) X.env cs1) (SP X pins D) X.xe { s' with heap := h3 } := by
      intro cs1 l1 hk
      induction hk with
      | nil =>
        intro w1
        refine wpAny_handleBy_nil ?_
        obtain ⟨k1, k2, k3, oe, vs, T, oT, ts1, he, hz, hd, h1, hr⟩ := id fl3
        unfold PySem.passOn
        refine wpAny_bind (wpAny_field he hd h1 ?_)
        rw [if_neg (show ¬ ((Value.ref T == Value.none) = true) by simp)]
        have last : wpAny (model X.prog X.w) X.A (setFlight (.ref a) X.env.frame) (fun _ z4 => wpAny (model X.prog X.w) X.A (throw (.ref a) : Sem Flow) (SP X pins D) X.xe z4) X.xe { s' with heap := h3 } := by
          rw [fr]
          exact HandSPX.setFlight_upZ fl3 fun h4 hh4 up4 => wpAny_throw (tk _ _ ⟨a, B, sI, pins, σ1, H1, cls, d, rfl, J, nb, (up.trans up3).trans up4, .inr (.inr (by rw [st]; exact hh4)), na, os, ag, w1⟩)
        first
          | exact wpAny_bind (wpAny_pure (wpAny_bind last))
          | exact wpAny_bind last
      | @cons x n c i ts b0 su np po hs2 l2 hi hln hc hsu r ih =>
        intro w1
        obtain ⟨b, hb1, hyes, hno⟩ := w1
        refine wpAny_handleBy_cons (codeAny_handlers_test ?_) (fun q => by cases q)
        have LT : PySem.W.Looks (model X.prog X.w) h3 (typeOf (.ref a)) cls := fun _ _ _ _ k q => wpAny_typeOf_ref (k _ _ he3) (by rw [hz3.1]; exact q)
        have LM := PySem.W.exm_one (M := model X.prog X.w) J3.kIn LT hb1
        have look : ∀ {Q E : Value → Shared → Prop}, Q c { s' with heap := h3 } → wpAny (model X.prog X.w) (X.A.mark (some (.ref a))) (eval (.Name x np) X.env) Q E { s' with heap := h3 } := fun {Q E} q => by
          rcases hc with ⟨hg, hdb, hm | ⟨hm, hv, hnn⟩⟩
          · exact ld_glob (X := X.suite a ((a, oe3) :: (X.pn ++ pins))) S3 hg hm q hdb
          · exact ld_blt (X := X.suite a ((a, oe3) :: (X.pn ++ pins))) S3 hg hm hv q hnn hdb
        refine look (LM.here ?_)
        cases b with
        | false => exact ih (hno rfl)
        | true =>
          refine codeAny_handlers_suite_as (HandSPX.lands_againZ fl3 fun h4 fl4 up4 => ?_)
          have J4 : Inv X pins σ1 H1 { s' with heap := h4 } := J.landed nb fl4.1 ((up.trans up3).trans up4) os ag
          obtain ⟨oe4, vs4, he4, hz4, hd4⟩ := fl4.there
          have S4 := J4.suite he4 hd4 na nL nF
          refine store_ok (X := X.suite a ((a, oe4) :: (X.pn ++ pins))) (v := .ref a) S4 nd hi (.inl hln) rfl (fun s5 S5 => ?_) (.inr hln)
          refine wpAny_mono ((hsu a oe4 cls d (X.pn ++ pins) hz4 ⟨_, hd4⟩).run [] s5 _ H1 _ S5 (hyes rfl a na)) (fun f s6 hsp => ?_) (fun _ _ z => z.elim)
          have over : ∀ {σ6 : L2.St} {H6 : Hp} {Q : Shared → Prop}, Inv (X.suite a ((a, oe4) :: (X.pn ++ pins))) [] σ6 H6 s6 → (∀ s7, Inv X pins (σ6.set i none) H6 s7 → Q s7) →
              wpAny (model X.prog X.w) X.A (do bindName X.env n .none; unbindBehindTheSuite X.env n po) (fun _ s7 => Q s7) X.xe s6 := fun S6 hq => gone_ok (S6.unsuite iok) nd hi hln hq
          cases f with
          | ret u =>
            obtain ⟨v6, σ6, H6, S6, r6, q6⟩ := hsp
            exact over S6 fun _ J7 => ⟨_, _, _, J7, r6, q6⟩
          | next =>
            obtain ⟨σ6, H6, S6, q6⟩ := hsp
            exact over S6 fun _ J7 => ⟨_, _, J7, q6⟩
          | brk =>
            obtain ⟨σ6, H6, S6, q6⟩ := hsp
            exact over S6 fun _ J7 => ⟨_, _, J7, q6⟩
          | cont =>
            obtain ⟨σ6, H6, S6, q6⟩ := hsp
            exact over S6 fun _ J7 => ⟨_, _, J7, q6⟩
    exact go hh w
end
/-- a clause that is not meant -/
theorem r_pass {K : PySem.W.Frag} {c : Value} {i : Nat} {ts : Addr → Value → Option Addr → TS} {Wo : WX} {D : L2.Ends} {cls : Value} {d : Option Addr} {σ : L2.St} {H : Hp} (e : PySem.W.exmOne K cls c = some false) (h : Wo cls d σ H) : wAs K c i ts Wo D cls d σ H := ⟨false, e, fun z => Bool.noConfusion z, fun _ => h⟩
theorem Xk.no {K : PySem.W.Frag} {C D : Addr} (k : Xk K C) (s : PySem.W.subIn K (.ref D) (.ref C) = some false) : PySem.W.exmOne K (.ref D) (.ref C) = some false := PySem.W.exm_ref k.sb k.hd k.ty s
/-! ### x in o, o == x by the text's own defs -/
section
variable {X : Cx} {CX : CXT} {k : Nat} {f C : Addr} {fd : FuncData} {ps : List Str} {sp : Sp} {E : XK}
/-- what x in o asks -/
def rInOwn (neg : Bool) (C : Addr) (sp : Sp) (E : XK) : R2 := fun x y H Q => ∃ a dx fs, y = .ref a ∧ H a = some (.ins C dx fs) ∧ sp [y, x] H (fun v H' => ∃ b, v = .bl b ∧ Q (.bl (if neg then !b else b)) H') E
theorem cont_own {pins : List (Addr × Obj)} {s : Shared} {σ : L2.St} {H : Hp} {x : V} {v : Value} {a dx : Addr} {fs : List (Str × V)} {Q : Bool → Shared → Prop} (hs : PySem.W.findIn X.K (.ref C) "__contains__" = some (some (.ref f))) (hf : PySem.W.isFn X.K (.ref f) = true)
    (F : FnOk X.prog X.w X.K X.mg X.base CX k f fd ps sp) (hr : Room k X.A) (hb : Binds X.K fd ps []) (hx : PassesAt CX X σ E) (I : Inv X pins σ H s) (rx : RelV x v) (ha : H a = some (.ins C dx fs)) {Qv : VK} (q : sp [.ref a, x] H Qv E)
    (hq : ∀ u s', EP X pins σ Qv u s' → ∃ b, u = Value.bool b ∧ Q b s') : wpAny (model X.prog X.w) X.A (contains (.ref a) v) Q X.xe s := by
  obtain ⟨mA, J, _⟩ := ins_get I.hok ha
  obtain ⟨od, J, _⟩ := J.look
  have kx := I.kIn
  have spec : PySem.W.Looks (model X.prog X.w) s.heap (specialOf (.ref a) "__contains__") (some (.ref f)) := fun A Q E s' k' q' => by
    unfold specialOf
    exact wpAny_bind (J.type A _ _ _ k' ((PySem.W.looks_findIn kx hs) A _ _ _ k' q'))
  unfold contains
  refine wpAny_holding ?_
  rw [PySem.stdlibNamesSay?_ref]
  refine wpAny_bind (spec.here ?_)
  show wpAny _ X.A (if (some (Value.ref f) == some Value.none) = true then _ else _) Q X.xe s
  rw [if_neg (by simp)]
  refine wpAny_bind ?_
  unfold callSpecialUnlessNone?
  refine wpAny_bind (spec.here (wpAny_holding (wpAny_bind ((PySem.W.bind_fn kx _ (beq_iff_eq.mp hf)).here ?_))))
  show wpAny _ X.A (if (Value.ref f == Value.none) = true then _ else _) _ X.xe s
  rw [if_neg (by simp)]
  refine wpAny_bind (wpAny_mono (run_fnS (E := fun _ => E) (us := [.ref a, v]) (vs := [.ref a, x]) F hr hb hx I (.cons rfl (.cons rx .nil)) q) (fun u s' z => ?_) fun _ _ z => z)
  obtain ⟨b, rfl, q'⟩ := hq u s' z
  exact wpAny_pure (wpAny_truthy_bool q')
theorem op_inOwn (hs : PySem.W.findIn X.K (.ref C) "__contains__" = some (some (.ref f))) (hf : PySem.W.isFn X.K (.ref f) = true) (F : FnOk X.prog X.w X.K X.mg X.base CX k f fd ps sp) (hr : Room k X.A) (hb : Binds X.K fd ps []) (hx : ∀ σ, PassesAt CX X σ E) : OpR X (compareOp .In) (rInOwn false C sp E) := by
  intro pins s σ H x y v u Q I rx ry h
  obtain ⟨a, dx, fs, rfl, ha, q⟩ := h
  obtain rfl : u = Value.ref a := ry
  show wpAny (model X.prog X.w) X.A (do let b ← contains (.ref a) v; pure (Value.bool b)) (EP X pins σ Q) X.xe s
  refine wpAny_bind (cont_own hs hf F hr hb (hx σ) I rx ha q fun u s' z => ?_)
  obtain ⟨w, H', I', rw', b, rfl, q'⟩ := z
  exact ⟨b, rw', wpAny_pure ⟨.bl b, H', I', rfl, q'⟩⟩
theorem op_notInOwn (hs : PySem.W.findIn X.K (.ref C) "__contains__" = some (some (.ref f))) (hf : PySem.W.isFn X.K (.ref f) = true) (F : FnOk X.prog X.w X.K X.mg X.base CX k f fd ps sp) (hr : Room k X.A) (hb : Binds X.K fd ps []) (hx : ∀ σ, PassesAt CX X σ E) : OpR X (compareOp .NotIn) (rInOwn true C sp E) := by
  intro pins s σ H x y v u Q I rx ry h
  obtain ⟨a, dx, fs, rfl, ha, q⟩ := h
  obtain rfl : u = Value.ref a := ry
  show wpAny (model X.prog X.w) X.A (do let b ← contains (.ref a) v; pure (Value.bool (!b))) (EP X pins σ Q) X.xe s
  refine wpAny_bind (cont_own hs hf F hr hb (hx σ) I rx ha q fun u s' z => ?_)
  obtain ⟨w, H', I', rw', b, rfl, q'⟩ := z
  exact ⟨b, rw', wpAny_pure ⟨.bl (!b), H', I', rfl, q'⟩⟩
/-- what o == x asks -/
def rEqOwn (K : PySem.W.Frag) (C : Addr) (sp : Sp) (E : XK) : R2 := fun x y H Q => ∃ a dx fs tb, x = .ref a ∧ H a = some (.ins C dx fs) ∧ TyX K H y tb ∧ PySem.W.notFirst K C tb = true ∧ sp [x, y] H (fun v H' => ∃ b, v = .bl b ∧ Q (.bl b) H') E
theorem op_eqOwn (hs : PySem.W.findIn X.K (.ref C) "__eq__" = some (some (.ref f))) (hf : PySem.W.isFn X.K (.ref f) = true) (F : FnOk X.prog X.w X.K X.mg X.base CX k f fd ps sp) (hr : Room k X.A) (hb : Binds X.K fd ps []) (hx : ∀ σ, PassesAt CX X σ E) : OpR X (compareOp .Eq) (rEqOwn X.K C sp E) := by
  intro pins s σ H x y v u Q I rx ry h
  obtain ⟨a, dx, fs, tb, rfl, ha, ty, nf, q⟩ := h
  obtain rfl : v = Value.ref a := rx
  obtain ⟨P, Z, p, _⟩ := kit_of I ry ty
  obtain ⟨mA, J, _⟩ := ins_get I.hok ha
  obtain ⟨od, J, _⟩ := J.look
  obtain ⟨m, hF⟩ := I.fr
  show wpAny (model X.prog X.w) X.A (richCompare .Eq (.ref a) u) (EP X pins σ Q) X.xe s
  refine PySem.W.cmp_K (op := .Eq) (tb := tb) hr.units0 hF I.ok.mod.kin J (Z.ty _ _ I.kIn p) nf hs hf ?_
  refine wpAny_mono (run_fnS (E := fun _ => E) (us := [.ref a, u]) (vs := [.ref a, y]) F hr hb (hx σ) I (.cons rfl (.cons ry .nil)) q) (fun w s' z => ?_) fun _ _ z => z
  obtain ⟨w', H', I', rw', b, rfl, q'⟩ := z
  cases (show w = Value.bool b from rw')
  exact ⟨.bl b, H', I', rfl, q'⟩
end
theorem pass5A {X : Cx} : ∀ σ, PassesAt (L2N.CX X.prog X.w) X σ E0 := fun σ pins H s e s' I c => pass5 pins σ H s e s' I c
/-- an own class: what isinstance asks of its objects and of itself -/
structure Ki (K : PySem.W.Frag) (C : Addr) : Prop where
  ha : PySem.W.findIn K (.ref C) "__class__" = some (some (.builtin "object.__class__"))
  hn : PySem.W.specialIn K (.builtin "object.__class__") "__get__" = some (some (.builtin "getset_descriptor.__get__"))
  htk : PySem.W.takesIn K (.builtin "object.__class__") = some true
  hm : PySem.W.mroIn K C (.type "object") = some true
  ic : PySem.W.isClsIn K C = true
  ty : PySem.W.typeIn K (.ref C) = some (.type "type")
theorem Ki.tyx {K : PySem.W.Frag} {C a dx : Addr} {H : Hp} {fs : List (Str × V)} (k : Ki K C) (c : Cls K C) (h : H a = some (.ins C dx fs)) : TyX K H (.ref a) (.ref C) := .base (.ins h c k.ha k.hn k.htk k.hm)
theorem Ki.me {K : PySem.W.Frag} {C : Addr} (k : Ki K C) : PySem.W.kitOne K (.ref C) (.ref C) = some true := by
  unfold PySem.W.kitOne
  rw [if_pos (by simp)]
theorem Ki.of {K : PySem.W.Frag} {C : Addr} {T : String} (k : Ki K C) (s : PySem.W.subIn K (.type T) (.ref C) = some false) : PySem.W.kitOne K (.type T) (.ref C) = some false := by
  have h1' : (PySem.W.clsIn K C).isSome = true := k.ic
  unfold PySem.W.kitOne
  rw [if_neg (by intro h; cases beq_iff_eq.mp h)]
  show (if ((PySem.W.clsIn K C).isSome && PySem.W.typeIn K (.ref C) == some (.type "type")) = true then PySem.W.subIn K (.type T) (.ref C) else none) = _
  rw [h1', k.ty, if_pos (by decide)]
  exact s
theorem nf_me {K : PySem.W.Frag} {C : Addr} : PySem.W.notFirst K C (.ref C) = true := by simp [PySem.W.notFirst]
theorem nf_ty {K : PySem.W.Frag} {C : Addr} {T : String} (s : PySem.W.subIn K (.type T) (.ref C) = some false) : PySem.W.notFirst K C (.type T) = true := by simp [PySem.W.notFirst, s]
/-! ### further readings -/
theorem r_atM {H : Hp} {a C dx : Addr} {fs : List (Str × V)} {m : Str} {R : Prop} (h : H a = some (.ins C dx fs)) (l : fs.lookup m = none) (q : R) : ∃ a' dx' fs', V.ref a = .ref a' ∧ H a' = some (.ins C dx' fs') ∧ fs'.lookup m = none ∧ R := ⟨a, dx, fs, rfl, h, l, q⟩
theorem h_same {H H' : Hp} {a : Addr} {o : HO} (e : Same H H') (h : H a = some o) : H' a = some o := e a o h
theorem h_fr {H H' : Hp} {st a : Addr} {o : HO} (e : Fr st H H') (n : a ≠ st) (h : H a = some o) : H' a = some o := e.k a o n h
theorem r_newO {xs : List V} {H : Hp} {R : Addr → Prop} (hs : xs.length ≤ sizeLine) (h : ∀ p, H p = none → R p) : xs.length ≤ sizeLine ∧ ∀ p, H p = none → R p := ⟨hs, h⟩
theorem fr_new {H H' : Hp} {st p : Addr} {o : HO} (f : Fr st H H') (n : H' p = none) : Fr st H (upd H' p o) := f.trans (Fr.of (same_new n))
theorem fr_same {H H' H2 : Hp} {st : Addr} (f : Fr st H H') (e : Same H' H2) : Fr st H H2 := f.trans (Fr.of e)
theorem sm_new {H H' : Hp} {p : Addr} {o : HO} (f : Same H H') (n : H' p = none) : Same H (upd H' p o) := f.trans (same_new n)
theorem st_new {H : Hp} {st p : Addr} {o : HO} (s : StoreAt H st) (n : H p = none) : StoreAt (upd H p o) st := s.same (same_new n)
theorem r_fldV {K : PySem.W.Frag} {H : Hp} {a C dx : Addr} {fs : List (Str × V)} {f : Str} {v : V} {R : V → Prop} (h : H a = some (.ins C dx fs)) (c : Cls K C) (n : NoAttr K C f) (l : fs.lookup f = some v) (q : R v) : ∃ a' C' dx' fs' v', V.ref a = .ref a' ∧ H a' = some (.ins C' dx' fs') ∧ Cls K C' ∧ NoAttr K C' f ∧ fs'.lookup f = some v' ∧ R v' := ⟨a, C, dx, fs, v, rfl, h, c, n, l, q⟩
end Vb
namespace Vb
open PySem PySem.Spec PyProof.Rows L2
/-! ### texts: their rules under own names, their readings -/
abbrev sg (x : Str) : List Nat := TL.tl x
theorem sg_len (x : Str) : x.length = (sg x).length := TL.len_tl x
theorem sg_ext {x y : Str} (h : sg x = sg y) : x = y := TL.ext_tl h
theorem sg_app (x y : Str) : sg (x ++ y) = sg x ++ sg y := TL.tl_append x y
theorem sg_lit (s : String) : sg (Str.ofString s) = s.toList.map Char.toNat := TL.tl_ofString s
theorem sg_one (c : Nat) : sg ⟨#[c]⟩ = [c] := rfl
theorem len_app (x y : Str) : (x ++ y).length = x.length + y.length := by rw [sg_len, sg_len, sg_len, sg_app, List.length_append]
theorem len_lit (s : String) : (Str.ofString s).length = s.toList.length := by rw [sg_len, sg_lit, List.length_map]
theorem len_one (c : Nat) : (Str.mk #[c]).length = 1 := rfl
section
variable {X : Cx} {K : PySem.W.Frag} {H : Hp} {Q : VK} {σ : L2.St}
def rAddS : R2 := fun x y H Q => ∃ i j, x = .str i ∧ y = .str j ∧ i.length + j.length ≤ sizeLine ∧ Q (.str (i ++ j)) H
theorem op_addS : OpR X (binaryOp .Add) rAddS := L2.op_add_str
theorem r_addS {i j : Str} (h : i.length + j.length ≤ sizeLine) (q : Q (.str (i ++ j)) H) : rAddS (.str i) (.str j) H Q := ⟨i, j, rfl, rfl, h, q⟩
def rMulS : R2 := fun x y H Q => ∃ (z : Str) (k : Int), x = .str z ∧ y = .int k ∧ (k < 1000000 ∧ -1000000 < k ∧ z.length * k.toNat ≤ 16777216) ∧ Q (.str (Txt.mul z k)) H
theorem mul_ok {z : Str} {k : Int} (h : k < 1000000 ∧ -1000000 < k ∧ z.length * k.toNat ≤ 16777216) : PySem.MulOk z k := by
  obtain ⟨h1, h2, h3⟩ := h
  refine ⟨by rw [decide_eq_false (by omega), decide_eq_false (by omega)]; rfl, fun n1 _ => ?_, fun n1 _ => ?_⟩
  · intro hh
    have hk : 0 < k := by omega
    have hm : (z.length : Int) * k ≤ 16777216 := by
      have : ((z.length * k.toNat : Nat) : Int) ≤ 16777216 := by omega
      rw [Int.natCast_mul, Int.toNat_of_nonneg (by omega)] at this
      exact this
    have h4 : (z.length : Int) ≤ (2 ^ 63 - 1) / k := by
      rw [Int.le_ediv_iff_mul_le hk]
      omega
    omega
  · show decide (z.length * k.toNat > PySem.sizeLine) = false
    rw [decide_eq_false]
    show ¬ z.length * k.toNat > 2 ^ 24
    omega
theorem op_mulS : OpR X (binaryOp .Mult) rMulS := by
  intro pins s σ H x y v u Q I rx ry h
  obtain ⟨z, k, rfl, rfl, hk, q⟩ := h
  obtain ⟨t, rfl⟩ := rx
  obtain ⟨t', rfl⟩ := ry
  exact PySem.SB.mul (mul_ok hk) fun t2 tk => ⟨.str (Txt.mul z k), H, I.tok _, ⟨_, rfl⟩, q⟩
theorem r_mulS {z : Str} {k : Int} (h : k < 1000000 ∧ -1000000 < k ∧ z.length * k.toNat ≤ 16777216) (q : Q (.str (Txt.mul z k)) H) : rMulS (.str z) (.int k) H Q := ⟨z, k, rfl, rfl, h, q⟩
theorem mul_len (z : Str) (k : Int) : (Txt.mul z k).length ≤ z.length * k.toNat := by
  unfold Txt.mul
  split
  · exact Nat.zero_le _
  · split
    · rename_i h1 h2
      have : 1 ≤ k.toNat := by omega
      exact Nat.le_mul_of_pos_right _ this
    · show ((List.replicate k.toNat z.cps).foldl (· ++ ·) #[]).size ≤ _
      rw [PySem.size_reps]
      show 0 + k.toNat * z.length ≤ _
      rw [Nat.zero_add, Nat.mul_comm]
      exact Nat.le_refl _
def rInSg (neg : Bool) : R2 := fun x y H Q => ∃ (c : Nat) (z : Str), x = .str ⟨#[c]⟩ ∧ y = .str z ∧ Q (.bl (if neg then !decide (c ∈ sg z) else decide (c ∈ sg z))) H
theorem op_inSg : OpR X (compareOp .In) (rInSg false) := L2.op_in_sign
theorem op_niSg : OpR X (compareOp .NotIn) (rInSg true) := L2.op_notIn_sign
theorem r_inSg {c : Nat} {z : Str} (q : Q (.bl (decide (c ∈ sg z))) H) : rInSg false (.str ⟨#[c]⟩) (.str z) H Q := ⟨c, z, rfl, rfl, q⟩
theorem r_niSg {c : Nat} {z : Str} (q : Q (.bl (!decide (c ∈ sg z))) H) : rInSg true (.str ⟨#[c]⟩) (.str z) H Q := ⟨c, z, rfl, rfl, q⟩
theorem r_inSgV {c : Nat} {x z : Str} (e : sg x = [c]) (q : Q (.bl (decide (c ∈ sg z))) H) : rInSg false (.str x) (.str z) H Q := by
  obtain rfl : x = ⟨#[c]⟩ := sg_ext e
  exact ⟨c, z, rfl, rfl, q⟩
theorem r_ixS {z : Str} {i : Int} {c : Nat} (h : z.length ≤ sizeLine) (e : atI (sg z) i = some c) (q : Q (.str ⟨#[c]⟩) H) : rIxS (.str z) (.int i) H Q := ⟨z, i, c, rfl, rfl, h, e, q⟩
theorem r_cutS {z : Str} {lo hi : Option Int} (h : z.length ≤ sizeLine) (q : Q (.str (cutS z lo hi)) H) : rSlS (.str z) lo hi H Q := ⟨z, rfl, h, q⟩
theorem cut_len (z : Str) (lo hi : Option Int) : (cutS z lo hi).length ≤ z.length := cutS_length z lo hi
def rLenStr : List V → Hp → VK → Prop := fun xs H Q => ∃ z, xs = [.str z] ∧ z.length ≤ sizeLine ∧ Q (.int z.length) H
theorem call_lenS : CallR X (.builtin "len") rLenStr := L2.call_len_str
theorem r_lenS {z : Str} (h : z.length ≤ sizeLine) (q : Q (.int z.length) H) : rLenStr [.str z] H Q := ⟨z, rfl, h, q⟩
theorem call_all (hc : X.calm = true) : CallR X (.builtin "all") (rAll X.K) := L2.cr_all hc
theorem r_all {a : Addr} {bs : List Bool} (h : SqL K H a (bs.map V.bl)) (q : Q (.bl (bs.all id)) H) : rAll K [.ref a] H Q := ⟨a, bs, rfl, h, q⟩
theorem r_cat {l b : Addr} {xs zs : List V} (h1 : H l = some (.lst xs)) (h2 : H b = some (.lst zs)) (h3 : xs.length + zs.length ≤ sizeLine) (q : ∀ p, H p = none → Q (.ref p) (upd H p (.lst (xs ++ zs)))) : rCat (.ref l) (.ref b) H Q := ⟨l, b, xs, zs, rfl, rfl, h1, h2, h3, q⟩
theorem r_repL {l : Addr} {k : Int} {xs : List V} (h1 : H l = some (.lst xs)) (h2 : -1000000 < k ∧ k < 1000000) (h3 : xs.length * k.toNat ≤ sizeLine) (q : ∀ p, H p = none → Q (.ref p) (upd H p (.lst (List.replicate k.toNat xs).flatten))) : rRep (.ref l) (.int k) H Q := ⟨l, k, xs, rfl, rfl, h1, by omega, by omega, h3, q⟩
-- sep.join(xs), s.split(sep), s.upper()
def rJoin (K : PySem.W.Frag) : V → List V → Hp → VK → Prop := fun x xs H Q => ∃ a p, ∃ ys : List Str, x = .str a ∧ xs = [.ref p] ∧ (SqL K H p (ys.map V.str) ∨ SqT K H p (ys.map V.str)) ∧ (ys.map (·.length)).sum + ys.length * a.length ≤ 16777216 ∧ Q (.str (Txt.join a ys)) H
theorem pe_joinN {o e : Expr} {to te : TE} {apos pos : Pos} (ho : PE X o to) (he : PE X e te) (hs : starEach [e] X.env = [(false, eval e X.env)] := by rfl) (hbase : attributeBase o "join" X.env (eval o X.env) = eval o X.env := by rfl) (hline : (apos.endLine == pos.line) = true := by rfl) :
    PE X (.Call (.Attribute o "join" apos) [e] [] pos) (tM1 (rJoin X.K) to te) := L2.pe_join ho he hs hbase hline
theorem r_M1 {r : V → List V → Hp → VK → Prop} {to te : TE} (h : to σ H fun x H1 => (∃ a, x = .str a) ∧ te σ H1 fun y H2 => r x [y] H2 Q) : tM1 r to te σ H Q := h
theorem r_M0 {r : V → List V → Hp → VK → Prop} {to : TE} (h : to σ H fun x H1 => (∃ a, x = .str a) ∧ r x [] H1 Q) : tM0 r to σ H Q := h
theorem r_strA {s : Str} {R : Prop} (q : R) : (∃ a, V.str s = .str a) ∧ R := ⟨⟨s, rfl⟩, q⟩
theorem r_join {a : Str} {p : Addr} {ys : List Str} (h : SqL K H p (ys.map V.str)) (l : (ys.map (·.length)).sum + ys.length * a.length ≤ 16777216) (q : Q (.str (Txt.join a ys)) H) : rJoin K (.str a) [.ref p] H Q := ⟨a, p, ys, rfl, rfl, .inl h, l, q⟩
def rSplit : V → List V → Hp → VK → Prop := fun x xs H Q => ∃ a b, x = .str a ∧ xs = [.str b] ∧ (b.length == 0) = false ∧ a.length + 2 ≤ sizeLine ∧ rNewStrs (Txt.split a b) H Q
theorem pe_splitN {o e : Expr} {to te : TE} {apos pos : Pos} (ho : PE X o to) (he : PE X e te) (hs : starEach [e] X.env = [(false, eval e X.env)] := by rfl) (hbase : attributeBase o "split" X.env (eval o X.env) = eval o X.env := by rfl) (hline : (apos.endLine == pos.line) = true := by rfl) :
    PE X (.Call (.Attribute o "split" apos) [e] [] pos) (tM1 rSplit to te) := L2.pe_split ho he hs hbase hline
theorem r_split {a b : Str} (hb : (b.length == 0) = false) (ha : a.length + 2 ≤ sizeLine) (q : ∀ p, H p = none → Q (.ref p) (upd H p (.lst ((Txt.split a b).map V.str)))) : rSplit (.str a) [.str b] H Q := ⟨a, b, rfl, rfl, hb, ha, q⟩
def rUpper : V → List V → Hp → VK → Prop := fun x xs H Q => ∃ a, x = .str a ∧ xs = [] ∧ a.length ≤ 5592405 ∧ Q (.str (Txt.upper a)) H
theorem pe_upperN {o : Expr} {to : TE} {apos pos : Pos} (ho : PE X o to) (hbase : attributeBase o "upper" X.env (eval o X.env) = eval o X.env := by rfl) (hline : (apos.endLine == pos.line) = true := by rfl) :
    PE X (.Call (.Attribute o "upper" apos) [] [] pos) (tM0 rUpper to) := L2.pe_upper ho hbase hline
theorem r_upper {a : Str} (h : a.length ≤ 5592405) (q : Q (.str (Txt.upper a)) H) : rUpper (.str a) [] H Q := ⟨a, rfl, rfl, h, q⟩
-- walks over a text
theorem r_iStr {te : TE} {R : It → Hp → Prop} (h : te σ H fun v H1 => ∃ x, v = .str x ∧ R (Its x) H1) : iStr te σ H R := h
theorem f_str {x : Str} {R : Str → Prop} (q : R x) : ∃ y, V.str x = .str y ∧ R y := ⟨x, rfl, q⟩
end
theorem at_sg {x : Str} {i c : Nat} (h : x.cps[i]? = some c) : (sg x)[i]? = some c := by
  show x.cps.toList[i]? = some c
  rw [Array.getElem?_toList]
  exact h
section
variable {ts : TS} {nx : L2.St → Hp → Prop} {rt : VK} {σ : L2.St} {H : Hp} {te : TE} {j : Nat}
theorem lp_str {x : Str} {g : TG} (Pv : Nat → L2.St → Hp → Prop) (h0 : Pv 0 σ H) (hs : ∀ i c σ H, (sg x)[i]? = some c → Pv i σ H → g (.str ⟨#[c]⟩) σ H fun σ2 H2 => ts (Ends.mk (Pv (i + 1)) rt nx (Pv (i + 1))) σ2 H2) (hd : ∀ σ H, Pv (sg x).length σ H → nx σ H) : ForW (Its x) g ts nx rt σ H := by
  have e : x.cps.size = (sg x).length := (Array.length_toList).symm
  refine ⟨fun i m σ H => m = (sg x).length - i ∧ i ≤ (sg x).length ∧ Pv i σ H, ⟨_, rfl, Nat.zero_le _, h0⟩, ?_⟩
  rintro i m σ H ⟨rfl, hi, p⟩
  by_cases hc : i = (sg x).length
  · subst hc
    exact .inl ⟨Nat.le_of_eq e, hd _ _ p⟩
  · refine .inr ⟨(by omega : i < x.cps.size), fun σ' H' => Pv (i + 1) σ' H', fun σ' H' q => ⟨(sg x).length - (i + 1), by omega, rfl, by omega, q⟩, ?_⟩
    rintro v H' ⟨rfl, c, hc, rfl⟩
    exact hs i c σ _ (at_sg hc) p
theorem lcw_str {x : Str} {tt : TT} {vs : List Nat} {H1 : Hp} {D : Addr} {Qd : Hp → Prop} (Pv : Nat → Hp → Prop) (h0 : Pv 0 (upd H1 D (.lst []))) (hw : ∀ x, wipe ((wipe σ vs).set j (some x)) vs = wipe σ vs)
    (hs : ∀ i c H, (sg x)[i]? = some c → Pv i H → LcT tt te D (Pv (i + 1)) ((wipe σ vs).set j (some (.str ⟨#[c]⟩))) H) (hd : ∀ H, Pv (sg x).length H → Qd H) : LcW (Its x) (gName j) tt te vs σ H1 D Qd := by
  have e : x.cps.size = (sg x).length := (Array.length_toList).symm
  refine ⟨fun i m H => m = (sg x).length - i ∧ i ≤ (sg x).length ∧ Pv i H, ⟨_, rfl, Nat.zero_le _, h0⟩, ?_⟩
  rintro i m H ⟨rfl, hi, p⟩
  by_cases hc : i = (sg x).length
  · subst hc
    exact .inl ⟨Nat.le_of_eq e, hd _ p⟩
  · refine .inr ⟨(by omega : i < x.cps.size), fun H' => Pv (i + 1) H', fun H' q => ⟨(sg x).length - (i + 1), by omega, rfl, by omega, q⟩, ?_⟩
    rintro v H' ⟨rfl, c, hc, rfl⟩
    exact ⟨hw _, hs i c _ (at_sg hc) p⟩
end
theorem inV_strs (z : Str) (ns : List Str) : inV (.str z) (ns.map V.str) = decide (z ∈ ns) := by
  unfold inV
  rw [List.any_map]
  by_cases h : z ∈ ns
  · rw [decide_eq_true h, List.any_eq_true]
    exact ⟨z, h, by show eqV (.str z) (.str z) = true; simp [eqV]⟩
  · rw [decide_eq_false h, Bool.eq_false_iff]
    intro c
    obtain ⟨y, m, e⟩ := List.any_eq_true.mp c
    have e' : eqV (.str y) (.str z) = true := e
    have : y = z := by simpa [eqV] using e'
    exact h (this ▸ m)
theorem r_inW {K : PySem.W.Frag} {H : Hp} {Q : VK} {a : Addr} {z : Str} {ns : List Str} (h : SqL K H a (ns.map V.str)) (q : Q (.bl (decide (z ∈ ns))) H) : rIn K false (.str z) (.ref a) H Q := by
  refine ⟨a, _, rfl, .inl h, rfl, ?_, ?_⟩
  · rw [List.all_eq_true]
    intro v m
    obtain ⟨y, _, rfl⟩ := List.mem_map.mp m
    rfl
  · rw [if_neg (by decide), inV_strs]
    exact q
theorem at_sgn {l : List Nat} {c : Nat} {z : Int} (j : Nat) (e : z = (j : Int)) (h : l[j]? = some c) : atI l z = some c := by
  rw [e]
  exact atI_nat h
theorem ix_nat {n : Nat} {z : Int} (j : Nat) (e : z = (j : Int)) (h : j < n) : ixN n z = some j := by
  subst e
  unfold ixN
  rw [if_pos (Int.natCast_nonneg j), if_pos (by omega)]
  rfl
theorem nl_sg : sg (Str.ofString "\n") = [10] := by rw [sg_lit]; rfl
theorem sp_sg : sg (Str.ofString " ") = [32] := by rw [sg_lit]; rfl
theorem em_sg : sg (Str.ofString "") = [] := by rw [sg_lit]; rfl
theorem str_nil {s : Str} : s = Str.ofString "" ↔ sg s = [] := ⟨fun h => by rw [h, em_sg], fun h => sg_ext (by rw [h, em_sg])⟩
theorem r_partI {i : Int} {R : Int → Prop} (h : R i) : ∃ j, V.int i = .int j ∧ R j := ⟨i, rfl, h⟩
theorem app_le {x y : Str} {a b : Nat} (h : x.length ≤ a) (k : y.length ≤ b) : (x ++ y).length ≤ a + b := by rw [len_app]; omega
theorem cut_le {x : Str} {lo hi : Option Int} {a : Nat} (h : x.length ≤ a) : (cutS x lo hi).length ≤ a := Nat.le_trans (cutS_length x lo hi) h
theorem lit_le (s : String) : (Str.ofString s).length ≤ s.toList.length := Nat.le_of_eq (len_lit s)
theorem mul_le {x : Str} {k : Int} {a : Nat} (h : x.length ≤ a) : (Txt.mul x k).length ≤ a * k.toNat := Nat.le_trans (mul_len x k) (Nat.mul_le_mul_right _ h)
theorem one_le (c : Nat) : (Str.mk #[c]).length ≤ 1 := Nat.le_refl 1
theorem tokS_mk {K : PySem.W.Frag} {h : Heap} {mg : Str → Option Value} {x : Str} {n : Str} {t : Tok} (KX : K.In h) (G : h.Ns mainGlobals mg) (a : PySem.W.nsIn K mainGlobals x = some (some (.str n t))) : ∃ t, mg x = some (.str n t) := ⟨t, PySem.W.mg_of KX G a⟩
end Vb
namespace Vb
open PySem PySem.Spec PyProof.Rows L2
/-! ### enumerate(t), t a tuple -/
theorem new_enumB {v : Value} {o : Obj} {G : Heap → Prop} (B : Begins v o G) :
    Meets (Builtin.«enumerate.__new__» ⟨[.type "enumerate", v], []⟩) (fun _ R z => G z.heap ∧ R (.ok (.ret (.ref (z.heap.push o).objs.size))) { z with heap := (z.heap.push o).push { cls := .type "enumerate", data := .fields #[.none, .bool false, .ref z.heap.objs.size, rawInt 0, .none, .none] } }) := by
  refine .of_wp fun P w A R z hz => ?_
  obtain ⟨hp, gg, dd, tk, os⟩ := z
  obtain ⟨g1, hz⟩ := hz
  have sb := sub_enumerate
  have begun : ∀ {A1 : Around} {E1 : Value → Shared → Prop} {Q1 : Value → Shared → Prop}, Q1 (.ref hp.objs.size) ⟨hp.push o, gg, dd, tk, os⟩ → wpAny (model P w) A1 (pyIter v) Q1 E1 ⟨hp, gg, dd, tk, os⟩ := fun q => B.iter P w _ _ ⟨hp, gg, dd, tk, os⟩ _ g1 q
  wp_walk using begun
  refine wpAny_stack_any (fun z => ?_)
  refine wpAny_pure ?_
  split
  · rename_i cc _ _ _ _ _
    cases (cc == Value.type "enumerate") <;> (wp_walk using begun; exact ⟨_, rfl, hz⟩)
  · wp_walk using begun
    exact ⟨_, rfl, hz⟩
section
variable {prog : Program} {w : World} {A : Around} {E : Value → Shared → Prop} {s : Shared}
theorem call_enumT {t : Addr} {items : Array Value} {Q : Value → Shared → Prop} (ht : s.heap.IsTuple t items)
    (q : ∀ h', IsEnum h' (s.heap.objs.size + 1) s.heap.objs.size 0 .none → h'.IsTupleIter s.heap.objs.size t 0 → (∀ b o, s.heap.get? b = some o → h'.get? b = some o) → Q (.ref (s.heap.objs.size + 1)) { s with heap := h' }) : wpAny (model prog w) A (call (.type "enumerate") [.ref t]) Q E s := by
  refine callType_new F.called_enumerate (by decide) (F.typeCall_enumerate_1 _) (F.newCall_enumerate_1 _) (fun x => F.args_object_init_2 x _) F.entry_enumerate_new (new_enumB (begins_tuple t items)) ⟨ht, ?_⟩
  generalize ho : ({ cls := .type "tuple_iterator", data := .fields #[.ref t, .int 0 0] } : Obj) = o
  have hf : o.isFreed = false := by rw [← ho]; rfl
  have hs : (s.heap.push o).objs.size = s.heap.objs.size + 1 := Heap.size_push ..
  show _ ∧ _
  rw [hs]
  generalize hu : ({ cls := .type "enumerate", data := .fields #[.none, .bool false, .ref s.heap.objs.size, rawInt 0, .none, .none] } : Obj) = u
  have he : ((s.heap.push o).push u).get? (s.heap.objs.size + 1) = some u := by
    have := Heap.get?_push_size (s.heap.push o) (o := u) (by rw [← hu]; rfl)
    rw [hs] at this
    exact this
  have he2 : IsEnum ((s.heap.push o).push u) (s.heap.objs.size + 1) s.heap.objs.size 0 .none := by
    show ((s.heap.push o).push u).get? (s.heap.objs.size + 1) = some _
    rw [he, ← hu]
  refine ⟨⟨u, he, by rw [← hu]⟩, q _ he2 ?_ (fun b ob hb => Heap.get?_push_of_some _ (Heap.get?_push_of_some _ hb))⟩
  exact ⟨o, Heap.get?_push_of_some _ (Heap.get?_push_size _ hf), by rw [← ho], by rw [← ho]; rfl⟩
end
/-- the tuple at a, which holds xs: each item with its number in a new pair -/
def Iet (K : PySem.W.Frag) (a : Addr) (xs : List V) : It :=
  ⟨fun i H => SqT K H a xs ∧ i < xs.length, fun i H v H' => ∃ T x, v = .ref T ∧ H T = none ∧ H' = upd H T (.tup [.int (i : Nat), x]) ∧ xs[i]? = some x, fun i H => SqT K H a xs ∧ xs.length ≤ i⟩
theorem turn_enumT {P : Program} {w : World} {K : PySem.W.Frag} {elts : List Expr} {kk : Nat} {tpos : Pos} (a e it : Addr) (xs : List V) :
    Turn P w K (.Tuple elts kk tpos) (Iet K a xs) [e, it] e (fun i h => (∃ old, IsEnum h e it ((i : Nat) : Int) old) ∧ h.IsTupleIter it a i ∧ (e ≠ it ∧ a ≠ it) ∧ i ≤ xs.length) where
  mem := List.mem_cons_self
  obj := by
    intro i h st b hb
    obtain ⟨⟨old, he⟩, ⟨o, ho, hc, hd⟩, _⟩ := st
    simp only [List.mem_cons, List.not_mem_nil, or_false] at hb
    rcases hb with rfl | rfl
    · exact ⟨_, he, fun v q => nomatch q⟩
    · exact ⟨o, ho, fun v q => by rw [hd] at q; cases q⟩
  keep := by
    intro i h h' st k
    obtain ⟨⟨old, he⟩, hi, hn⟩ := st
    exact ⟨⟨old, k e (by simp) _ he⟩, hi.at (fun o q => k it (by simp) o q), hn⟩
  item := by
    intro X hP hw hK hc i pins s σ H E I hf st hg
    subst hP; subst hw; subst hK
    obtain ⟨⟨old, he⟩, hit, ⟨hne, hna⟩, hle⟩ := st
    obtain ⟨hq, hx⟩ := hg
    obtain ⟨its, rv, p, hz⟩ := I.tuple hq
    obtain ⟨u, hu, ru⟩ := rv.get (List.getElem?_eq_getElem hx)
    have le := Heap.lt_size he
    have li : it < s.heap.objs.size := by obtain ⟨_, q, _⟩ := hit; exact Heap.lt_size q
    have pt : s.heap.IsTuple a its.toArray := p
    have hea : e ≠ a := fun z => by
      obtain ⟨o, h1, h2, _⟩ := pt
      rw [← z] at h1
      have := he.symm.trans h1
      cases this
      simp at h2
    have hlt : i < its.toArray.size := by
      have := (List.getElem?_eq_some_iff.mp hu).1
      simpa using this
    have D : Draws X.prog X.w X.A.in1 it [it, a] its.toArray.size (fun i v => its.toArray[i]? = some v) (fun i h => h.IsTupleIter it a i ∧ h.IsTuple a its.toArray) := Draws.tuple (show X.A.in1.handled = none from I.ok.hd hc) it a hna its.toArray
    refine wpAny_pyNext_enum_itemD D he ⟨hit, pt⟩ hlt hne (by simp [hne, hea]) fun u' h' tk hP ho hst hT hsz hk => ?_
    obtain rfl : u = u' := by
      have : its[i]? = some u' := by simpa using hP
      rw [hu] at this
      exact Option.some.inj this
    refine ⟨_, rfl, wpAny_letOwnedTupleGo_enum (s := { s with heap := h', toks := tk + 1 }) ho fun h2 he2 sb => ?_⟩
    have hT2 : h2.get? s.heap.objs.size = some { cls := .type "tuple", data := .seq #[.int i tk, u] } := (sb.2 _ (Nat.ne_of_gt le)).trans hT
    have new : ObjOk X.prog X.w (upd H s.heap.objs.size (.tup [.int (i : Nat), xs[i]])) h2 s.heap.objs.size (.tup [.int (i : Nat), xs[i]]) := ⟨size_ok (by show 2 ≤ 16777216; decide), [.int i tk, u], .cons ⟨_, rfl⟩ (.cons ru .nil), ⟨_, hT2, rfl, _, rfl⟩⟩
    have J : Inv X pins σ (upd H s.heap.objs.size (.tup [.int (i : Nat), xs[i]])) { s with heap := h2, toks := tk + 1 } :=
      I.turnedNew (t' := tk + 1) (ch := [e, it]) (fun b ob hb q => (sb.2 b (fun z => hb (by simp [z]))).trans (hk b ob (fun z => hb (by simp [z])) (fun z => hb (by simp [z])) q)) hf (Nat.le_refl _) new
    refine ⟨.ref s.heap.objs.size, _, J, rfl, ⟨_, xs[i], rfl, I.hok.fresh (Nat.le_refl _), rfl, List.getElem?_eq_getElem hx⟩, ⟨⟨u, ?_⟩, hst.1.at (fun o q => (sb.2 it (Ne.symm hne)).trans q), ⟨hne, hna⟩, hx⟩, fun b hb => ?_⟩
    · rw [show ((i + 1 : Nat) : Int) = (i : Int) + 1 by omega]
      exact he2
    · have lb : b < s.heap.objs.size := by
        simp only [List.mem_cons, List.not_mem_nil, or_false] at hb
        rcases hb with rfl | rfl
        · exact le
        · exact li
      rw [upd_ne (Nat.ne_of_lt lb)]
      exact (hf b hb).1
  done := by
    intro X hP hw hK hc i pins s σ H E I hf st hg
    subst hP; subst hw; subst hK
    obtain ⟨⟨old, he⟩, hit, ⟨hne, hna⟩, hle⟩ := st
    obtain ⟨hq, hx⟩ := hg
    obtain ⟨its, rv, p, hz⟩ := I.tuple hq
    have pt : s.heap.IsTuple a its.toArray := p
    have hl := rv.length
    have D : Draws X.prog X.w X.A.in1 it [it, a] its.toArray.size (fun i v => its.toArray[i]? = some v) (fun i h => h.IsTupleIter it a i ∧ h.IsTuple a its.toArray) := Draws.tuple (show X.A.in1.handled = none from I.ok.hd hc) it a hna its.toArray
    have hi : its.toArray.size = i := by simp; omega
    obtain ⟨f0, f1, f2, f3, f4, f5⟩ := hf it (by simp)
    refine wpAny_pyNext_enum_endD D he (by rw [hi]; exact ⟨hit, pt⟩) fun h' eb => ⟨rfl, ?_⟩
    exact I.turned (t' := s.toks) (fun b o hb q => eb b o hb q) f0 f1 f3 f4 f5
  self := by
    intro A i s Q E st q
    obtain ⟨⟨_, he⟩, _⟩ := st
    exact wpAny_pyIter_enum he q
def iEnumT (K : PySem.W.Frag) (ta : TA) : TI := fun σ H R => ta σ H fun vs H1 => ∃ a xs, vs = [.ref a] ∧ SqT K H1 a xs ∧ R (Iet K a xs) H1
theorem pi_enumT {X : Cx} {e : Expr} {ta : TA} {p pos tpos : Pos} {elts : List Expr} {kk : Nat} (hg : Gl X "enumerate") (hm : X.mg "enumerate" = none) (ha : PA X [e] ta) (hs : starEach [e] X.env = [(false, eval e X.env)] := by rfl) :
    PI X (.Tuple elts kk tpos) (.Call (.Name "enumerate" p) [e] [] pos) (iEnumT X.K ta) := by
  refine ⟨fun pins s σ H R I h => ?_⟩
  refine Call_ (ld_blt I hg hm boot_enumerate (callWith_type1 (thn (ha.run pos pins s σ H _ I h) fun us s1 ⟨vs, H1, I1, r1, q1⟩ => ?_) hs rfl))
  obtain ⟨a, xs, ex, hq, q⟩ := q1
  subst ex
  obtain ⟨u0, hu0, r0⟩ := vals1 r1
  subst hu0
  obtain rfl : u0 = Value.ref a := r0
  obtain ⟨its, rv, pt, hz⟩ := I1.tuple hq
  refine call_enumT (t := a) pt fun h' he hit hk => ?_
  refine wpAny_pyIter_enum he ?_
  have I2 : Inv X pins σ H1 { s1 with heap := h' } := I1.kept (t' := s1.toks) hk
  have na : a ≠ s1.heap.objs.size := fun z => by
    obtain ⟨o, ho, _⟩ := pt
    rw [z] at ho
    exact Nat.lt_irrefl _ (Heap.lt_size ho)
  refine ⟨s1.heap.objs.size + 1, [s1.heap.objs.size + 1, s1.heap.objs.size], _, _, H1, rfl, I2, turn_enumT a (s1.heap.objs.size + 1) s1.heap.objs.size xs, ⟨⟨.none, he⟩, hit, ⟨Nat.succ_ne_self _, na⟩, Nat.zero_le _⟩, fun b hb => ?_, q⟩
  have lb : s1.heap.objs.size ≤ b := by
    simp only [List.mem_cons, List.not_mem_nil, or_false] at hb
    rcases hb with rfl | rfl
    · exact Nat.le_add_right _ _
    · exact Nat.le_refl _
  exact I1.fpOk lb (I1.hok.fresh lb)
section
variable {ts : TS} {nx : L2.St → Hp → Prop} {rt : VK} {σ : L2.St} {H : Hp} {te : TE} {K : PySem.W.Frag}
theorem lp_enumT {a : Addr} {xs : List V} {g : TG} (Pv : Nat → L2.St → Hp → Prop) (h0 : Pv 0 σ H) (hl : ∀ i σ H, i ≤ xs.length → Pv i σ H → SqT K H a xs)
    (hs : ∀ i x σ H T, xs[i]? = some x → Pv i σ H → H T = none → g (.ref T) σ (upd H T (.tup [.int (i : Nat), x])) fun σ2 H2 => ts (Ends.mk (Pv (i + 1)) rt nx (Pv (i + 1))) σ2 H2) (hd : ∀ σ H, Pv xs.length σ H → nx σ H) : ForW (Iet K a xs) g ts nx rt σ H := by
  refine ⟨fun i m σ H => m = xs.length - i ∧ i ≤ xs.length ∧ Pv i σ H, ⟨_, rfl, Nat.zero_le _, h0⟩, ?_⟩
  rintro i m σ H ⟨rfl, hi, p⟩
  have q := hl i σ H hi p
  by_cases hc : i = xs.length
  · subst hc
    exact .inl ⟨⟨q, Nat.le_refl _⟩, hd _ _ p⟩
  · refine .inr ⟨⟨q, by omega⟩, fun σ' H' => Pv (i + 1) σ' H', fun σ' H' z => ⟨xs.length - (i + 1), by omega, rfl, by omega, z⟩, ?_⟩
    rintro v H' ⟨T, x, rfl, hT, rfl, hx⟩
    exact hs i x σ _ T hx p hT
theorem r_iEnumT {ta : TA} {R : It → Hp → Prop} (h : ta σ H fun vs H1 => ∃ a xs, vs = [.ref a] ∧ SqT K H1 a xs ∧ R (Iet K a xs) H1) : iEnumT K ta σ H R := h
end
/-! ### a op b, -a by the text's own defs; they may raise -/
section
variable {X : Cx} {CX : CXT} {k : Nat} {f C : Addr} {fd : FuncData} {ps : List Str} {sp : Sp} {E : L2.St → XK} {a b : Expr} {ta tb : TE} {pos : Pos} {op : Operator} {m : Str}
/-- the text's own op of two objects of C, whose answer is an object -/
def tBinP (C : Addr) (sp : Sp) (E : L2.St → XK) (ta tb : TE) : TE := fun σ H Q => ta σ H fun x H1 => tb σ H1 fun y H2 => ∃ a b dx dy fs gs, x = .ref a ∧ y = .ref b ∧ H2 a = some (.ins C dx fs) ∧ H2 b = some (.ins C dy gs) ∧ sp [x, y] H2 (fun v H' => ∃ r, v = .ref r ∧ Q v H') (E σ)
theorem pe_binP (hs : PySem.W.findIn X.K (.ref C) m = some (some (.ref f))) (hf : PySem.W.isFn X.K (.ref f) = true) (hc : PySem.W.selfFirst X.K C = true) (F : FnOk X.prog X.w X.K X.mg X.base CX k f fd ps sp) (hr : Room k X.A) (hb : Binds X.K fd ps []) (hx : ∀ σ, PassesAt CX X σ (E σ)) (hm : PySem.dunder op.info.2 = m)
    (pa : PE X a ta) (pb : PE X b tb) : PE X (.BinOp a op b pos) (tBinP C sp E ta tb) := by
  refine ⟨fun pins s σ H Q I h => ?_⟩
  refine wpAny_BinOp (binT pa pb I (R := fun x y H2 => ∃ a b dx dy fs gs, x = .ref a ∧ y = .ref b ∧ H2 a = some (.ins C dx fs) ∧ H2 b = some (.ins C dy gs) ∧ sp [x, y] H2 (fun v H' => ∃ r, v = .ref r ∧ Q v H') (E σ)) h fun v u s2 x y H2 I2 rx ry q => ?_)
  obtain ⟨o1, o2, dx, dy, fs, gs, rfl, rfl, h1, h2, q⟩ := q
  obtain rfl : v = Value.ref o1 := rx
  obtain rfl : u = Value.ref o2 := ry
  obtain ⟨mA, J1, _⟩ := ins_get I2.hok h1
  obtain ⟨od1, J1, _⟩ := J1.look
  obtain ⟨mB, J2, _⟩ := ins_get I2.hok h2
  obtain ⟨od2, J2, _⟩ := J2.look
  obtain ⟨m', hF⟩ := I2.fr
  refine PySem.W.binop_K hF I2.ok.mod.kin J1 J2.type hc (by rw [hm]; exact hs) hf ?_
  refine wpAny_mono (run_fnS (E := fun _ => E σ) (us := [.ref o1, .ref o2]) (vs := [.ref o1, .ref o2]) F hr hb (hx σ) I2 (.cons rfl (.cons rfl .nil)) q) (fun w' s' z => ?_) fun _ _ z => z
  obtain ⟨v', H', I', rw', r, rfl, q'⟩ := z
  obtain rfl : w' = Value.ref r := rw'
  exact ⟨.ref r, H', I', rfl, q'⟩
def tNegP (C : Addr) (sp : Sp) (E : L2.St → XK) (ta : TE) : TE := fun σ H Q => ta σ H fun x H1 => ∃ a dx fs, x = .ref a ∧ H1 a = some (.ins C dx fs) ∧ sp [x] H1 Q (E σ)
theorem pe_negP (hs : PySem.W.findIn X.K (.ref C) "__neg__" = some (some (.ref f))) (hf : PySem.W.isFn X.K (.ref f) = true) (F : FnOk X.prog X.w X.K X.mg X.base CX k f fd ps sp) (hr : Room k X.A) (hb : Binds X.K fd ps []) (hx : ∀ σ, PassesAt CX X σ (E σ))
    (pa : PE X a ta) : PE X (.UnaryOp .USub a pos) (tNegP C sp E ta) := by
  refine ⟨fun pins s σ H Q I h => ?_⟩
  refine UnaryOp_ (thn (pa.run pins s σ H _ I h) fun v s1 ⟨x, H1, I1, r1, q1⟩ => ?_)
  obtain ⟨o1, dx, fs, rfl, h1, q⟩ := q1
  obtain rfl : v = Value.ref o1 := r1
  obtain ⟨mA, J1, _⟩ := ins_get I1.hok h1
  obtain ⟨od1, J1, _⟩ := J1.look
  obtain ⟨m', hF⟩ := I1.fr
  refine PySem.W.ksp_neg hF I1.ok.mod.kin J1 hs hf ?_
  exact run_fnS (E := fun _ => E σ) (us := [.ref o1]) (vs := [.ref o1]) F hr hb (hx σ) I1 (.cons rfl .nil) q
end
section
variable {X : Cx} {tg l : Expr} {tl : TE} {K : PySem.W.Frag}
/-- a walk over a list or a tuple -/
def iSeq (K : PySem.W.Frag) (tl : TE) : TI := fun σ H R => tl σ H fun x H1 => ∃ a, x = .ref a ∧ (((∃ xs, SqL K H1 a xs) ∧ R (Itl K a) H1) ∨ ((∃ xs, SqT K H1 a xs) ∧ R (Itt K a) H1))
theorem pi_seq (hl : PE X l tl) : PI X tg l (iSeq X.K tl) := by
  refine ⟨fun pins s σ H R I h => ?_⟩
  refine thn (hl.run pins s σ H _ I h) fun v s1 z => ?_
  obtain ⟨x, H1, I1, r1, a, e, q⟩ := z
  subst e
  obtain rfl : v = Value.ref a := r1
  have fr := I1.hok.fresh (Nat.le_refl s1.heap.objs.size)
  have kp : ∀ (ob : Obj) (b : Addr) (o : Obj), s1.heap.get? b = some o → (s1.heap.push ob).get? b = some o := fun ob b o z => Heap.get?_push_of_some _ z
  have ok : ∀ b ∈ [s1.heap.objs.size], FpOk X pins H1 b := fun b hb => by
    obtain rfl := List.mem_singleton.mp hb
    exact I1.fpOk (Nat.le_refl _) fr
  rcases q with ⟨⟨xs, hq⟩, q⟩ | ⟨⟨xs, hq⟩, q⟩
  · obtain ⟨its, rv, pl, _⟩ := I1.list hq
    exact wpAny_pyIter_list pl.isList ⟨s1.heap.objs.size, [s1.heap.objs.size], _, _, H1, rfl, I1.kept (t' := s1.toks) (kp _), turn_list a _, ⟨_, Heap.get?_push_size _ rfl, rfl, rfl⟩, ok, q⟩
  · obtain ⟨its, rv, pt, _⟩ := I1.tuple hq
    exact wpAny_pyIter_tuple (show s1.heap.IsTuple a its.toArray from pt) ⟨s1.heap.objs.size, [s1.heap.objs.size], _, _, H1, rfl, I1.kept (t' := s1.toks) (kp _), turn_tuple a _, ⟨_, Heap.get?_push_size _ rfl, rfl, rfl⟩, ok, q⟩
theorem sqT_same {K : PySem.W.Frag} {H H' : Hp} {a : Addr} {xs : List V} (e : Same H H') (h : SqT K H a xs) : SqT K H' a xs := by
  rcases h with h | h
  · rcases h with h | h
    · exact .inl (.inl (e _ _ h))
    · obtain ⟨o, h⟩ := h
      exact .inl (.inr ⟨o, e _ _ h⟩)
  · exact .inr h
theorem sqT_fr {K : PySem.W.Frag} {H H' : Hp} {a st : Addr} {xs : List V} (f : Fr st H H') (S : StoreAt H st) (h : SqT K H a xs) : SqT K H' a xs := by
  obtain ⟨l, ns, u1, u2, u3, u4, u5, h1, _⟩ := S
  rcases h with h | h
  · rcases h with h | h
    · exact .inl (.inl (f.k _ _ (fun z => by rw [z, h1] at h; cases h) h))
    · obtain ⟨o, h⟩ := h
      exact .inl (.inr ⟨o, f.k _ _ (fun z => by rw [z, h1] at h; cases h) h⟩)
  · exact .inr h
/-- a list or a tuple of these values stands at a -/
def SqA (K : PySem.W.Frag) (H : Hp) (a : Addr) (xs : List V) : Prop := SqL K H a xs ∨ SqT K H a xs
theorem r_iSeq {R : It → Hp → Prop} {σ : L2.St} {H : Hp} (h : tl σ H fun x H1 => ∃ a, x = .ref a ∧ (((∃ xs, SqL K H1 a xs) ∧ R (Itl K a) H1) ∨ ((∃ xs, SqT K H1 a xs) ∧ R (Itt K a) H1))) : iSeq K tl σ H R := h
end
section
variable {ts : TS} {nx : L2.St → Hp → Prop} {rt : VK} {σ : L2.St} {H : Hp} {te : TE} {K : PySem.W.Frag}
theorem lp_seq {a : Addr} {xs : List V} {g : TG} (Pv : Nat → L2.St → Hp → Prop) (h0 : Pv 0 σ H) (hl : SqA K H a xs) (hk : ∀ i σ' H', i ≤ xs.length → Pv i σ' H' → Same H H')
    (hs : ∀ i x σ H, xs[i]? = some x → Pv i σ H → g x σ H fun σ2 H2 => ts (Ends.mk (Pv (i + 1)) rt nx (Pv (i + 1))) σ2 H2) (hd : ∀ σ H, Pv xs.length σ H → nx σ H) :
    ∃ a', V.ref a = .ref a' ∧ (((∃ xs, SqL K H a' xs) ∧ ForW (Itl K a') g ts nx rt σ H) ∨ ((∃ xs, SqT K H a' xs) ∧ ForW (Itt K a') g ts nx rt σ H)) := by
  refine ⟨a, rfl, ?_⟩
  rcases hl with hl | hl
  · exact .inl ⟨⟨xs, hl⟩, lp_list (xs := xs) Pv h0 (fun i σ' H' hi p => (hk i σ' H' hi p).seq hl) hs hd⟩
  · exact .inr ⟨⟨xs, hl⟩, lp_tup (xs := xs) Pv h0 (fun i σ' H' hi p => sqT_same (hk i σ' H' hi p) hl) hs hd⟩
end
/-! ### t[::-1], t a tuple -/
section
open HT
variable {prog : Program} {w : World} {A : Around} {E : Value → Shared → Prop} {s : Shared}
theorem adjust_back (n : Nat) : Builtin.Slice.sliceAdjust none none (-1) (n : Int) = ((n : Int) - 1, -1) := by
  unfold Builtin.Slice.sliceAdjust
  simp
theorem places_back (n : Nat) : Builtin.Slice.slicePlaces ((n : Int) - 1) (-1) (-1) = n := by
  unfold Builtin.Slice.slicePlaces
  rw [if_neg (by decide)]
  split
  · rw [show -(-1 : Int) = 1 from rfl, Int.ediv_one]
    omega
  · show 0 = n
    omega
theorem applied_back {sl : Addr} {vl vu vs : Value} {n : Nat} {Q : Int × Int × Nat → Shared → Prop} (hs : s.heap.IsSliceOf sl vl vu vs) (pl : IsPart vl none) (pu : IsPart vu none) (ps : IsPart vs (some (-1)))
    (q : Q ((n : Int) - 1, -1, n) s) : wpAny (model prog w) A (Builtin.Slice.sliceApplied (.ref sl) (pure (n : Int))) Q E s := by
  obtain ⟨ob, h1, h2, h3⟩ := id hs
  unfold Builtin.Slice.sliceApplied Builtin.Slice.sliceFields
  refine wpAny_bind (wpAny_bind (wpAny_field h1 h3 (x := vl) rfl ?_))
  refine wpAny_bind (wpAny_field h1 h3 (x := vu) rfl ?_)
  refine wpAny_bind (wpAny_field h1 h3 (x := vs) rfl ?_)
  refine wpAny_pure ?_
  refine wpAny_bind (slicePart_ ps ?_)
  show wpAny _ _ (if ((-1 : Int) == 0) = true then _ else _) _ _ s
  rw [if_neg (by decide)]
  refine wpAny_bind (slicePart_ pl ?_)
  refine wpAny_bind (slicePart_ pu ?_)
  refine wpAny_bind (wpAny_pure ?_)
  show wpAny _ _ (match Builtin.Slice.sliceAdjust none none (-1) (n : Int) with | (l, u) => pure (l, (-1 : Int), Builtin.Slice.slicePlaces l u (-1))) _ _ s
  rw [adjust_back]
  show wpAny _ _ (pure ((n : Int) - 1, (-1 : Int), Builtin.Slice.slicePlaces ((n : Int) - 1) (-1) (-1))) _ _ s
  rw [places_back]
  exact wpAny_pure q
theorem pick_back {α : Type} (xs : List α) : (List.range xs.length).filterMap (fun (k : Nat) => xs[((xs.length : Int) - 1 + (k : Int) * (-1)).toNat]?) = xs.reverse := by
  have h : ∀ n, n ≤ xs.length → (List.range n).filterMap (fun (k : Nat) => xs[((xs.length : Int) - 1 + (k : Int) * (-1)).toNat]?) = xs.reverse.take n := by
    intro n
    induction n with
    | zero => intro _; simp
    | succ n ih =>
      intro hn
      rw [List.range_succ, List.filterMap_append, ih (by omega), List.take_add_one]
      have e : ((xs.length : Int) - 1 + (n : Int) * (-1)).toNat = xs.length - 1 - n := by omega
      have e2 : xs.reverse[n]? = xs[xs.length - 1 - n]? := List.getElem?_reverse (by omega)
      rw [e2]
      have hlt : xs.length - 1 - n < xs.length := by omega
      have e3 : [n].filterMap (fun (k : Nat) => xs[((xs.length : Int) - 1 + (k : Int) * (-1)).toNat]?) = [xs[xs.length - 1 - n]] := by
        rw [List.filterMap_cons, e, List.getElem?_eq_getElem hlt]
        rfl
      rw [e3, List.getElem?_eq_getElem hlt]
      rfl
  rw [h _ (Nat.le_refl _)]
  exact List.take_of_length_le (by simp)
theorem get_back {t sl : Addr} {its : List Value} {vl vu vs : Value} {Q : Value → Shared → Prop} (ht : IsTup s.heap t its.toArray) (hs : s.heap.IsSliceOf sl vl vu vs) (pl : IsPart vl none) (pu : IsPart vu none) (ps : IsPart vs (some (-1)))
    (q : Q (.ref s.heap.objs.size) { s with heap := s.heap.push { cls := .type "tuple", data := .seq its.reverse.toArray } }) (hz : its.length ≤ sizeLine) : wpAny (model prog w) A (getItem (.ref t) (.ref sl)) Q E s := by
  obtain ⟨ob, h1, h2, h3⟩ := id hs
  have ty : s.TypeIs (.ref sl) "slice" := ⟨ob, h1, h2⟩
  have fits : sizeOk (.seq its.reverse.toArray) := by
    show its.reverse.toArray.size ≤ sizeLine
    rw [List.size_toArray, List.length_reverse]
    exact hz
  unfold getItem
  refine wpAny_holding ?_
  refine wpAny_bind (wpAny_sequenceKey ht.typeIs (by decide) ?_)
  refine wpAny_bind (wpAny_callSpecial?_slot (name := Str.ofString "__getitem__") ht.typeIs slot_tuple_getitem ?_)
  refine wpAny_call_entry slot_tuple_getitem ht.typeIs entry_tuple_getitem ?_ (args_tuple_getitem _ _)
  show wpAny _ _ (Builtin.Tuple.tupleItemsOf (.ref t) >>= _) _ _ s
  refine wpAny_bind (tupleItemsOf_ ht (wpAny_bind (wpAny_typeOf ty ?_)))
  rw [if_pos (by decide)]
  have sz : its.toArray.size = its.length := List.size_toArray
  refine wpAny_bind (applied_back (n := its.toArray.size) hs pl pu ps ?_)
  have no : ¬ (((its.toArray.size : Int) - 1 == 0 && (-1 : Int) == 1 && its.toArray.size == its.toArray.size) = true) := by simp
  show wpAny _ _ (if ((its.toArray.size : Int) - 1 == 0 && (-1 : Int) == 1 && its.toArray.size == its.toArray.size) = true then _ else _) _ _ s
  rw [if_neg no]
  have pk : ((List.range its.toArray.size).filterMap fun (k : Nat) => its.toArray[((its.toArray.size : Int) - 1 + (k : Int) * (-1)).toNat]?) = its.reverse := by
    rw [sz]
    simp only [List.getElem?_toArray]
    exact pick_back its
  rw [pk]
  first
    | exact wpAny_bind (m := Builtin.Tuple.tupleExact _) (wpAny_newObj_type (wpAny_pure ⟨_, rfl, wpAny_pure q⟩) fits)
    | exact wpAny_bind (m := Builtin.Tuple.tupleExact _) (wpAny_newObj_type (wpAny_bind (wpAny_pure (wpAny_pure ⟨_, rfl, wpAny_pure q⟩))) fits)
    | exact wpAny_bind (wpAny_bind (m := Builtin.Tuple.tupleExact _) (wpAny_newObj_type (wpAny_pure (wpAny_pure ⟨_, rfl, wpAny_pure q⟩)) fits))
    | exact wpAny_bind (wpAny_bind (m := Builtin.Tuple.tupleExact _) (wpAny_newObj_type (wpAny_pure ⟨_, rfl, wpAny_pure q⟩) fits))
end
section
variable {X : Cx}
def tRevT (K : PySem.W.Frag) (te : TE) : TE := fun σ H Q => te σ H fun x H1 => ∃ a xs, x = .ref a ∧ SqT K H1 a xs ∧ ∀ p, H1 p = none → Q (.ref p) (upd H1 p (.tup xs.reverse))
theorem pe_revT {e : Expr} {te : TE} {k : Nat} {p1 p2 p3 pos : Pos} (he : PE X e te) : PE X (.Subscript e (.Slice none none (some (.UnaryOp .USub (.Constant (.int 1) k p1) p2)) p3) pos) (tRevT X.K te) := by
  refine ⟨fun pins s σ H Q I h => ?_⟩
  refine Subscript_ (thn (he.run pins s σ H _ I h) fun v s1 z => ?_)
  obtain ⟨x, H1, I1, r1, a, xs, ex, hx, q⟩ := z
  subst ex
  obtain rfl : v = Value.ref a := r1
  have st : PO X (some (.UnaryOp .USub (.Constant (.int 1) k p1) p2)) (tPart (tUn (rU fun i => .int (-i)) (tC (.int 1)))) := po_some (pe_un un_neg pe_int)
  refine wpAny_Slice (thn (po_none.run pins s1 σ H1 (fun o H2 => o = none ∧ H2 = H1) I1 ⟨rfl, rfl⟩) fun vl s2 z => ?_)
  obtain ⟨l, H2, I2, pl, el, e2⟩ := z
  subst el; subst e2
  refine thn (po_none.run pins s2 σ H2 (fun o H3 => o = none ∧ H3 = H2) I2 ⟨rfl, rfl⟩) fun vu s3 z => ?_
  obtain ⟨u, H3, I3, pu, eu, e3⟩ := z
  subst eu; subst e3
  refine thn (st.run pins s3 σ H3 (fun o H4 => o = some (-1) ∧ H4 = H3) I3 ⟨1, rfl, -1, rfl, rfl, rfl⟩) fun vs s4 z => ?_
  obtain ⟨o, H4, I4, ps, eo, e4⟩ := z
  subst eo; subst e4
  have I5 : Inv X pins σ H4 { s4 with heap := s4.heap.push { cls := .type "slice", data := .fields #[vl, vu, vs] } } := I4.kept (t' := s4.toks) (fun b ob z => Heap.get?_push_of_some _ z)
  obtain ⟨its, r, ht, hz⟩ := I5.tuple hx
  have hlen := r.length
  show wpAny (model X.prog X.w) X.A (subscriptTail e (.Slice none none (some (.UnaryOp .USub (.Constant (.int 1) k p1) p2)) p3) (.ref a) (.ref s4.heap.objs.size)) (EP X pins σ Q) X.xe { s4 with heap := s4.heap.push { cls := .type "slice", data := .fields #[vl, vu, vs] } }
  refine tail_any (ops := [.ref a, .ref s4.heap.objs.size]) ht.typeIs (slot_tuple_getitem.lookup) ?_ (by with_unfolding_all rfl)
  refine get_back ht (Heap.IsSliceOf.new _ vl vu vs) pl pu ps ?_ (by omega)
  refine ⟨.ref _, _, I5.laid (t' := s4.toks) (o := .tup xs.reverse) (fun b ob z => Heap.get?_push_of_some _ z) (Nat.le_refl _) ?_, rfl, q _ (I5.hok.fresh (Nat.le_refl _))⟩
  exact ⟨by rw [List.length_reverse]; exact hz, _, r.reverse, IsTup.new _ _⟩
theorem r_revT {K : PySem.W.Frag} {te : TE} {σ : L2.St} {H : Hp} {Q : VK} (h : te σ H fun x H1 => ∃ a xs, x = .ref a ∧ SqT K H1 a xs ∧ ∀ p, H1 p = none → Q (.ref p) (upd H1 p (.tup xs.reverse))) : tRevT K te σ H Q := h
end
/-! ### a list or a tuple: readings -/
section
variable {K : PySem.W.Frag} {H H' : Hp} {Q : VK} {a : Addr} {xs : List V}
theorem sqA_same (e : Same H H') (h : SqA K H a xs) : SqA K H' a xs := h.elim (fun h => .inl (e.seq h)) (fun h => .inr (sqT_same e h))
theorem r_ixA {z : Int} {v : V} (h : SqA K H a xs) (e : atI xs z = some v) (q : Q v H) : rIx K (.ref a) (.int z) H Q := h.elim (fun h => r_ixSL h e q) (fun h => r_ixST h e q)
theorem r_lenA (h : SqA K H a xs) (q : Q (.int xs.length) H) : rLenS K [.ref a] H Q := h.elim (fun h => r_len h q) (fun h => r_lenT h q)
theorem r_slA {lo hi : Option Int} (h : SqA K H a xs) (q : ∀ t H', Same H H' → SqA K H' t (cutV xs lo hi) → Q (.ref t) H') : rSlL K (.ref a) lo hi H Q ∨ rSlA K (.ref a) lo hi H Q := by
  rcases h with h | h
  · exact .inl ⟨a, xs, rfl, h, fun p n => q p _ (same_new n) (.inl (sq_of upd_same))⟩
  · refine .inr ⟨a, xs, rfl, h, fun z => q a H (Same.refl _) (.inr ?_), fun _ p n => q p _ (same_new n) (.inr (st_of upd_same))⟩
    have e : cutV xs lo hi = xs := by
      unfold cutV
      rw [z.1, z.2]
      simp
    rw [e]
    exact h
theorem r_tupA (h : SqA K H a xs) (q : ∀ t H', Same H H' → SqT K H' t xs → Q (.ref t) H') : rTup K [.ref a] H Q := by
  rcases h with h | h
  · exact r_tupL h fun l n => q l _ (same_new n) (st_of upd_same)
  · exact r_tupT h (q a H (Same.refl _) h)
theorem sqT_upd {o : HO} {C dx : Addr} {fs : List (Str × V)} {b : Addr} (h : SqT K H a xs) (g : H b = some (.ins C dx fs)) : SqT K (upd H b o) a xs := by
  rcases h with h | h
  · rcases h with h | h
    · exact .inl (.inl (h_ne (fun z => by rw [z, g] at h; cases h) h))
    · obtain ⟨u, h⟩ := h
      exact .inl (.inr ⟨u, h_ne (fun z => by rw [z, g] at h; cases h) h⟩)
  · exact .inr h
theorem r_gT2 {σ : L2.St} {C : L2.St → Hp → Prop} {T : Addr} {u v : V} {i j : Nat} (h : SqT K H T [u, v]) (q : C ((σ.set i (some u)).set j (some v)) H) : gTup K 2 (gCons (gName i) (gCons (gName j) gNil)) (.ref T) σ H C := ⟨T, _, rfl, h, rfl, u, _, rfl, v, _, rfl, rfl, q⟩
theorem cut_take {n : Nat} (h : n ≤ xs.length) : cutV xs none (some (n : Int)) = xs.take n := by
  unfold cutV
  have e : HT.sIx xs.length xs.length (some (n : Int)) = n := by
    rw [HT.sIx_nat]
    exact Nat.min_eq_left h
  have e0 : HT.sIx xs.length 0 none = 0 := by
    unfold HT.sIx
    simp
  rw [e, e0]
  simp
end
theorem pe_fldK {X : Cx} {K : PySem.W.Frag} {e : Expr} {f : Str} {pos : Pos} {ta : TE} (hK : X.K = K) (he : PE X e ta) (hb : attributeBase e f X.env (eval e X.env) = eval e X.env) : PE X (.Attribute e f pos) (tFld K ta f) := by
  subst hK
  exact pe_fld he hb
theorem ix_listK {X : Cx} {K : PySem.W.Frag} (hK : X.K = K) : IxR X (rIxL K) := by
  subst hK
  exact ix_list
end Vb
namespace Vb
open PySem PySem.Spec PyProof.Rows L2
/-! ### an own class whose __iter__ hands on a tuple's iterator -/
/-- a heap with room up to n behind it: nothing more stands in it -/
def padB (b : Heap) (n : Nat) : Heap := { b with objs := b.objs ++ Array.replicate (n - b.objs.size) { cls := .none, data := .freed } }
theorem padB_get (b : Heap) (n : Nat) (a : Addr) : (padB b n).get? a = b.get? a := by
  unfold Heap.get? padB
  by_cases h : a < b.objs.size
  · simp only [Array.getElem?_append_left h]
  · have e : b.objs[a]? = none := Array.getElem?_eq_none (Nat.le_of_not_lt h)
    have e2 : (b.objs ++ Array.replicate (n - b.objs.size) ({ cls := .none, data := .freed } : Obj))[a]? = none ∨ (b.objs ++ Array.replicate (n - b.objs.size) ({ cls := .none, data := .freed } : Obj))[a]? = some { cls := .none, data := .freed } := by
      rw [Array.getElem?_append_right (Nat.le_of_not_lt h), Array.getElem?_replicate]
      split
      · exact .inr rfl
      · exact .inl rfl
    rcases e2 with e2 | e2 <;> simp only [e, e2]
theorem padB_size {b : Heap} {n : Nat} (h : b.objs.size ≤ n) : (padB b n).objs.size = n := by
  show (b.objs ++ Array.replicate (n - b.objs.size) _).size = n
  rw [Array.size_append, Array.size_replicate]
  omega
theorem padB_keep {b : Heap} {n : Nat} : ∀ a o, b.get? a = some o → (padB b n).get? a = some o := fun a o e => (padB_get b n a).trans e
theorem padB_mod {K : PySem.W.Frag} {mg : Str → Option Value} {b : Heap} {n : Nat} (m : Mod K mg b) : Mod K mg (padB b n) := by
  obtain ⟨mb, h1, h2⟩ := m.blt
  exact ⟨m.kin.keeps padB_keep, m.glob.keeps padB_keep, ⟨mb, h1.keeps padB_keep, h2⟩, m.nolimit.keeps padB_keep⟩
theorem padB_funs {b h : Heap} {n : Nat} : ∀ {l : List Env}, h.FunFrames b l → h.FunFrames (padB b n) l
  | [], q => q
  | e :: l, ⟨k, ⟨L, o, f, g, r⟩, q⟩ => ⟨k, ⟨L, o, f, (padB_get b n L).trans g, r⟩, padB_funs q⟩
theorem padB_env {P : Program} {w : World} {K : PySem.W.Frag} {mg : Str → Option Value} {base : Heap} {A : Around} {outer : List Env} {s : Shared} {H : Hp} (e : Env0 P w K mg base A outer s H) : Env0 P w K mg (padB base s.heap.objs.size) A outer s H :=
  ⟨e.frames, padB_mod e.mod, fun b o z => e.bs b o ((padB_get _ _ b).symm.trans z), by rw [padB_size e.bsz]; exact Nat.le_refl _, padB_funs e.funs, e.frf, e.hok, e.bare⟩
/-- at it an iterator over the tuple at t, the next place is i -/
def TiO (t it : Addr) (i : Nat) : HO := .ext fun h => h.IsTupleIter it t i
theorem tiO_ok {P : Program} {w : World} {H : Hp} {h : Heap} {t it : Addr} {i : Nat} (e : h.IsTupleIter it t i) : ObjOk P w H h it (TiO t it i) := ⟨e, e.elim fun o z => ⟨o, z.1⟩, fun _ _ q k => q.at (fun o z => k _ z)⟩
def rIterT (K : PySem.W.Frag) (n : Nat) : List V → Hp → VK → Prop := fun xs H Q => ∃ (t : Addr) (zs : List V), xs = [.ref t] ∧ SqT K H t zs ∧ ∀ it, H it = none → n ≤ it → Q (.ref it) (upd H it (TiO t it 0))
theorem call_iterT {X : Cx} : CallR X (.builtin "iter") (rIterT X.K X.base.objs.size) := by
  intro pins s σ H xs us Q I r h
  obtain ⟨t, zs, rfl, hq, q⟩ := h
  obtain rfl := Vals.ref1 r
  obtain ⟨its, rv, pt, hz⟩ := I.tuple hq
  refine Calls.call_function_entry (by decide +kernel) (by decide +kernel) PySem.W.kdk_entry_iter (PySem.W.kdk_args_iter _) ?_
  unfold Builtin.«iter»
  refine wpAny_bind (m := someArgs "iter" 1 2 _) (wpAny_of_eq (a := [Value.ref t]) (by first | rfl | kernel_rfl!) ?_)
  show wpAny _ _ (pyIter (.ref t) >>= _) _ _ _
  refine wpAny_bind (wpAny_pyIter_tuple (show s.heap.IsTuple t its.toArray from pt) (wpAny_pure ⟨_, rfl, ?_⟩))
  have z : (s.heap.push { cls := .type "tuple_iterator", data := .fields #[.ref t, .int 0 0] }).IsTupleIter s.heap.objs.size t 0 := ⟨_, Heap.get?_push_size _ rfl, rfl, rfl⟩
  exact ⟨.ref s.heap.objs.size, _, I.laid (t' := s.toks) (fun b u e => Heap.get?_push_of_some _ e) (Nat.le_refl _) (tiO_ok z), rfl, q _ (I.hok.fresh (Nat.le_refl _)) (Nat.le_trans I.ok.bsz I.sz)⟩
/-- what such an __iter__ promises, its attribute told -/
def sp_iter (K : PySem.W.Frag) (C : Addr) (at_ : Str) (n : Nat) : Sp := fun vs H Q _ => ∃ (a dx t : Addr) (fs : List (Str × V)) (zs : List V), vs = [.ref a] ∧ H a = some (.ins C dx fs) ∧ fs.lookup at_ = some (.ref t) ∧ SqT K H t zs ∧
  ∀ it, H it = none → n ≤ it → Q (.ref it) (upd H it (TiO t it 0))
section
variable {X : Cx} {k : Nat} {f C : Addr} {fd : FuncData} {ps : List Str} {at_ : Str} {tg e : Expr} {te : TE}
/-- __iter__ is called: behind it its iterator stands, younger than the call -/
theorem own_pyIter {pins : List (Addr × Obj)} {s : Shared} {σ : L2.St} {H : Hp} {a dx t : Addr} {fs : List (Str × V)} {zs : List V} {A1 : Around} {Q E : Value → Shared → Prop} (hs : PySem.W.findIn X.K (.ref C) "__iter__" = some (some (.ref f))) (hf : PySem.W.isFn X.K (.ref f) = true)
    (F : ∀ b : Heap, FnOk X.prog X.w X.K X.mg b (L2N.CX X.prog X.w) k f fd ps (sp_iter X.K C at_ b.objs.size)) (sb : Sub X k A1) (hb : Binds X.K fd ps []) (I : Inv X pins σ H s) (ha : H a = some (.ins C dx fs)) (hl : fs.lookup at_ = some (.ref t)) (ht : SqT X.K H t zs)
    (herr : ∀ e s', X.xe e s' → E e s') (hq : ∀ it s', Inv X pins σ (upd H it (TiO t it 0)) s' → H it = none → s.heap.objs.size ≤ it → Q (.ref it) s') : wpAny (model X.prog X.w) A1 (pyIter (.ref a)) Q E s := by
  obtain ⟨mA, J, _⟩ := ins_get I.hok ha
  obtain ⟨od, J, _⟩ := J.look
  obtain ⟨m0, hF⟩ := I.fr
  refine PySem.W.owit_iter hF I.ok.mod.kin J hs hf ?_
  have e0 : Env0 X.prog X.w X.K X.mg (padB X.base s.heap.objs.size) A1 X.stack s H := by
    have e := I.env0
    refine padB_env ⟨?_, e.mod, e.bs, e.bsz, e.funs, e.frf, e.hok, e.bare⟩
    rw [sb.fr]
    exact e.frames
  have r2 : Vals [V.ref a] [Value.ref a] := .cons rfl .nil
  have hsp : sp_iter X.K C at_ (padB X.base s.heap.objs.size).objs.size [.ref a] H (fun v H' => ∃ it, v = .ref it ∧ H' = upd H it (TiO t it 0) ∧ H it = none ∧ s.heap.objs.size ≤ it) E0 :=
    ⟨a, dx, t, fs, zs, rfl, ha, hl, ht, fun it n1 n2 => ⟨it, rfl, rfl, n1, by rw [padB_size (Nat.le_trans I.ok.bsz I.sz)] at n2; exact n2⟩⟩
  have hlen := (F _).len _ _ _ _ hsp
  refine wpAny_call (codeAny_mono ((F _).run A1 X.stack s H ⟨[.ref a], []⟩ [.ref a] [.ref a] _ E0 sb.room e0 (by
    have z := hb s [.ref a] I.kIn (by simpa using hlen)
    simpa using z) r2 hsp) fun r s' hq' => ?_)
  cases r with
  | error e => exact herr e s' (pass5 (X := X) pins σ H s e s' I hq')
  | ok fl =>
    cases fl with
    | next => exact False.elim hq'
    | brk => exact False.elim hq'
    | cont => exact False.elim hq'
    | ret u =>
      obtain ⟨v, H', I', rv, it, ev, eH, n1, n2⟩ := I.after hq'
      subst ev
      subst eH
      cases rv
      have st : s'.heap.IsTupleIter it t 0 := (I'.hok it _ upd_same).1
      unfold PySem.W.OwitIt
      exact wpAny_specialOf (name := "__next__") st.typeIs PySem.F.slot_tuple_iterator_next.lookup (hq it s' I' n1 n2)
end
end Vb
namespace Vb
open PySem PySem.Spec PyProof.Rows L2
section
variable {X : Cx} {k : Nat} {f C : Addr} {fd : FuncData} {ps : List Str} {at_ : Str} {tg e : Expr} {te : TE}
/-- a walk over such an object -/
def iOwn (K : PySem.W.Frag) (C : Addr) (at_ : Str) (te : TE) : TI := fun σ H R => te σ H fun x H1 => ∃ (a dx t : Addr) (fs : List (Str × V)) (zs : List V), x = .ref a ∧ H1 a = some (.ins C dx fs) ∧ fs.lookup at_ = some (.ref t) ∧ SqT K H1 t zs ∧ R (Itt K t) H1
theorem pi_own (hs : PySem.W.findIn X.K (.ref C) "__iter__" = some (some (.ref f))) (hf : PySem.W.isFn X.K (.ref f) = true) (F : ∀ b : Heap, FnOk X.prog X.w X.K X.mg b (L2N.CX X.prog X.w) k f fd ps (sp_iter X.K C at_ b.objs.size)) (hr : Room k X.A) (hb : Binds X.K fd ps []) (he : PE X e te) : PI X tg e (iOwn X.K C at_ te) := by
  refine ⟨fun pins s σ H R I h => ?_⟩
  refine thn (he.run pins s σ H _ I h) fun v s1 z => ?_
  obtain ⟨x, H1, I1, r1, a, dx, t, fs, zs, ex, ha, hl, ht, q⟩ := z
  subst ex
  obtain rfl : v = Value.ref a := r1
  refine own_pyIter hs hf F ⟨hr, rfl⟩ hb I1 ha hl ht (fun _ _ z => z) fun it s2 I2 n1 n2 => ?_
  have st : s2.heap.IsTupleIter it t 0 := (I2.hok it _ upd_same).1
  have I3 := ItX.inv_drop I2 (show upd H1 it (TiO t it 0) it = some (.ext _) from upd_same)
  have fp := ItX.inv_fp I2 (u := TiO t it 0) upd_same (Nat.le_trans I1.sz n2)
  rw [ItX.dropH_upd n1] at I3 fp
  refine ⟨it, [it], _, _, H1, rfl, I3, turn_tuple t it, st, fun b hb => ?_, q⟩
  obtain rfl := List.mem_singleton.mp hb
  exact fp
theorem r_iOwn {K : PySem.W.Frag} {σ : L2.St} {H : Hp} {R : It → Hp → Prop} (h : te σ H fun x H1 => ∃ (a dx t : Addr) (fs : List (Str × V)) (zs : List V), x = .ref a ∧ H1 a = some (.ins C dx fs) ∧ fs.lookup at_ = some (.ref t) ∧ SqT K H1 t zs ∧ R (Itt K t) H1) : iOwn K C at_ te σ H R := h
/-- the list at q is filled by the iterator at it -/
theorem ti_loop {pins : List (Addr × Obj)} {σ : L2.St} {H : Hp} {t it q : Addr} {zs : List V} {A1 : Around} {Rs : Result → Shared → Prop} (hA : A1.in1.handled = none) (hn : H it = none) (hq0 : H q = none) (ne : q ≠ it) (hit : X.s_0.heap.objs.size ≤ it) (ht : SqT X.K H t zs) (hz : zs.length ≤ 1000000)
    (herr : ∀ e s, X.xe e s → Rs (.error e) s) (hdone : ∀ s, Inv X pins σ (upd H q (.lst zs)) s → Rs (.ok (.ret .none)) s) :
    ∀ (m i : Nat) (Hs : Hp) (s : Shared), m = zs.length - i → i ≤ zs.length → Hs q = some (.lst (zs.take i)) → Hs it = some (TiO t it i) → (∀ b, b ≠ q → b ≠ it → Hs b = H b) → Inv X pins σ Hs s → codeAny (model X.prog X.w) A1 (.builtin "list.extend.loop" ⟨[.ref q, .ref it, .none], []⟩) Rs s := by
  intro m
  induction m with
  | zero =>
    intro i Hs s hm hi e1 e2 e3 I
    obtain rfl : i = zs.length := by omega
    have st : s.heap.IsTupleIter it t zs.length := (I.hok it _ e2).1
    have sm : Same H Hs := fun b o hb => (e3 b (fun z => by rw [z, hq0] at hb; cases hb) (fun z => by rw [z, hn] at hb; cases hb)).trans hb
    obtain ⟨its, rv, pt, _⟩ := I.tuple (same_sqt sm ht)
    have hl := rv.length
    have I1 := ItX.inv_drop I (show Hs it = some (.ext _) from e2)
    have fp := ItX.inv_fp I e2 hit
    have eH : ItX.dropH Hs it = upd H q (.lst zs) := by
      funext b
      by_cases hb : b = it
      · rw [hb, ItX.dropH_same, upd_ne (Ne.symm ne), hn]
      · rw [ItX.dropH_ne hb]
        by_cases hc : b = q
        · rw [hc, upd_same, e1, List.take_length]
        · rw [upd_ne hc, e3 b hc hb]
    rw [eH] at I1 fp
    obtain ⟨f0, f1, f2, f3, f4, f5⟩ := fp
    refine codeAny_builtin PySem.F.entry_extend_loop ?_
    rw [Around.under_plainId PySem.F.plain_extend_loop _]
    show wpAny _ A1.in1 (pyNext (.ref it) >>= _) _ _ s
    refine wpAny_bind (wpAny_pyNext_tuple_end hA st (show s.heap.IsTuple t its.toArray from pt) (by simp; omega) fun h' eb => wpAny_pure (hdone _ (I1.turned (t' := s.toks) (fun b o hb z => eb b o hb z) f0 f1 f3 f4 f5)))
  | succ m ih =>
    intro i Hs s hm hi e1 e2 e3 I
    have st : s.heap.IsTupleIter it t i := (I.hok it _ e2).1
    have sm : Same H Hs := fun b o hb => (e3 b (fun z => by rw [z, hq0] at hb; cases hb) (fun z => by rw [z, hn] at hb; cases hb)).trans hb
    obtain ⟨its, rv, pt, _⟩ := I.tuple (same_sqt sm ht)
    have hl := rv.length
    obtain ⟨u, hu, ru⟩ := rv.get (List.getElem?_eq_getElem (by omega : i < zs.length))
    refine codeAny_builtin PySem.F.entry_extend_loop ?_
    rw [Around.under_plainId PySem.F.plain_extend_loop _]
    show wpAny _ A1.in1 (pyNext (.ref it) >>= _) _ _ s
    refine wpAny_bind (wpAny_pyNext_tuple_item st (show s.heap.IsTuple t its.toArray from pt) (x := u) (by simpa using hu) fun h' st' sb => ?_)
    have I1 : Inv X pins σ (upd Hs it (TiO t it (i + 1))) { s with heap := h' } := I.write (x := it) (e := it) (t' := s.toks) (by rw [e2]; exact True.intro) (.inl rfl) (fun b o nb z => (sb.2 b nb).trans z) (st'.elim fun o z => ⟨o, z.1⟩) (tiO_ok st')
    have e1' : upd Hs it (TiO t it (i + 1)) q = some (.lst (zs.take i)) := by rw [upd_ne ne]; exact e1
    show wpAny _ A1.in1 (updateSeq q (·.push u) >>= _) _ _ _
    obtain ⟨z, its2, k2, r2, hl2, ee⟩ := I1.lstM e1'
    have hts : (zs.take i).length = i := by rw [List.length_take]; omega
    refine wpAny_bind (wpAny_updateSeq ee rfl (wpAny_pure ⟨plainId_quiet PySem.F.plain_extend_loop _, ?_⟩) (by rw [List.size_toArray, sizeLine_eq]; omega) (by show (its2.toArray.push u).size ≤ sizeLine + 1; rw [Array.size_push, List.size_toArray, sizeLine_eq]; omega))
    have et : zs.take (i + 1) = zs.take i ++ [zs[i]] := by rw [List.take_add_one, List.getElem?_eq_getElem (by omega : i < zs.length)]; rfl
    refine ih (i + 1) (upd (upd Hs it (TiO t it (i + 1))) q (.lst (zs.take (i + 1)))) _ (by omega) (by omega) upd_same (by rw [upd_ne (Ne.symm ne), upd_same]) (fun b h1 h2 => by rw [upd_ne h1, upd_ne h2, e3 b h1 h2]) ?_
    exact I1.lset (its' := its2 ++ [u]) (t' := s.toks) e1' ee (by simp) (by rw [et]; exact r2.append (.cons ru .nil)) (by rw [List.length_take, sizeLine_eq]; omega)
/-- list(o) -/
def rListOwn (K : PySem.W.Frag) (C : Addr) (at_ : Str) : List V → Hp → VK → Prop := fun xs H Q => ∃ (a dx t : Addr) (fs : List (Str × V)) (zs : List V), xs = [.ref a] ∧ H a = some (.ins C dx fs) ∧ fs.lookup at_ = some (.ref t) ∧ SqT K H t zs ∧ zs.length ≤ 1000000 ∧ ∀ q, H q = none → Q (.ref q) (upd H q (.lst zs))
theorem call_listIt (hc : X.calm = true) (hs : PySem.W.findIn X.K (.ref C) "__iter__" = some (some (.ref f))) (hf : PySem.W.isFn X.K (.ref f) = true) (hnl : PySem.W.findIn X.K (.ref C) "__len__" = some none) (hnh : PySem.W.findIn X.K (.ref C) "__length_hint__" = some none)
    (F : ∀ b : Heap, FnOk X.prog X.w X.K X.mg b (L2N.CX X.prog X.w) k f fd ps (sp_iter X.K C at_ b.objs.size)) (hr : Room (k + 2) X.A) (hb : Binds X.K fd ps []) : CallR X (.type "list") (rListOwn X.K C at_) := by
  intro pins s σ H xs us Q I rv h
  obtain ⟨a, dx, t, fs, zs, rfl, ha, hl, ht, hz, hq⟩ := h
  obtain ⟨u, rfl, ru⟩ := rv.one
  cases ru
  have sb : Sub X k X.A.in1.in1 := Sub.in1 (Sub.in1 (show Sub X (k + 2) X.A from ⟨hr, rfl⟩))
  let O : Obj := { cls := .type "list", data := .seq #[] }
  refine callType_codes (Q₁ := fun ob s1 => ob = .ref s.heap.objs.size ∧ s1 = { s with heap := s.heap.push O }) PySem.F.called_list
    (PySem.F.typeCall_list_1 _) PySem.F.entry_list_init (code_list_new _ ⟨rfl, rfl⟩) fun ob s1 hob => ?_
  obtain ⟨rfl, rfl⟩ := hob
  have hS : (s.heap.push O).get? s.heap.objs.size = some O := Heap.get?_push_size _ rfl
  refine ⟨⟨_, hS, rfl⟩, PySem.F.args_list_init_2 _ _, ?_⟩
  have fr : H s.heap.objs.size = none := I.hok.fresh (Nat.le_refl _)
  have I1 : Inv X pins σ (upd H s.heap.objs.size (.lst [])) { s with heap := s.heap.push O } := I.lnew (its := []) (t' := s.toks) .nil (Nat.zero_le _)
  show wpAny _ _ (do let old ← Builtin.List.listItems (.ref s.heap.objs.size); Builtin.List.listUpdate (.ref s.heap.objs.size) (fun _ => #[])
                     letGo old.toList.reverse; Builtin.List.listExtendWith (.ref s.heap.objs.size) (.ref a) .none) _ _ _
  refine wpAny_bind ?_
  unfold Builtin.List.listItems
  refine wpAny_bind (wpAny_seqItems hS rfl (wpAny_pure ?_))
  show wpAny _ _ (updateSeq s.heap.objs.size (fun _ => #[]) >>= fun _ => letGo (#[] : Array Value).toList.reverse >>= fun _ =>
    Builtin.List.listExtendWith (.ref s.heap.objs.size) (.ref a) .none) _ _ _
  refine wpAny_bind (wpAny_updateSeq hS rfl ?_)
  have I2 := I1.lset (f := fun _ => #[]) (its := []) (its' := []) (ys := []) (t' := s.toks) upd_same hS rfl .nil (Nat.zero_le _)
  rw [upd_upd] at I2
  refine wpAny_bind (wpAny_letGo ?_)
  have ha2 : upd H s.heap.objs.size (.lst []) a = some (.ins C dx fs) := h_new fr ha
  have hne : s.heap.objs.size ≠ a := fun z => by rw [← z, fr] at ha; cases ha
  have ht2 := same_sqt (same_new (o := HO.lst []) fr) ht
  -- the walk's start
  obtain ⟨mA, J, _⟩ := ins_get I2.hok ha2
  obtain ⟨od, J, _⟩ := J.look
  unfold Builtin.List.listExtendWith
  refine wpAny_bind (J.type.here ?_)
  have n1 : Builtin.List.listSameRef (.ref s.heap.objs.size) (.ref a) = false := by simp [Builtin.List.listSameRef, hne]
  have n2 : (Value.ref C == Value.type "list") = false := rfl
  have n3 : (Value.ref C == Value.type "tuple") = false := rfl
  simp only [n1, n2, n3, Bool.or_false, Bool.false_eq_true, if_false]
  have hs2 : s.heap.objs.size < (s.heap.push O).objs.size := by rw [Heap.size_push]; exact Nat.lt_succ_self _
  refine wpAny_bind (own_pyIter hs hf F sb hb I2 ha2 hl ht2 (fun e s' z => z) fun it s' I3 m1 m2 => ?_)
  have nq : s.heap.objs.size ≠ it := fun z => by rw [← z, upd_same] at m1; cases m1
  have hn : H it = none := by rw [upd_ne (Ne.symm nq)] at m1; exact m1
  have young : X.s_0.heap.objs.size ≤ it := Nat.le_trans I2.sz m2
  have ha3 : upd (upd H s.heap.objs.size (.lst [])) it (TiO t it 0) a = some (.ins C dx fs) := h_new m1 ha2
  obtain ⟨mA', J', _⟩ := ins_get I3.hok ha3
  obtain ⟨od', J', _⟩ := J'.look
  have fin : ∀ s4, Inv X pins σ (upd (upd H s.heap.objs.size (.lst [])) it (TiO t it 0)) s4 → codeAny (model X.prog X.w) X.A.in1 (.builtin "list.extend.loop" ⟨[.ref s.heap.objs.size, .ref it, .none], []⟩)
      (wants (fun r s2 => r = .none ∧ EP X pins σ Q (.ref s.heap.objs.size) s2) X.xe) s4 := fun s4 I4 =>
    ti_loop (A1 := X.A.in1) (zs := zs) (I4.ok.hd hc) hn fr nq young ht hz (fun e s5 z => z) (fun s5 I5 => ⟨rfl, .ref s.heap.objs.size, _, I5, rfl, hq _ fr⟩) zs.length 0 _ s4 (by omega) (by omega)
      (by rw [upd_ne nq, upd_same]; rfl) upd_same (fun b h1 h2 => by rw [upd_ne h2, upd_ne h1]) I4
  refine wpAny_bind (wpAny_holding ?_)
  unfold Builtin.List.listLengthHint
  refine wpAny_bind (wpAny_bind (J'.type.here ((PySem.W.looks_findIn I3.kIn hnl).here ?_)))
  refine PySem.W.KFB.if_not rfl (PySem.W.KFB.if_not rfl ?_)
  refine wpAny_bind (wpAny_bind (J'.type.here ((PySem.W.looks_findIn I3.kIn hnh).here ?_)))
  refine wpAny_pure ?_
  obtain ⟨z, its, k0, r3, hl3, e3⟩ := I3.lstM (xs := []) (l := s.heap.objs.size) (by rw [upd_ne nq, upd_same])
  cases r3
  refine wpAny_ite_split (fun _ => ?_) (fun _ => wpAny_pure ⟨plainId_quiet PySem.F.plain_extend_loop _, fin s' I3⟩)
  refine wpAny_bind (wpAny_rule (wpAny_bind ?_))
  show wpAny _ _ (updateSeq s.heap.objs.size (·.push .none) >>= fun _ => updateSeq s.heap.objs.size (·.pop)) _ _ _
  refine wpAny_bind (wpAny_updateSeq e3 rfl ?_)
  have eQ : upd (upd H s.heap.objs.size (.lst [])) it (TiO t it 0) s.heap.objs.size = some (.lst []) := by rw [upd_ne nq, upd_same]
  have I4 := I3.lset (f := (·.push Value.none)) (its' := [Value.none]) (ys := [.non]) (t' := s'.toks) eQ e3 (by simp) (.cons rfl .nil) (by rw [List.length_singleton, sizeLine_eq]; decide)
  obtain ⟨z4, its4, k4, r4, hl4, e4⟩ := I4.lstM upd_same
  obtain ⟨u4, rfl, ru4⟩ := r4.one
  refine wpAny_updateSeq e4 rfl (wpAny_pure ⟨plainId_quiet PySem.F.plain_extend_loop _, fin _ ?_⟩) (by show 1 ≤ sizeLine; rw [sizeLine_eq]; decide) (by show 0 ≤ sizeLine + 1; exact Nat.zero_le _)
  have I5 := I4.lset (f := (·.pop)) (its := [u4]) (its' := []) (ys := []) (t' := s'.toks) upd_same e4 (by rfl) .nil (Nat.zero_le _)
  rw [upd_upd] at I5
  have hH : ∀ G : Hp, G s.heap.objs.size = some (.lst []) → upd G s.heap.objs.size (.lst []) = G := fun G hG => by
    funext b
    by_cases hb : b = s.heap.objs.size
    · rw [hb, upd_same, hG]
    · rw [upd_ne hb]
  rw [hH _ eQ] at I5
  exact I5
end
end Vb
namespace Vb
open PySem PySem.Spec PyProof.Rows L2
theorem prop_mk {K : PySem.W.Frag} {C : Addr} {f : Str} {p g : Addr} {rest : List Value} (a : PySem.W.findIn K (.ref C) f = some (some (.ref p))) (b : PySem.W.specialIn K (.ref p) "__get__" = some (some (.builtin "property.__get__"))) (c : PySem.W.takesIn K (.ref p) = some true)
    (d : PySem.W.recIn K p "property" = some (.ref g :: rest)) : PropOf K C f p g := ⟨a, b, c, rest, d⟩
end Vb
namespace K
open PySem PySem.Spec PyProof.Rows L2
def topS (i : Nat) : Stmt := PySem.Challenge.pw_sumtalk_k46_best_unit_has_most_roots.main.body.getD i (.Pass ⟨0, 0, 0, 0⟩)
abbrev s__wall : Stmt := topS 0
abbrev s_NotPrime___init__ : Stmt := inClass (topS 3) 0
abbrev s_NotInField___init__ : Stmt := inClass (topS 4) 0
abbrev s_is_whole : Stmt := topS 11
abbrev s_is_number : Stmt := topS 12
abbrev s_check_number : Stmt := topS 13
abbrev s_check_numbers : Stmt := topS 14
abbrev s_check_range : Stmt := topS 15
abbrev s_check_at_most : Stmt := topS 16
abbrev s_check_field : Stmt := topS 17
abbrev s_is_prime : Stmt := topS 22
abbrev s_check_prime : Stmt := topS 23
abbrev s_power_modulo : Stmt := topS 24
abbrev s_Field___init__ : Stmt := inClass (topS 25) 0
abbrev s_Field___contains__ : Stmt := inClass (topS 25) 1
abbrev s_Field___eq__ : Stmt := inClass (topS 25) 2
abbrev s_Field_add : Stmt := inClass (topS 25) 3
abbrev s_Field_subtract : Stmt := inClass (topS 25) 4
abbrev s_Field_multiply : Stmt := inClass (topS 25) 5
abbrev s_Field_divide : Stmt := inClass (topS 25) 6
abbrev s_Field_negate : Stmt := inClass (topS 25) 7
abbrev s_Field_invert : Stmt := inClass (topS 25) 8
abbrev s_Field_power : Stmt := inClass (topS 25) 9
abbrev s_Field_reduce : Stmt := inClass (topS 25) 10
abbrev s_Field_members : Stmt := inClass (topS 25) 11
abbrev s_without_end_zeros : Stmt := topS 28
abbrev s_added_up : Stmt := topS 29
abbrev s_Poly___init__ : Stmt := inClass (topS 30) 0
abbrev s_Poly___iter__ : Stmt := inClass (topS 30) 1
abbrev s_Poly___eq__ : Stmt := inClass (topS 30) 2
abbrev s_Poly___add__ : Stmt := inClass (topS 30) 3
abbrev s_Poly___sub__ : Stmt := inClass (topS 30) 4
abbrev s_Poly___mul__ : Stmt := inClass (topS 30) 5
abbrev s_Poly___neg__ : Stmt := inClass (topS 30) 6
abbrev s_Poly_degree : Stmt := inClass (topS 30) 7
abbrev s_Poly_at : Stmt := inClass (topS 30) 8
abbrev s_Poly_ends : Stmt := inClass (topS 30) 9
abbrev s_Poly_is_zero : Stmt := inClass (topS 30) 10
abbrev s_Poly_fits : Stmt := inClass (topS 30) 11
abbrev s_Poly_scale : Stmt := inClass (topS 30) 12
abbrev s_Poly_divide : Stmt := inClass (topS 30) 13
abbrev s_Poly_reduced : Stmt := inClass (topS 30) 14
abbrev s_Poly_padded : Stmt := inClass (topS 30) 15
abbrev s_Poly_text : Stmt := inClass (topS 30) 16
abbrev s_constant : Stmt := topS 31
abbrev s_roots_of : Stmt := topS 33
abbrev s_root_factor : Stmt := topS 34
abbrev s_from_roots : Stmt := topS 35
abbrev s_check_degree : Stmt := topS 37
abbrev s_round_roots : Stmt := topS 38
abbrev s_unit_poly : Stmt := topS 40
abbrev s_best_unit : Stmt := topS 41
abbrev s__law_mix : Stmt := topS 43
abbrev s__law_store : Stmt := topS 44
abbrev s__law_take : Stmt := topS 45
abbrev s__law_edge : Stmt := topS 46
abbrev s__law_chance : Stmt := topS 47
abbrev s__law_pick : Stmt := topS 48
abbrev s__law_other_kind : Stmt := topS 49
abbrev s__law_bad_integer : Stmt := topS 50
abbrev s__law_primes : Stmt := topS 51
abbrev s__law_prime : Stmt := topS 52
abbrev s__law_small_prime : Stmt := topS 53
abbrev s__law_unlike : Stmt := topS 54
abbrev s__law_row : Stmt := topS 55
abbrev s__law_bad_prime : Stmt := topS 56
abbrev s__law_same : Stmt := topS 57
abbrev s__law_integer : Stmt := topS 58
abbrev s__law_trim : Stmt := topS 59
abbrev s__law_inverse : Stmt := topS 60
abbrev s__law_poly_value : Stmt := topS 61
abbrev s__law_poly_ends : Stmt := topS 62
abbrev s__law_poly_times : Stmt := topS 63
abbrev s__law_root_poly : Stmt := topS 64
abbrev s__law_roots : Stmt := topS 65
abbrev s__law_with_ends : Stmt := topS 66
abbrev s__law_unit : Stmt := topS 67
abbrev s__law_divided : Stmt := topS 68
abbrev s__law_best_told : Stmt := topS 69
abbrev s__law_other_unit : Stmt := topS 70
abbrev s__law_refused : Stmt := topS 71
abbrev s__law_refusals : Stmt := topS 72
abbrev s_law : Stmt := topS 73
/-! what the top has written -/
structure Txt (K : PySem.W.Frag) (mg : Str → Option Value) where
  C_TalkError : Addr
  x_TalkError : Vb.Xn K mg "TalkError" C_TalkError
  C_NotPrime : Addr
  I_NotPrime : Addr
  i_NotPrime : PySem.Lowvalue.LowTxt K mg "NotPrime" "NotPrime.__init__" C_NotPrime I_NotPrime
  C_NotInField : Addr
  I_NotInField : Addr
  i_NotInField : PySem.Lowvalue.LowTxt K mg "NotInField" "NotInField.__init__" C_NotInField I_NotInField
  C_OtherField : Addr
  x_OtherField : Vb.Xn K mg "OtherField" C_OtherField
  C_DivisionByZero : Addr
  x_DivisionByZero : Vb.Xn K mg "DivisionByZero" C_DivisionByZero
  C_OutOfRange : Addr
  x_OutOfRange : Vb.Xn K mg "OutOfRange" C_OutOfRange
  C_TooLarge : Addr
  x_TooLarge : Vb.Xn K mg "TooLarge" C_TooLarge
  C_NoUnit : Addr
  x_NoUnit : Vb.Xn K mg "NoUnit" C_NoUnit
  xk_NotPrime : Vb.Xk K C_NotPrime
  xk_OutOfRange : Vb.Xk K C_OutOfRange
  k_NotPrime_TalkError : PySem.W.kitOne K (.ref C_NotPrime) (.ref C_TalkError) = some true
  k_NotPrime_OutOfRange : PySem.W.kitOne K (.ref C_NotPrime) (.ref C_OutOfRange) = some false
  k_OutOfRange_ValueError : PySem.W.kitOne K (.ref C_OutOfRange) (.type "ValueError") = some true
  k_OutOfRange_NotPrime : PySem.W.kitOne K (.ref C_OutOfRange) (.ref C_NotPrime) = some false
  f__wall : Addr
  fd__wall : FuncData
  d__wall : Vb.Dn K mg "_wall" s__wall ["k"] f__wall fd__wall
  f_is_whole : Addr
  fd_is_whole : FuncData
  d_is_whole : Vb.Dn K mg "is_whole" s_is_whole ["value"] f_is_whole fd_is_whole
  f_is_number : Addr
  fd_is_number : FuncData
  d_is_number : Vb.Dn K mg "is_number" s_is_number ["prime", "value"] f_is_number fd_is_number
  f_check_number : Addr
  fd_check_number : FuncData
  d_check_number : Vb.Dn K mg "check_number" s_check_number ["prime", "value"] f_check_number fd_check_number
  f_check_numbers : Addr
  fd_check_numbers : FuncData
  d_check_numbers : Vb.Dn K mg "check_numbers" s_check_numbers ["prime", "numbers"] f_check_numbers fd_check_numbers
  f_check_range : Addr
  fd_check_range : FuncData
  d_check_range : Vb.Dn K mg "check_range" s_check_range ["value", "least", "most"] f_check_range fd_check_range
  f_check_at_most : Addr
  fd_check_at_most : FuncData
  d_check_at_most : Vb.Dn K mg "check_at_most" s_check_at_most ["row", "most"] f_check_at_most fd_check_at_most
  f_check_field : Addr
  fd_check_field : FuncData
  d_check_field : Vb.Dn K mg "check_field" s_check_field ["prime", "thing"] f_check_field fd_check_field
  f_is_prime : Addr
  fd_is_prime : FuncData
  d_is_prime : Vb.Dn K mg "is_prime" s_is_prime ["value"] f_is_prime fd_is_prime
  f_check_prime : Addr
  fd_check_prime : FuncData
  d_check_prime : Vb.Dn K mg "check_prime" s_check_prime ["prime"] f_check_prime fd_check_prime
  f_power_modulo : Addr
  fd_power_modulo : FuncData
  d_power_modulo : Vb.Dn K mg "power_modulo" s_power_modulo ["prime", "number", "exponent"] f_power_modulo fd_power_modulo
  f_without_end_zeros : Addr
  fd_without_end_zeros : FuncData
  d_without_end_zeros : Vb.Dn K mg "without_end_zeros" s_without_end_zeros ["coefficients"] f_without_end_zeros fd_without_end_zeros
  f_added_up : Addr
  fd_added_up : FuncData
  d_added_up : Vb.Dn K mg "added_up" s_added_up ["poly", "other", "sign"] f_added_up fd_added_up
  f_constant : Addr
  fd_constant : FuncData
  d_constant : Vb.Dn K mg "constant" s_constant ["prime", "number"] f_constant fd_constant
  f_roots_of : Addr
  fd_roots_of : FuncData
  d_roots_of : Vb.Dn K mg "roots_of" s_roots_of ["poly"] f_roots_of fd_roots_of
  f_root_factor : Addr
  fd_root_factor : FuncData
  d_root_factor : Vb.Dn K mg "root_factor" s_root_factor ["prime", "number"] f_root_factor fd_root_factor
  f_from_roots : Addr
  fd_from_roots : FuncData
  d_from_roots : Vb.Dn K mg "from_roots" s_from_roots ["prime", "numbers"] f_from_roots fd_from_roots
  f_check_degree : Addr
  fd_check_degree : FuncData
  d_check_degree : Vb.Dn K mg "check_degree" s_check_degree ["degree"] f_check_degree fd_check_degree
  f_round_roots : Addr
  fd_round_roots : FuncData
  d_round_roots : Vb.Dn K mg "round_roots" s_round_roots ["prime", "degree"] f_round_roots fd_round_roots
  f_unit_poly : Addr
  fd_unit_poly : FuncData
  d_unit_poly : Vb.Dn K mg "unit_poly" s_unit_poly ["prime", "numbers"] f_unit_poly fd_unit_poly
  f_best_unit : Addr
  fd_best_unit : FuncData
  d_best_unit : Vb.Dn K mg "best_unit" s_best_unit ["prime", "degree"] f_best_unit fd_best_unit
  f__law_mix : Addr
  fd__law_mix : FuncData
  d__law_mix : Vb.Dn K mg "_law_mix" s__law_mix ["number", "turn"] f__law_mix fd__law_mix
  f__law_store : Addr
  fd__law_store : FuncData
  d__law_store : Vb.Dn K mg "_law_store" s__law_store ["script"] f__law_store fd__law_store
  f__law_take : Addr
  fd__law_take : FuncData
  d__law_take : Vb.Dn K mg "_law_take" s__law_take ["store", "many"] f__law_take fd__law_take
  f__law_edge : Addr
  fd__law_edge : FuncData
  d__law_edge : Vb.Dn K mg "_law_edge" s__law_edge ["store", "low", "high"] f__law_edge fd__law_edge
  f__law_chance : Addr
  fd__law_chance : FuncData
  d__law_chance : Vb.Dn K mg "_law_chance" s__law_chance ["store", "part"] f__law_chance fd__law_chance
  f__law_pick : Addr
  fd__law_pick : FuncData
  d__law_pick : Vb.Dn K mg "_law_pick" s__law_pick ["store", "row"] f__law_pick fd__law_pick
  f__law_other_kind : Addr
  fd__law_other_kind : FuncData
  d__law_other_kind : Vb.Dn K mg "_law_other_kind" s__law_other_kind ["store"] f__law_other_kind fd__law_other_kind
  f__law_bad_integer : Addr
  fd__law_bad_integer : FuncData
  d__law_bad_integer : Vb.Dn K mg "_law_bad_integer" s__law_bad_integer ["store", "low", "high"] f__law_bad_integer fd__law_bad_integer
  f__law_primes : Addr
  fd__law_primes : FuncData
  d__law_primes : Vb.Dn K mg "_law_primes" s__law_primes ["limit"] f__law_primes fd__law_primes
  f__law_prime : Addr
  fd__law_prime : FuncData
  d__law_prime : Vb.Dn K mg "_law_prime" s__law_prime ["store"] f__law_prime fd__law_prime
  f__law_small_prime : Addr
  fd__law_small_prime : FuncData
  d__law_small_prime : Vb.Dn K mg "_law_small_prime" s__law_small_prime ["store"] f__law_small_prime fd__law_small_prime
  f__law_unlike : Addr
  fd__law_unlike : FuncData
  d__law_unlike : Vb.Dn K mg "_law_unlike" s__law_unlike ["store", "prime", "many"] f__law_unlike fd__law_unlike
  f__law_row : Addr
  fd__law_row : FuncData
  d__law_row : Vb.Dn K mg "_law_row" s__law_row ["store", "row"] f__law_row fd__law_row
  f__law_bad_prime : Addr
  fd__law_bad_prime : FuncData
  d__law_bad_prime : Vb.Dn K mg "_law_bad_prime" s__law_bad_prime ["store"] f__law_bad_prime fd__law_bad_prime
  f__law_same : Addr
  fd__law_same : FuncData
  d__law_same : Vb.Dn K mg "_law_same" s__law_same ["actual", "expected"] f__law_same fd__law_same
  f__law_integer : Addr
  fd__law_integer : FuncData
  d__law_integer : Vb.Dn K mg "_law_integer" s__law_integer ["actual"] f__law_integer fd__law_integer
  f__law_trim : Addr
  fd__law_trim : FuncData
  d__law_trim : Vb.Dn K mg "_law_trim" s__law_trim ["row"] f__law_trim fd__law_trim
  f__law_inverse : Addr
  fd__law_inverse : FuncData
  d__law_inverse : Vb.Dn K mg "_law_inverse" s__law_inverse ["prime", "number"] f__law_inverse fd__law_inverse
  f__law_poly_value : Addr
  fd__law_poly_value : FuncData
  d__law_poly_value : Vb.Dn K mg "_law_poly_value" s__law_poly_value ["prime", "row", "number"] f__law_poly_value fd__law_poly_value
  f__law_poly_ends : Addr
  fd__law_poly_ends : FuncData
  d__law_poly_ends : Vb.Dn K mg "_law_poly_ends" s__law_poly_ends ["prime", "row"] f__law_poly_ends fd__law_poly_ends
  f__law_poly_times : Addr
  fd__law_poly_times : FuncData
  d__law_poly_times : Vb.Dn K mg "_law_poly_times" s__law_poly_times ["prime", "one", "two"] f__law_poly_times fd__law_poly_times
  f__law_root_poly : Addr
  fd__law_root_poly : FuncData
  d__law_root_poly : Vb.Dn K mg "_law_root_poly" s__law_root_poly ["prime", "numbers"] f__law_root_poly fd__law_root_poly
  f__law_roots : Addr
  fd__law_roots : FuncData
  d__law_roots : Vb.Dn K mg "_law_roots" s__law_roots ["prime", "row"] f__law_roots fd__law_roots
  f__law_with_ends : Addr
  fd__law_with_ends : FuncData
  d__law_with_ends : Vb.Dn K mg "_law_with_ends" s__law_with_ends ["store", "prime", "degree", "wanted"] f__law_with_ends fd__law_with_ends
  f__law_unit : Addr
  fd__law_unit : FuncData
  d__law_unit : Vb.Dn K mg "_law_unit" s__law_unit ["store", "prime", "degree"] f__law_unit fd__law_unit
  f__law_divided : Addr
  fd__law_divided : FuncData
  d__law_divided : Vb.Dn K mg "_law_divided" s__law_divided ["prime", "row", "number"] f__law_divided fd__law_divided
  f__law_best_told : Addr
  fd__law_best_told : FuncData
  d__law_best_told : Vb.Dn K mg "_law_best_told" s__law_best_told ["prime", "degree", "poly"] f__law_best_told fd__law_best_told
  f__law_other_unit : Addr
  fd__law_other_unit : FuncData
  d__law_other_unit : Vb.Dn K mg "_law_other_unit" s__law_other_unit ["store", "prime", "degree"] f__law_other_unit fd__law_other_unit
  f__law_refused : Addr
  fd__law_refused : FuncData
  d__law_refused : Vb.Dn K mg "_law_refused" s__law_refused ["prime", "degree"] f__law_refused fd__law_refused
  f__law_refusals : Addr
  fd__law_refusals : FuncData
  d__law_refusals : Vb.Dn K mg "_law_refusals" s__law_refusals ["store", "prime", "degree"] f__law_refusals fd__law_refusals
  f_law : Addr
  fd_law : FuncData
  d_law : Vb.Dn K mg "law" s_law ["script"] f_law fd_law
  C_Field : Addr
  g_Field : mg "Field" = some (.ref C_Field)
  c_Field : Cls K C_Field
  f_Field___init__ : Addr
  fd_Field___init__ : FuncData
  m_Field___init__ : Meth K C_Field "__init__" f_Field___init__
  d_Field___init__ : Vb.Dm K "__init__" "Field.__init__" s_Field___init__ ["self", "prime"] f_Field___init__ fd_Field___init__
  f_Field___contains__ : Addr
  fd_Field___contains__ : FuncData
  m_Field___contains__ : Meth K C_Field "__contains__" f_Field___contains__
  d_Field___contains__ : Vb.Dm K "__contains__" "Field.__contains__" s_Field___contains__ ["self", "value"] f_Field___contains__ fd_Field___contains__
  f_Field___eq__ : Addr
  fd_Field___eq__ : FuncData
  m_Field___eq__ : Meth K C_Field "__eq__" f_Field___eq__
  d_Field___eq__ : Vb.Dm K "__eq__" "Field.__eq__" s_Field___eq__ ["self", "other"] f_Field___eq__ fd_Field___eq__
  f_Field_add : Addr
  fd_Field_add : FuncData
  m_Field_add : Meth K C_Field "add" f_Field_add
  d_Field_add : Vb.Dm K "add" "Field.add" s_Field_add ["self", "number", "other_number"] f_Field_add fd_Field_add
  f_Field_subtract : Addr
  fd_Field_subtract : FuncData
  m_Field_subtract : Meth K C_Field "subtract" f_Field_subtract
  d_Field_subtract : Vb.Dm K "subtract" "Field.subtract" s_Field_subtract ["self", "number", "other_number"] f_Field_subtract fd_Field_subtract
  f_Field_multiply : Addr
  fd_Field_multiply : FuncData
  m_Field_multiply : Meth K C_Field "multiply" f_Field_multiply
  d_Field_multiply : Vb.Dm K "multiply" "Field.multiply" s_Field_multiply ["self", "number", "other_number"] f_Field_multiply fd_Field_multiply
  f_Field_divide : Addr
  fd_Field_divide : FuncData
  m_Field_divide : Meth K C_Field "divide" f_Field_divide
  d_Field_divide : Vb.Dm K "divide" "Field.divide" s_Field_divide ["self", "number", "other_number"] f_Field_divide fd_Field_divide
  f_Field_negate : Addr
  fd_Field_negate : FuncData
  m_Field_negate : Meth K C_Field "negate" f_Field_negate
  d_Field_negate : Vb.Dm K "negate" "Field.negate" s_Field_negate ["self", "number"] f_Field_negate fd_Field_negate
  f_Field_invert : Addr
  fd_Field_invert : FuncData
  m_Field_invert : Meth K C_Field "invert" f_Field_invert
  d_Field_invert : Vb.Dm K "invert" "Field.invert" s_Field_invert ["self", "number"] f_Field_invert fd_Field_invert
  f_Field_power : Addr
  fd_Field_power : FuncData
  m_Field_power : Meth K C_Field "power" f_Field_power
  d_Field_power : Vb.Dm K "power" "Field.power" s_Field_power ["self", "number", "exponent"] f_Field_power fd_Field_power
  f_Field_reduce : Addr
  fd_Field_reduce : FuncData
  m_Field_reduce : Meth K C_Field "reduce" f_Field_reduce
  d_Field_reduce : Vb.Dm K "reduce" "Field.reduce" s_Field_reduce ["self", "integer"] f_Field_reduce fd_Field_reduce
  f_Field_members : Addr
  fd_Field_members : FuncData
  m_Field_members : Meth K C_Field "members" f_Field_members
  d_Field_members : Vb.Dm K "members" "Field.members" s_Field_members ["self"] f_Field_members fd_Field_members
  mk_Field : Mk K C_Field f_Field___init__
  a_Field_prime : PySem.W.findIn K (.ref C_Field) "prime" = some none
  C_Poly : Addr
  g_Poly : mg "Poly" = some (.ref C_Poly)
  c_Poly : Cls K C_Poly
  f_Poly___init__ : Addr
  fd_Poly___init__ : FuncData
  m_Poly___init__ : Meth K C_Poly "__init__" f_Poly___init__
  d_Poly___init__ : Vb.Dm K "__init__" "Poly.__init__" s_Poly___init__ ["self", "prime", "coefficients"] f_Poly___init__ fd_Poly___init__
  f_Poly___iter__ : Addr
  fd_Poly___iter__ : FuncData
  m_Poly___iter__ : Meth K C_Poly "__iter__" f_Poly___iter__
  d_Poly___iter__ : Vb.Dm K "__iter__" "Poly.__iter__" s_Poly___iter__ ["self"] f_Poly___iter__ fd_Poly___iter__
  f_Poly___eq__ : Addr
  fd_Poly___eq__ : FuncData
  m_Poly___eq__ : Meth K C_Poly "__eq__" f_Poly___eq__
  d_Poly___eq__ : Vb.Dm K "__eq__" "Poly.__eq__" s_Poly___eq__ ["self", "other"] f_Poly___eq__ fd_Poly___eq__
  f_Poly___add__ : Addr
  fd_Poly___add__ : FuncData
  m_Poly___add__ : Meth K C_Poly "__add__" f_Poly___add__
  d_Poly___add__ : Vb.Dm K "__add__" "Poly.__add__" s_Poly___add__ ["self", "other"] f_Poly___add__ fd_Poly___add__
  f_Poly___sub__ : Addr
  fd_Poly___sub__ : FuncData
  m_Poly___sub__ : Meth K C_Poly "__sub__" f_Poly___sub__
  d_Poly___sub__ : Vb.Dm K "__sub__" "Poly.__sub__" s_Poly___sub__ ["self", "other"] f_Poly___sub__ fd_Poly___sub__
  f_Poly___mul__ : Addr
  fd_Poly___mul__ : FuncData
  m_Poly___mul__ : Meth K C_Poly "__mul__" f_Poly___mul__
  d_Poly___mul__ : Vb.Dm K "__mul__" "Poly.__mul__" s_Poly___mul__ ["self", "other"] f_Poly___mul__ fd_Poly___mul__
  f_Poly___neg__ : Addr
  fd_Poly___neg__ : FuncData
  m_Poly___neg__ : Meth K C_Poly "__neg__" f_Poly___neg__
  d_Poly___neg__ : Vb.Dm K "__neg__" "Poly.__neg__" s_Poly___neg__ ["self"] f_Poly___neg__ fd_Poly___neg__
  p_Poly_degree : Addr
  f_Poly_degree : Addr
  fd_Poly_degree : FuncData
  pr_Poly_degree : PropOf K C_Poly "degree" p_Poly_degree f_Poly_degree
  d_Poly_degree : Vb.Dm K "degree" "Poly.degree" s_Poly_degree ["self"] f_Poly_degree fd_Poly_degree
  f_Poly_at : Addr
  fd_Poly_at : FuncData
  m_Poly_at : Meth K C_Poly "at" f_Poly_at
  d_Poly_at : Vb.Dm K "at" "Poly.at" s_Poly_at ["self", "number"] f_Poly_at fd_Poly_at
  f_Poly_ends : Addr
  fd_Poly_ends : FuncData
  m_Poly_ends : Meth K C_Poly "ends" f_Poly_ends
  d_Poly_ends : Vb.Dm K "ends" "Poly.ends" s_Poly_ends ["self"] f_Poly_ends fd_Poly_ends
  f_Poly_is_zero : Addr
  fd_Poly_is_zero : FuncData
  m_Poly_is_zero : Meth K C_Poly "is_zero" f_Poly_is_zero
  d_Poly_is_zero : Vb.Dm K "is_zero" "Poly.is_zero" s_Poly_is_zero ["self"] f_Poly_is_zero fd_Poly_is_zero
  f_Poly_fits : Addr
  fd_Poly_fits : FuncData
  m_Poly_fits : Meth K C_Poly "fits" f_Poly_fits
  d_Poly_fits : Vb.Dm K "fits" "Poly.fits" s_Poly_fits ["self", "bound"] f_Poly_fits fd_Poly_fits
  f_Poly_scale : Addr
  fd_Poly_scale : FuncData
  m_Poly_scale : Meth K C_Poly "scale" f_Poly_scale
  d_Poly_scale : Vb.Dm K "scale" "Poly.scale" s_Poly_scale ["self", "number"] f_Poly_scale fd_Poly_scale
  f_Poly_divide : Addr
  fd_Poly_divide : FuncData
  m_Poly_divide : Meth K C_Poly "divide" f_Poly_divide
  d_Poly_divide : Vb.Dm K "divide" "Poly.divide" s_Poly_divide ["self", "other"] f_Poly_divide fd_Poly_divide
  f_Poly_reduced : Addr
  fd_Poly_reduced : FuncData
  m_Poly_reduced : Meth K C_Poly "reduced" f_Poly_reduced
  d_Poly_reduced : Vb.Dm K "reduced" "Poly.reduced" s_Poly_reduced ["self"] f_Poly_reduced fd_Poly_reduced
  f_Poly_padded : Addr
  fd_Poly_padded : FuncData
  m_Poly_padded : Meth K C_Poly "padded" f_Poly_padded
  d_Poly_padded : Vb.Dm K "padded" "Poly.padded" s_Poly_padded ["self", "many"] f_Poly_padded fd_Poly_padded
  f_Poly_text : Addr
  fd_Poly_text : FuncData
  m_Poly_text : Meth K C_Poly "text" f_Poly_text
  d_Poly_text : Vb.Dm K "text" "Poly.text" s_Poly_text ["self"] f_Poly_text fd_Poly_text
  mk_Poly : Mk K C_Poly f_Poly___init__
  sf_Poly : PySem.W.selfFirst K C_Poly = true
  a_Poly_prime : PySem.W.findIn K (.ref C_Poly) "prime" = some none
  a_Poly_coefficients : PySem.W.findIn K (.ref C_Poly) "coefficients" = some none
  nolen_Poly : PySem.W.findIn K (.ref C_Poly) "__len__" = some none
  nolength_hint_Poly : PySem.W.findIn K (.ref C_Poly) "__length_hint__" = some none
  xs_OutOfRange_NotPrime : PySem.W.subIn K (.ref C_OutOfRange) (.ref C_NotPrime) = some false
  ki_Field : Vb.Ki K C_Field
  sb_Field_int : PySem.W.subIn K (.type "int") (.ref C_Field) = some false
  sb_Field_str : PySem.W.subIn K (.type "str") (.ref C_Field) = some false
  sb_Field_NoneType : PySem.W.subIn K (.type "NoneType") (.ref C_Field) = some false
  sb_Field_bool : PySem.W.subIn K (.type "bool") (.ref C_Field) = some false
  sb_Field_list : PySem.W.subIn K (.type "list") (.ref C_Field) = some false
  sb_Field_tuple : PySem.W.subIn K (.type "tuple") (.ref C_Field) = some false
  ki_Poly : Vb.Ki K C_Poly
  sb_Poly_int : PySem.W.subIn K (.type "int") (.ref C_Poly) = some false
  sb_Poly_str : PySem.W.subIn K (.type "str") (.ref C_Poly) = some false
  sb_Poly_NoneType : PySem.W.subIn K (.type "NoneType") (.ref C_Poly) = some false
  sb_Poly_bool : PySem.W.subIn K (.type "bool") (.ref C_Poly) = some false
  sb_Poly_list : PySem.W.subIn K (.type "list") (.ref C_Poly) = some false
  sb_Poly_tuple : PySem.W.subIn K (.type "tuple") (.ref C_Poly) = some false
  t_MAX_PRIME : Tok
  c_MAX_PRIME : mg "MAX_PRIME" = some (.int 101 t_MAX_PRIME)
  t_MAX_TESTED : Tok
  c_MAX_TESTED : mg "MAX_TESTED" = some (.int 10000 t_MAX_TESTED)
  t_MAX_EXPONENT : Tok
  c_MAX_EXPONENT : mg "MAX_EXPONENT" = some (.int 10000 t_MAX_EXPONENT)
  t_MAX_COEFFICIENTS : Tok
  c_MAX_COEFFICIENTS : mg "MAX_COEFFICIENTS" = some (.int 128 t_MAX_COEFFICIENTS)
  n_ValueError : mg "ValueError" = none
  n_len : mg "len" = none
  n_tuple : mg "tuple" = none
  n_max : mg "max" = none
  n_enumerate : mg "enumerate" = none
  n_min : mg "min" = none
  n_range : mg "range" = none
  n_list : mg "list" = none
  n_isinstance : mg "isinstance" = none
  n_int : mg "int" = none
  n_str : mg "str" = none
  n_iter : mg "iter" = none
  n_bool : mg "bool" = none
  n_all : mg "all" = none
  n_abs : mg "abs" = none
  n_sum : mg "sum" = none
end K
local macro_rules | `(tactic| walk_at "rd1") => `(tactic| first
  | (with_reducible refine' Vb.r_var ?h_ ?k_); (case h_ => exact rfl)
  | with_reducible refine Vb.r_c ?_
  | with_reducible refine Vb.r_op ?_
  | with_reducible refine Vb.r_un ?_
  | with_reducible refine Vb.r_I0 ?_
  | (with_reducible refine Vb.r_I ?h_ ?_); (case h_ => walk_at "side")
  | with_reducible refine Vb.r_U ?_
  | with_reducible refine Vb.r_eqI ?_
  | with_reducible refine Vb.r_neI ?_
  | with_reducible refine Vb.r_test ?_
  | with_reducible refine Vb.r_tB ?_
  | with_reducible refine Vb.r_bl ?_
  | with_reducible refine Vb.r_and ?_
  | with_reducible refine Vb.r_or ?_
  | with_reducible refine Vb.r_not ?_
  | with_reducible refine Vb.r_andV ?_
  | with_reducible refine Vb.r_orV ?_
  | with_reducible refine Vb.r_notV ?_
  | with_reducible refine Vb.r_if ?_
  | with_reducible refine Vb.r_chain ?_
  | with_reducible refine Vb.r_iteT ?_
  | with_reducible refine Vb.r_iteF ?_
  | with_reducible refine Vb.r_iteNT ?_
  | with_reducible refine Vb.r_iteNF ?_
  | with_reducible refine Vb.r_nil ?_
  | with_reducible refine Vb.r_cons ?_
  | with_reducible refine Vb.r_tup ?_
  | with_reducible refine Vb.r_lst ?_
  | with_reducible refine Vb.r_CB ?_
  | with_reducible refine Vb.r_callS ?_
  | with_reducible refine Vb.r_call ?_
  | with_reducible refine Vb.r_BM ?_
  | with_reducible refine Vb.r_seq_set ?_
  | with_reducible refine Vb.r_seq_sub ?_
  | with_reducible refine Vb.r_seq_when ?_
  | with_reducible refine Vb.r_seq_if ?_
  | with_reducible refine Vb.r_seq_drop ?_
  | with_reducible refine Vb.r_seq ?_
  | with_reducible refine Vb.r_set ?_
  | with_reducible refine Vb.r_sub ?_
  | with_reducible refine Vb.r_when ?_
  | with_reducible refine Vb.r_ifs ?_
  | with_reducible refine Vb.r_drop ?_
  | with_reducible refine Vb.r_ret ?_
  | with_reducible refine Vb.r_brk ?_
  | with_reducible refine Vb.r_cnt ?_
  | with_reducible refine Vb.r_nxt ?_
  | with_reducible refine Vb.r_for ?_
  | with_reducible refine Vb.r_rng1 ?_
  | with_reducible refine Vb.r_rng2 ?_
  | with_reducible refine Vb.r_iList ?_
  | with_reducible refine Vb.r_gName ?_
  | with_reducible refine Vb.r_lc ?_
  | with_reducible refine Vb.lct_yes ?_
  | with_reducible refine Vb.lct_if ?_
  | with_reducible refine Vb.r_rng3 ?_
  | with_reducible refine Vb.r_rngW ?_
  | with_reducible refine Vb.r_eqBs ?_
  | with_reducible refine Vb.r_eqB ?_
  | with_reducible refine Vb.r_neB ?_
  | with_reducible refine Vb.r_eqS ?_
  | with_reducible refine Vb.r_neS ?_
  | with_reducible refine Vb.r_revL ?_
  | with_reducible refine Vb.r_isBl ?_
  | with_reducible refine Vb.r_notBl ?_
  | with_reducible refine Vb.r_sl ?_
  | with_reducible refine Vb.r_noP ?_
  | with_reducible refine Vb.r_part ?_
  | with_reducible refine Vb.r_iTup ?_
  | with_reducible refine Vb.r_isN ?_
  | with_reducible refine Vb.r_partI ?_
  | with_reducible refine Vb.r_iSeq ?_
  | with_reducible refine Vb.r_iEnumT ?_
  | with_reducible refine Vb.r_revT ?_
  | (with_reducible refine' Vb.r_lenA ?h1_ ?k_); (case h1_ => assumption)
  | with_reducible refine Vb.r_M1 ?_
  | with_reducible refine Vb.r_M0 ?_
  | with_reducible refine Vb.r_strA ?_
  | with_reducible refine Vb.r_iStr ?_
  | with_reducible refine Vb.f_str ?_
  | with_reducible refine Vb.r_inSg ?_
  | with_reducible refine Vb.r_niSg ?_
  | (with_reducible refine Vb.r_addS ?h1_ ?_); (case h1_ => walk_at "sz")
  | (with_reducible refine Vb.r_cutS ?h1_ ?_); (case h1_ => walk_at "sz")
  | (with_reducible refine Vb.r_lenS ?h1_ ?_); (case h1_ => walk_at "sz")
  | with_reducible refine Vb.r_sfld ?_
  | with_reducible refine Vb.r_tfld ?_
  | with_reducible refine Vb.r_meth ?_
  | with_reducible refine Vb.r_make ?_
  | with_reducible refine Vb.r_methK ?_
  | with_reducible refine Vb.r_listRg ?_
  | with_reducible refine Vb.r_rg1 ?_
  | with_reducible refine Vb.r_rg2 ?_
  | with_reducible refine Vb.r_notN ?_
  | with_reducible refine Vb.r_BM0 ?_
  | with_reducible refine Vb.r_abs ?_
  | with_reducible refine Vb.r_max2 ?_
  | with_reducible refine Vb.r_min2 ?_
  | with_reducible refine Vb.r_int ?_
  | with_reducible refine Vb.r_intB ?_
  | (with_reducible refine' Vb.r_ixL ?h1_ ?h2_ ?k_); (case h1_ => walk_at "hp"); (case h2_ => walk_at "at")
  | (with_reducible refine' Vb.r_ixT ?h1_ ?h2_ ?k_); (case h1_ => walk_at "hp"); (case h2_ => walk_at "at")
  | (with_reducible refine' Vb.r_len ?h1_ ?k_); (case h1_ => walk_at "hp")
  | (with_reducible refine' Vb.r_lenT ?h1_ ?k_); (case h1_ => walk_at "hp")
  | (with_reducible refine' Vb.r_setL ?h1_ ?h2_ ?k_); (case h1_ => walk_at "hp"); (case h2_ => walk_at "at")
  | (with_reducible refine' Vb.r_rev ?h1_ ?k_); (case h1_ => walk_at "hp")
  | (with_reducible refine' Vb.r_isB ?h1_ ?h2_ ?k_); (case h1_ => assumption); (case h2_ => first | exact (rfl : _ = true) | exact (rfl : _ = false) | exact rfl)
  | (with_reducible refine' Vb.r_isI ?h1_ ?h2_ ?k_); (case h1_ => assumption); (case h2_ => first | exact (rfl : _ = true) | exact (rfl : _ = false) | exact rfl)
  | (with_reducible refine' Vb.r_isS ?h1_ ?h2_ ?k_); (case h1_ => assumption); (case h2_ => first | exact (rfl : _ = true) | exact (rfl : _ = false) | exact rfl)
  | (with_reducible refine' Vb.r_isL ?h1_ ?h2_ ?k_); (case h1_ => assumption); (case h2_ => first | exact (rfl : _ = true) | exact (rfl : _ = false) | exact rfl)
  | (with_reducible refine' Vb.r_isT ?h1_ ?h2_ ?k_); (case h1_ => assumption); (case h2_ => first | exact (rfl : _ = true) | exact (rfl : _ = false) | exact rfl)
  | (with_reducible refine Vb.f_rng1 ?h1_ ?h2_ ?_); (case h1_ => walk_at "side"); (case h2_ => walk_at "side")
  | (with_reducible refine Vb.f_rng2 ?h1_ ?_); (case h1_ => walk_at "side4")
  | (with_reducible refine Vb.c_rng1 ?h1_ ?h2_ ?_); (case h1_ => walk_at "side"); (case h2_ => walk_at "side")
  | (with_reducible refine Vb.c_rng2 ?h1_ ?_); (case h1_ => walk_at "side4")
  | (with_reducible refine' Vb.f_list ?h1_ ?k_); (case h1_ => walk_at "hp")
  | (with_reducible refine' Vb.f_tup ?h1_ ?k_); (case h1_ => walk_at "hp")
  | (with_reducible refine' Vb.c_list ?h1_ ?k_); (case h1_ => walk_at "hp")
  | (with_reducible refine' Vb.c_tup ?h1_ ?k_); (case h1_ => walk_at "hp")
  | (with_reducible refine Vb.f_rngW ?h1_ ?_); (case h1_ => walk_at "sideW")
  | (with_reducible refine Vb.c_rngW ?h1_ ?_); (case h1_ => walk_at "sideW")
  | (with_reducible refine' Vb.r_ty ?h1_ ?k_); (case h1_ => walk_at "hp")
  | (with_reducible refine' Vb.r_isXr ?h1_ ?h2_ ?k_); (case h1_ => assumption); (case h2_ => walk_at "xd")
  | (with_reducible refine' Vb.r_isXt ?h1_ ?h2_ ?k_); (case h1_ => assumption); (case h2_ => walk_at "xd")
  | (with_reducible refine Vb.r_xf ?_)
  | (with_reducible refine' Vb.r_atM ?h1_ ?h2_ ?k_); (case h1_ => walk_at "hp"); (case h2_ => exact rfl)
  | (with_reducible refine' Vb.r_fldV ?h1_ ?h2_ ?h3_ ?h4_ ?k_); (case h1_ => walk_at "hp"); (case h2_ => assumption); (case h3_ => assumption); (case h4_ => exact rfl)
  | (with_reducible refine' Vb.r_app ?h1_ ?h2_ ?k_); (case h1_ => walk_at "hp"); (case h2_ => walk_at "side"))
local macro_rules | `(tactic| walk_at "rd") => `(tactic| repeat walk_at "rd1")
local macro_rules | `(tactic| walk_at "side") => `(tactic| first | decide | omega | assumption | (refine Vb.size_lt ?_; (try simp only [List.length_map, List.length_append, List.length_cons, List.length_nil]); omega) | (refine Vb.size_ok ?_; (try simp only [List.length_map, List.length_append, List.length_cons, List.length_nil]); omega) | exact ⟨by decide, by decide +kernel⟩ | (constructor <;> omega) | (refine Or.inl ⟨?_, ?_⟩ <;> omega) | (refine Or.inr ⟨?_, ?_⟩ <;> omega) | (refine Or.inr ⟨?_, ?_⟩ <;> decide) | (refine Or.inl ⟨?_, ?_⟩ <;> decide))
local macro_rules | `(tactic| walk_at "hp") => `(tactic| first
  | assumption
  | exact L2.upd_same
  | ((with_reducible apply Vb.sq_of); walk_at "hp")
  | ((with_reducible apply Vb.st_of); walk_at "hp")
  | ((with_reducible refine' Vb.h_new ?n1_ ?k_); (case n1_ => assumption); (case k_ => walk_at "hp"))
  | ((with_reducible refine' Vb.h_ne ?n1_ ?k_); (case n1_ => assumption); (case k_ => walk_at "hp"))
  | ((with_reducible refine' Vb.h_ne ?n1_ ?k_); (case n1_ => exact Ne.symm (by assumption)); (case k_ => walk_at "hp"))
  | ((with_reducible refine' Vb.h_same ?n1_ ?k_); (case n1_ => assumption); (case k_ => walk_at "hp"))
  | ((with_reducible refine' Vb.h_fr ?n1_ ?n2_ ?k_); (case n1_ => assumption); (case n2_ => assumption); (case k_ => walk_at "hp")))
local macro_rules | `(tactic| walk_at "at") => `(tactic| first | exact Vb.at_lit 0 rfl rfl | exact Vb.at_lit 1 rfl rfl | exact Vb.at_lit 2 rfl rfl | exact Vb.at_lit 3 rfl rfl | exact Vb.at_lit 4 rfl rfl | exact Vb.ix_lit 1 rfl rfl | exact Vb.ix_lit 2 rfl rfl | exact Vb.ix_lit 3 rfl rfl | exact Vb.ix_lit 0 rfl rfl | exact Vb.ix_lit 4 rfl rfl | exact Vb.at_lit _ (by omega) (by assumption))
local macro_rules | `(tactic| walk_at "side4") => `(tactic| (refine ⟨?_, ?_, ?_, ?_⟩ <;> omega))
local macro_rules | `(tactic| walk_at "sideW") => `(tactic| first | (refine Or.inl ⟨?_, ?_, ?_, ?_⟩ <;> omega) | (refine Or.inr ?_; omega) | omega)
local macro_rules | `(tactic| walk_at "xd") => `(tactic| first | exact Or.inl rfl | exact Or.inr ⟨_, _, rfl, by walk_at "hp"⟩)
local macro_rules | `(tactic| walk_at "sm") => `(tactic| first
  | exact L2.Same.refl _
  | assumption
  | ((with_reducible refine' Vb.sm_new ?k_ ?n1_); (case n1_ => assumption); (case k_ => walk_at "sm"))
  | ((with_reducible refine' L2.Same.trans ?k_ ?n1_); (case n1_ => assumption); (case k_ => walk_at "sm"))
  | ((with_reducible refine' Vb.same_mut ?k_ ?n1_); (case n1_ => assumption); (case k_ => walk_at "sm")))
local macro_rules | `(tactic| walk_at "fr") => `(tactic| first
  | exact Vb.Fr.refl _ _
  | assumption
  | ((with_reducible refine' Vb.fr_new ?k_ ?n1_); (case n1_ => assumption); (case k_ => walk_at "fr"))
  | ((with_reducible refine' Vb.Fr.trans ?k_ ?n1_); (case n1_ => assumption); (case k_ => walk_at "fr"))
  | ((with_reducible refine' Vb.fr_same ?k_ ?n1_); (case n1_ => assumption); (case k_ => walk_at "fr")))
local macro_rules | `(tactic| walk_at "st") => `(tactic| first
  | assumption
  | ((with_reducible refine' Vb.st_new ?k_ ?n1_); (case n1_ => assumption); (case k_ => walk_at "st"))
  | ((with_reducible refine' Vb.StoreAt.same ?k_ ?n1_); (case n1_ => assumption); (case k_ => walk_at "st")))
local macro_rules | `(tactic| walk_at "rx1") => `(tactic| first
  | walk_at "rd1"
  | ((with_reducible refine' Vb.r_newO ?h1_ (fun l_ n_ => ?k_)); (case h1_ => exact Vb.size_ok (Nat.le_of_ble_eq_true rfl))))
local macro_rules | `(tactic| walk_at "rx") => `(tactic| repeat walk_at "rx1")
local macro_rules | `(tactic| walk_at "ln") => `(tactic| first
  | (with_reducible assumption)
  | ((try simp only [Vb.len_app, Vb.len_lit, Vb.len_one, String.reduceToList, List.length_cons, List.length_nil] at *); omega))
local macro_rules | `(tactic| walk_at "sz") => `(tactic| (refine Vb.size_ok ?_; (try simp only [Vb.len_app, Vb.len_lit, Vb.len_one, String.reduceToList, List.length_cons, List.length_nil]); omega))

namespace K
open PySem PySem.Spec PyProof.Rows L2
abbrev N__law_mix : List Str := ["number", "turn", "one", "two", "three"]
theorem sc__law_mix : FnScope N__law_mix ["number", "turn"] (defScope s__law_mix) := ⟨rfl, rfl, rfl, by decide +kernel, rfl, by decide +kernel, by decide +kernel⟩
section
variable {P : Program} {w : World} {K : PySem.W.Frag} {mg : Str → Option Value} {base : Heap}
def sp_mix (K : PySem.W.Frag) : Sp := fun vs H Q _ => ∃ a b : Int, vs = [.int a, .int b] ∧ ∀ r : Int, Q (.int r) H
theorem ok_mix (T : Txt K mg) : FnOk P w K mg base (L2N.CX P w) 1 T.f__law_mix T.fd__law_mix ["number", "turn"] (sp_mix K) := by
  refine Vb.okN T.d__law_mix.F sc__law_mix (fun vs H Q E h => ?_) (fun cdv A outer s H vs Q E hr h => ?_)
  · obtain ⟨a, b, rfl, _⟩ := h
    rfl
  · obtain ⟨a, b, rfl, q⟩ := h
    refine ⟨_, (pss_cons (ps_set (i := 2) sc__law_mix.nd rfl (by first | exact Or.inl rfl | exact Or.inr rfl) (pe_op op_mod (pe_callTy Vb.call_int (by rfl) T.n_int (by decide +kernel) (pa_cons (pe_op op_add (pe_op op_add (pe_op op_mul (pv 0) pe_int) (pe_op op_mul (pv 1) pe_int)) pe_int) pa_nil)) pe_int))
      (pss_cons (ps_set (i := 3) sc__law_mix.nd rfl (by first | exact Or.inl rfl | exact Or.inr rfl) (pe_op op_mod (pe_callTy Vb.call_int (by rfl) T.n_int (by decide +kernel) (pa_cons (pe_op op_add (pe_op op_add (pe_op op_mul (pv 2) (pv 2)) (pe_op op_mul (pv 1) pe_int)) pe_int) pa_nil)) pe_int))
      (pss_cons (ps_set (i := 4) sc__law_mix.nd rfl (by first | exact Or.inl rfl | exact Or.inr rfl) (pe_op op_mod (pe_callTy Vb.call_int (by rfl) T.n_int (by decide +kernel) (pa_cons (pe_op op_add (pe_op op_mul (pv 3) (pe_op op_add (pe_op op_fdiv (pv 3) pe_int) pe_int)) (pv 2)) pa_nil)) pe_int))
      (pss_one (ps_ret (pe_op op_fdiv (pv 4) pe_int)))))), ?_⟩
    (change (_ : L2.TS) _ ([some (.int a), some (.int b), none, none, none] : L2.St) _); try dsimp only [L2.cxOf, L2H.cxH]
    walk_at "rd"
    exact q _
theorem use_mix {K : PySem.W.Frag} {a b : Int} {H : Hp} {Q : VK} {E : XK} (h : ∀ r : Int, Q (.int r) H) : sp_mix K [.int a, .int b] H Q E := ⟨a, b, rfl, h⟩
end
end K
namespace K
open PySem PySem.Spec PyProof.Rows L2
abbrev N__law_take : List Str := ["store", "many", "cell", "rest"]
theorem sc__law_take : FnScope N__law_take ["store", "many"] (defScope s__law_take) := ⟨rfl, rfl, rfl, by decide +kernel, rfl, by decide +kernel, by decide +kernel⟩
section
variable {P : Program} {w : World} {K : PySem.W.Frag} {mg : Str → Option Value} {base : Heap}
def sp_take (K : PySem.W.Frag) : Sp := fun vs H Q _ => ∃ (st : Addr) (m : Int), vs = [.ref st, .int m] ∧ Vb.StoreAt H st ∧ m < 1073741824 ∧ ∀ (v : Int) (H' : Hp), 0 ≤ v → (1 < m → v < m) → (m ≤ 1 → v = 0) → Vb.Fr st H H' → Vb.StoreAt H' st → Q (.int v) H'
theorem ok_take (T : Txt K mg) : FnOk P w K mg base (L2N.CX P w) 2 T.f__law_take T.fd__law_take ["store", "many"] (sp_take K) := by
  have G__law_mix := ok_mix (P := P) (w := w) (base := base) T
  refine Vb.okN T.d__law_take.F sc__law_take (fun vs H Q E h => ?_) (fun cdv A outer s H vs Q E hr h => ?_)
  · obtain ⟨a, b, rfl, _⟩ := h
    rfl
  · obtain ⟨st, m, rfl, ⟨l, ns, pos, rest, turn, seed, hl, h1, h2, h3, h4⟩, hm, q⟩ := h
    refine ⟨_, (pss_cons (ps_set (i := 1) sc__law_take.nd rfl (by first | exact Or.inl rfl | exact Or.inr rfl) (pe_callB (Vb.call_max2 rfl) (by rfl) T.n_max (by decide +kernel) (pa_cons pe_int (pa_cons (pv 1) pa_nil))))
      (pss_cons (ps_asg (pe_op op_add (pe_callTy Vb.call_int (by rfl) T.n_int (by decide +kernel) (pa_cons (pe_ix ix_list (pv 0) pe_int (fun _ _ => rfl)) pa_nil)) pe_int) (pg_sub (pv 0) pe_int set_list))
      (pss_cons (ps_if (PW.pt (pw_and (pt_cmpR op_eq (pe_ix ix_list (pv 0) pe_int (fun _ _ => rfl)) pe_int (nomark _)) (pw_and1 (pt_cmpR op_lt (pe_ix ix_list (pv 0) pe_int (fun _ _ => rfl)) (pe_callB Vb.call_len (by rfl) T.n_len (by decide +kernel) (pa_cons (pe_ix ix_list (pv 0) pe_int (fun _ _ => rfl)) pa_nil)) (nomark _))))) (pss_cons (ps_set (i := 2) sc__law_take.nd rfl (by first | exact Or.inl rfl | exact Or.inr rfl) (pe_callTy Vb.call_int (by rfl) T.n_int (by decide +kernel) (pa_cons (pe_ix ix_list (pe_ix ix_list (pv 0) pe_int (fun _ _ => rfl)) (pe_ix ix_list (pv 0) pe_int (fun _ _ => rfl)) (fun _ _ => rfl)) pa_nil)))
      (pss_cons (ps_asg (pe_op op_add (pe_ix ix_list (pv 0) pe_int (fun _ _ => rfl)) pe_int) (pg_sub (pv 0) pe_int set_list))
      (pss_cons (ps_if (pt_cmpR op_lt (pe_callB Vb.call_abs (by rfl) T.n_abs (by decide +kernel) (pa_cons (pv 2) pa_nil)) (pe_op Vb.op_powB pe_int pe_int) (nomark _)) (pss_one (ps_ret (pe_op op_mod (pe_callTy Vb.call_int (by rfl) T.n_int (by decide +kernel) (pa_cons (pe_callS G__law_mix (hr.mono (by first | decide | omega)) (by rfl) T.d__law_mix.g T.d__law_mix.F.kp T.d__law_mix.b (fun σ => L2N.passAt (L2N.takes_of rfl rfl rfl rfl) σ) (pa_cons (pv 2) (pa_cons (pe_ix ix_list (pv 0) pe_int (fun _ _ => rfl)) pa_nil))) pa_nil)) (pv 1)))) pss_nil)
      (pss_one (ps_asg (pe_op op_mod (pe_callB Vb.call_abs (by rfl) T.n_abs (by decide +kernel) (pa_cons (pv 2) pa_nil)) (pe_op Vb.op_powB (pe_op Vb.op_powB pe_int pe_int) pe_int)) (pg_sub (pv 0) pe_int set_list)))))) pss_nil)
      (pss_cons (ps_if (pt_cmpR op_gt (pe_ix ix_list (pv 0) pe_int (fun _ _ => rfl)) pe_int (nomark _)) (pss_cons (ps_set (i := 3) sc__law_take.nd rfl (by first | exact Or.inl rfl | exact Or.inr rfl) (pe_callTy Vb.call_int (by rfl) T.n_int (by decide +kernel) (pa_cons (pe_ix ix_list (pv 0) pe_int (fun _ _ => rfl)) pa_nil)))
      (pss_cons (ps_asg (pe_op op_fdiv (pv 3) (pv 1)) (pg_sub (pv 0) pe_int set_list))
      (pss_one (ps_ret (pe_op op_mod (pv 3) (pv 1)))))) pss_nil)
      (pss_one (ps_ret (pe_op op_mod (pe_callTy Vb.call_int (by rfl) T.n_int (by decide +kernel) (pa_cons (pe_callS G__law_mix (hr.mono (by first | decide | omega)) (by rfl) T.d__law_mix.g T.d__law_mix.F.kp T.d__law_mix.b (fun σ => L2N.passAt (L2N.takes_of rfl rfl rfl rfl) σ) (pa_cons (pe_ix ix_list (pv 0) pe_int (fun _ _ => rfl)) (pa_cons (pe_ix ix_list (pv 0) pe_int (fun _ _ => rfl)) pa_nil))) pa_nil)) (pv 1)))))))), ?_⟩
    (change (_ : L2.TS) _ ([some (.ref st), some (.int m), none, none] : L2.St) _); try dsimp only [L2.cxOf, L2H.cxH]
    walk_at "rd"
    have hd : ∀ {H' : Hp} {t : List V}, H' st = some (.lst (.ref l :: t)) → ∀ (l' : Addr) (r : List V), H st = some (.lst (.ref l' :: r)) → ∃ r', H' st = some (.lst (.ref l' :: r')) := fun e l' r h => by
      rw [h1] at h
      cases h
      exact ⟨_, e⟩
    have hmm : 0 < (if m > 1 then m else 1) := by split <;> omega
    have hm2 : (if m > 1 then m else 1) < 1073741824 := by split <;> omega
    have out : ∀ (z : Int) (H' : Hp), Vb.Fr st H H' → Vb.StoreAt H' st → Q (.int (z % (if m > 1 then m else 1))) H' := fun z H' f1 f2 => by
      have e1 := Int.emod_nonneg z (show (if m > 1 then m else 1) ≠ 0 by omega)
      have e2 := Int.emod_lt_of_pos z hmm
      generalize z % (if m > 1 then m else 1) = r at e1 e2 ⊢
      refine q _ _ e1 (fun h => ?_) (fun h => ?_) f1 f2
      · rw [if_pos h] at e2; exact e2
      · rw [if_neg (by omega)] at e2; omega
    have nz : ∀ z : Int, 0 ≤ z → 0 ≤ z / (if m > 1 then m else 1) := fun z h => Int.ediv_nonneg h (by omega)
    generalize (if m > 1 then m else 1) = mm at hmm hm2 out nz ⊢
    refine Vb.r_ite (fun c1 => ?_) (fun c1 => ?_)
    · walk_at "rd"
      refine Vb.r_ite (fun c2 => ?_) (fun c2 => ?_)
      · walk_at "rd"
        rw [List.length_map] at c2
        have hz : (ns.map V.int)[pos.toNat]? = some (.int ns[pos.toNat]) := Vb.getV (by omega)
        refine Vb.r_ixL (by walk_at "hp") (Vb.at_lit pos.toNat (by omega) hz) ?_
        generalize ns[pos.toNat] = cell
        walk_at "rd"
        refine Vb.r_ite (fun c3 => ?_) (fun c3 => ?_)
        · walk_at "rd"
          refine use_mix fun r => ?_
          walk_at "rd"
          refine out _ _ ⟨fun b o n h => by walk_at "hp", hd L2.upd_same⟩ ⟨l, ns, pos + 1, rest, turn + 1, seed, hl, L2.upd_same, by walk_at "hp", by omega, h4⟩
        · walk_at "rd"
          have hg : 0 ≤ (if cell < 0 then -cell else cell) % (10 ^ Int.toNat 60) ^ Int.toNat 20 := Int.emod_nonneg _ (by decide +kernel)
          generalize (if cell < 0 then -cell else cell) % (10 ^ Int.toNat 60) ^ Int.toNat 20 = gr at hg ⊢
          refine Vb.r_ite (fun c4 => ?_) (fun c4 => ?_)
          · walk_at "rd"
            refine out _ _ ⟨fun b o n h => by walk_at "hp", hd L2.upd_same⟩ ⟨l, ns, pos + 1, gr / mm, turn + 1, seed, hl, L2.upd_same, by walk_at "hp", by omega, nz _ hg⟩
          · walk_at "rd"
            refine use_mix fun r => ?_
            walk_at "rd"
            refine out _ _ ⟨fun b o n h => by walk_at "hp", hd L2.upd_same⟩ ⟨l, ns, pos + 1, gr, turn + 1, seed, hl, L2.upd_same, by walk_at "hp", by omega, hg⟩
      · walk_at "rd"
        refine Vb.r_ite (fun c3 => absurd c3 (by omega)) (fun c3 => ?_)
        walk_at "rd"
        refine use_mix fun r => ?_
        walk_at "rd"
        refine out _ _ ⟨fun b o n h => by walk_at "hp", hd L2.upd_same⟩ ⟨l, ns, pos, rest, turn + 1, seed, hl, L2.upd_same, by walk_at "hp", by omega, h4⟩
    · walk_at "rd"
      refine Vb.r_ite (fun c3 => ?_) (fun c3 => absurd c3 (by omega))
      walk_at "rd"
      refine out _ _ ⟨fun b o n h => by walk_at "hp", hd L2.upd_same⟩ ⟨l, ns, pos, rest / mm, turn + 1, seed, hl, L2.upd_same, by walk_at "hp", h3, nz _ h4⟩
theorem use_take {st : Addr} {m : Int} {H : Hp} {Q : VK} {E : XK} (h1 : Vb.StoreAt H st) (h2 : m < 1073741824) (h : ∀ (v : Int) (H' : Hp), 0 ≤ v → (1 < m → v < m) → (m ≤ 1 → v = 0) → Vb.Fr st H H' → Vb.StoreAt H' st → Q (.int v) H') : sp_take K [.ref st, .int m] H Q E := ⟨st, m, rfl, h1, h2, h⟩
end
end K
namespace K
open PySem PySem.Spec PyProof.Rows L2


abbrev N__law_same : List Str := ["actual", "expected", "fitting", "k"]
theorem sc__law_same : FnScope N__law_same ["actual", "expected"] (defScope s__law_same) := ⟨rfl, rfl, rfl, by decide +kernel, rfl, by decide +kernel, by decide +kernel⟩
section
variable {P : Program} {w : World} {K : PySem.W.Frag} {mg : Str → Option Value} {base : Heap}
/-- two values of one piece of data are told to be the same; n: how deep it is -/
def sp_same (K : PySem.W.Frag) : Nat → Sp
  | 0 => fun _ _ _ _ => False
  | n + 1 => fun vs H Q _ => ∃ (v u : V) (d : PyData), vs = [v, u] ∧ Dp K H v d ∧ Dp K H u d ∧ Vb.DOk (n + 1) d ∧ Q (.bl true) H
theorem use_same {n : Nat} {v u : V} {H : Hp} {Q : VK} {E : XK} (d : PyData) (h1 : Dp K H v d) (h2 : Dp K H u d) (h3 : Vb.DOk (n + 1) d) (q : Q (.bl true) H) : sp_same K (n + 1) [v, u] H Q E := ⟨v, u, d, rfl, h1, h2, h3, q⟩
/-- the loop over the items -/
theorem same_items {n : Nat} {H : Hp} {xs ys : List V} {ds : List PyData} (a : DpAll K H xs ds) (b : DpAll K H ys ds) (h : ∀ d ∈ ds, Vb.DOk n d) {i : Nat} (hi : i < ds.length) : ∃ x y d, xs[i]? = some x ∧ ys[i]? = some y ∧ Dp K H x d ∧ Dp K H y d ∧ Vb.DOk n d := by
  obtain ⟨x, e1, h1⟩ := Vb.dpa_at a (List.getElem?_eq_getElem hi)
  obtain ⟨y, e2, h2⟩ := Vb.dpa_at b (List.getElem?_eq_getElem hi)
  exact ⟨x, y, ds[i], e1, e2, h1, h2, h _ (List.getElem_mem hi)⟩
theorem not_non {H : Hp} {v : V} {d : PyData} (h : Dp K H v d) (hd : d ≠ .none) : decide (v = .non) = false := by
  cases h with
  | non => exact absurd rfl hd
  | _ => rfl
theorem ok_same (T : Txt K mg) : ∀ n, FnOk P w K mg base (L2N.CX P w) (n + 1) T.f__law_same T.fd__law_same ["actual", "expected"] (sp_same K n)
  | 0 => ⟨fun _ _ _ _ h => h.elim, fun _ _ _ _ _ _ _ _ _ _ _ _ _ h => h.elim⟩
  | n + 1 => by
    have G__law_same := ok_same T n
    refine Vb.okN T.d__law_same.F sc__law_same (fun vs H Q E h => ?_) (fun cdv A outer s H vs Q E hr h => ?_)
    · obtain ⟨v, u, d, rfl, _⟩ := h
      rfl
    · obtain ⟨v, u, d, rfl, h1, h2, h3, q⟩ := h
      refine ⟨_, (pss_cons (ps_if (PW.pt (pw_or (pt_cmpR Vb.op_isN (pv 1) pe_non (nomark _)) (pw_or1 (pt_cmpR Vb.op_isN (pv 0) pe_non (nomark _))))) (pss_one (ps_ret (pe_and (pe_cmpR Vb.op_isN (pv 1) pe_non (nomark _)) (pe_one (pe_cmpR Vb.op_isN (pv 0) pe_non (nomark _)))))) pss_nil)
      (pss_cons (ps_if (PW.pt (pw_or (pt_val (pe_callB call_isi (by rfl) T.n_isinstance (by decide +kernel) (pa_cons (pv 1) (pa_cons (pe_bltn (v := .ty "bool") (by rfl) T.n_bool (by decide +kernel) rfl) pa_nil)))) (pw_or1 (pt_val (pe_callB call_isi (by rfl) T.n_isinstance (by decide +kernel) (pa_cons (pv 0) (pa_cons (pe_bltn (v := .ty "bool") (by rfl) T.n_bool (by decide +kernel) rfl) pa_nil))))))) (pss_one (ps_ret (pe_and (pe_callB call_isi (by rfl) T.n_isinstance (by decide +kernel) (pa_cons (pv 1) (pa_cons (pe_bltn (v := .ty "bool") (by rfl) T.n_bool (by decide +kernel) rfl) pa_nil))) (pe_and (pe_callB call_isi (by rfl) T.n_isinstance (by decide +kernel) (pa_cons (pv 0) (pa_cons (pe_bltn (v := .ty "bool") (by rfl) T.n_bool (by decide +kernel) rfl) pa_nil))) (pe_one (pe_cmpR op_eq (pv 0) (pv 1) (nomark _))))))) pss_nil)
      (pss_cons (ps_if (pt_val (pe_callB call_isi (by rfl) T.n_isinstance (by decide +kernel) (pa_cons (pv 1) (pa_cons (pe_bltn (v := .ty "int") (by rfl) T.n_int (by decide +kernel) rfl) pa_nil)))) (pss_one (ps_ret (pe_and (pe_callB call_isi (by rfl) T.n_isinstance (by decide +kernel) (pa_cons (pv 0) (pa_cons (pe_bltn (v := .ty "int") (by rfl) T.n_int (by decide +kernel) rfl) pa_nil))) (pe_one (pe_cmpR op_eq (pv 0) (pv 1) (nomark _)))))) pss_nil)
      (pss_cons (ps_if (pt_val (pe_callB call_isi (by rfl) T.n_isinstance (by decide +kernel) (pa_cons (pv 1) (pa_cons (pe_bltn (v := .ty "str") (by rfl) T.n_str (by decide +kernel) rfl) pa_nil)))) (pss_one (ps_ret (pe_and (pe_callB call_isi (by rfl) T.n_isinstance (by decide +kernel) (pa_cons (pv 0) (pa_cons (pe_bltn (v := .ty "str") (by rfl) T.n_str (by decide +kernel) rfl) pa_nil))) (pe_one (pe_cmpR op_eq (pv 0) (pv 1) (nomark _)))))) pss_nil)
      (pss_cons (ps_if (pt_val (pe_callB call_isi (by rfl) T.n_isinstance (by decide +kernel) (pa_cons (pv 1) (pa_cons (pe_bltn (v := .ty "list") (by rfl) T.n_list (by decide +kernel) rfl) pa_nil)))) (pss_one (ps_set (i := 2) sc__law_same.nd rfl (by first | exact Or.inl rfl | exact Or.inr rfl) (pe_callB call_isi (by rfl) T.n_isinstance (by decide +kernel) (pa_cons (pv 0) (pa_cons (pe_bltn (v := .ty "list") (by rfl) T.n_list (by decide +kernel) rfl) pa_nil))))) (pss_one (ps_set (i := 2) sc__law_same.nd rfl (by first | exact Or.inl rfl | exact Or.inr rfl) (pe_and (pe_callB call_isi (by rfl) T.n_isinstance (by decide +kernel) (pa_cons (pv 1) (pa_cons (pe_bltn (v := .ty "tuple") (by rfl) T.n_tuple (by decide +kernel) rfl) pa_nil))) (pe_one (pe_callB call_isi (by rfl) T.n_isinstance (by decide +kernel) (pa_cons (pv 0) (pa_cons (pe_bltn (v := .ty "tuple") (by rfl) T.n_tuple (by decide +kernel) rfl) pa_nil))))))))
      (pss_cons (ps_if (PW.pt (pw_or (pt_not (pt_val (pv 2))) (pw_or1 (pt_cmpR op_ne (pe_callB Vb.call_len (by rfl) T.n_len (by decide +kernel) (pa_cons (pv 0) pa_nil)) (pe_callB Vb.call_len (by rfl) T.n_len (by decide +kernel) (pa_cons (pv 1) pa_nil)) (nomark _))))) (pss_one (ps_ret pe_bl)) pss_nil)
      (pss_cons (ps_for (L2.passes_of rfl) rfl (pi_range1 rfl T.n_range (pa_cons (pe_callB Vb.call_len (by rfl) T.n_len (by decide +kernel) (pa_cons (pv 1) pa_nil)) pa_nil)) (pg_name (i := 3) sc__law_same.nd rfl (by first | exact Or.inl rfl | exact Or.inr rfl))
        (pss_one (ps_if (pt_not (pt_val (pe_callS G__law_same (hr.mono (by first | decide | omega)) (by rfl) T.d__law_same.g T.d__law_same.F.kp T.d__law_same.b (fun σ => L2N.passAt (L2N.takes_of rfl rfl rfl rfl) σ) (pa_cons (pe_ix ix_seq (pv 0) (pv 3) (fun _ _ => rfl)) (pa_cons (pe_ix ix_seq (pv 1) (pv 3) (fun _ _ => rfl)) pa_nil))))) (pss_one (ps_ret pe_bl)) pss_nil)))
      (pss_one (ps_ret pe_bl))))))))), ?_⟩
      (change (_ : L2.TS) _ ([some (v), some (u), none, none] : L2.St) _); try dsimp only [L2.cxOf, L2H.cxH]
      walk_at "rd"
      by_cases hn : d = .none
      · subst hn
        refine Vb.r_ite (fun _ => ?_) (fun c => absurd (Vb.is_non h2) c)
        walk_at "rd"
        refine Vb.r_ite (fun _ => ?_) (fun c => absurd (Vb.is_non h2) c)
        walk_at "rd"
        rw [decide_eq_true (Vb.is_non h1)]
        exact q
      refine Vb.r_ite (fun c => absurd c (Vb.not_non h2 hn)) (fun _ => ?_)
      walk_at "rd"
      refine Vb.r_ite (fun c => absurd c (Vb.not_non h1 hn)) (fun _ => ?_)
      cases d with
      | none => exact absurd rfl hn
      | bool b =>
        walk_at "rd"
        cases h1; cases h2
        refine ⟨rfl, ?_⟩
        rw [decide_eq_true rfl]
        exact q
      | int i =>
        walk_at "rd"
        cases h1; cases h2
        walk_at "rd"
        rw [decide_eq_true rfl]
        exact q
      | str x =>
        walk_at "rd"
        cases h1; cases h2
        refine ⟨rfl, ?_⟩
        rw [decide_eq_true rfl]
        exact q
      | list ds =>
        walk_at "rd"
        cases h1 with
        | @lst a xs _ s1 a1 =>
        cases h2 with
        | @lst b ys _ s2 a2 =>
        have l1 := Vb.dpa_len a1
        have l2 := Vb.dpa_len a2
        have hl := h3.1
        walk_at "rd"
        refine Vb.r_iteN (fun c => absurd (by omega) c) (fun _ => ?_)
        walk_at "rd"
        refine Vb.lp_range (fun i σ H' => i ≤ ds.length ∧ H' = H ∧ ∃ y, σ = [some (.ref a), some (.ref b), some (.bl true), y]) ⟨Nat.zero_le _, rfl, none, rfl⟩ ?_ ?_
        · rintro i σ H' hi ⟨_, rfl, y, rfl⟩
          have hi' : i < ds.length := by omega
          obtain ⟨x1, y1, d1, e1, e2, g1, g2, g3⟩ := same_items a1 a2 h3.2 hi'
          walk_at "rd"
          refine Vb.r_ixSL s1 (Vb.at_lit i (by omega) e1) ?_
          walk_at "rd"
          refine Vb.r_ixSL s2 (Vb.at_lit i (by omega) e2) ?_
          walk_at "rd"
          cases n with
          | zero => exact g3.elim
          | succ n =>
            refine use_same d1 g1 g2 g3 ?_
            walk_at "rd"
            exact ⟨by omega, rfl, _, rfl⟩
        · rintro σ H' ⟨_, rfl, y, rfl⟩
          walk_at "rd"
          exact q
      | tuple ds =>
        walk_at "rd"
        cases h1 with
        | @tup a xs _ s1 a1 =>
        cases h2 with
        | @tup b ys _ s2 a2 =>
        have l1 := Vb.dpa_len a1
        have l2 := Vb.dpa_len a2
        have hl := h3.1
        walk_at "rd"
        refine Vb.r_iteN (fun c => absurd (by omega) c) (fun _ => ?_)
        walk_at "rd"
        refine Vb.lp_range (fun i σ H' => i ≤ ds.length ∧ H' = H ∧ ∃ y, σ = [some (.ref a), some (.ref b), some (.bl true), y]) ⟨Nat.zero_le _, rfl, none, rfl⟩ ?_ ?_
        · rintro i σ H' hi ⟨_, rfl, y, rfl⟩
          have hi' : i < ds.length := by omega
          obtain ⟨x1, y1, d1, e1, e2, g1, g2, g3⟩ := same_items a1 a2 h3.2 hi'
          walk_at "rd"
          refine Vb.r_ixST s1 (Vb.at_lit i (by omega) e1) ?_
          walk_at "rd"
          refine Vb.r_ixST s2 (Vb.at_lit i (by omega) e2) ?_
          walk_at "rd"
          cases n with
          | zero => exact g3.elim
          | succ n =>
            refine use_same d1 g1 g2 g3 ?_
            walk_at "rd"
            exact ⟨by omega, rfl, _, rfl⟩
        · rintro σ H' ⟨_, rfl, y, rfl⟩
          walk_at "rd"
          exact q
      | dict kvs => cases h1
theorem okh_same (T : Txt K mg) : ∀ n, L2H.FnH P w K mg base CX0 (n + 1) T.f__law_same T.fd__law_same ["actual", "expected"] (sp_same K n)
  | 0 => ⟨fun _ _ _ _ h => h.elim, fun _ _ _ _ _ _ _ _ _ _ _ _ _ _ _ _ h => h.elim⟩
  | n + 1 => by
    have GH__law_same := okh_same T n
    refine Vb.okH T.d__law_same.F sc__law_same (fun vs H Q E h => ?_) (fun cdv A outer s H vs Q E p hot hr h => ?_)
    · obtain ⟨v, u, d, rfl, _⟩ := h
      rfl
    · obtain ⟨v, u, d, rfl, h1, h2, h3, q⟩ := h
      have hotc : L2H.HotC (L2H.cxH CX0 P w K mg base N__law_same "_law_same" (defScope s__law_same) T.f__law_same cdv A outer s H E p) := ⟨p, hot, List.mem_singleton.mpr rfl⟩
      refine ⟨_, (pss_cons (ps_if (PW.pt (pw_or (pt_cmpR Vb.op_isN (pv 1) pe_non (nomark _)) (pw_or1 (pt_cmpR Vb.op_isN (pv 0) pe_non (nomark _))))) (pss_one (ps_ret (pe_and (pe_cmpR Vb.op_isN (pv 1) pe_non (nomark _)) (pe_one (pe_cmpR Vb.op_isN (pv 0) pe_non (nomark _)))))) pss_nil)
      (pss_cons (ps_if (PW.pt (pw_or (pt_val (pe_callB call_isi (by rfl) T.n_isinstance (by decide +kernel) (pa_cons (pv 1) (pa_cons (pe_bltn (v := .ty "bool") (by rfl) T.n_bool (by decide +kernel) rfl) pa_nil)))) (pw_or1 (pt_val (pe_callB call_isi (by rfl) T.n_isinstance (by decide +kernel) (pa_cons (pv 0) (pa_cons (pe_bltn (v := .ty "bool") (by rfl) T.n_bool (by decide +kernel) rfl) pa_nil))))))) (pss_one (ps_ret (pe_and (pe_callB call_isi (by rfl) T.n_isinstance (by decide +kernel) (pa_cons (pv 1) (pa_cons (pe_bltn (v := .ty "bool") (by rfl) T.n_bool (by decide +kernel) rfl) pa_nil))) (pe_and (pe_callB call_isi (by rfl) T.n_isinstance (by decide +kernel) (pa_cons (pv 0) (pa_cons (pe_bltn (v := .ty "bool") (by rfl) T.n_bool (by decide +kernel) rfl) pa_nil))) (pe_one (pe_cmpR op_eq (pv 0) (pv 1) (nomark _))))))) pss_nil)
      (pss_cons (ps_if (pt_val (pe_callB call_isi (by rfl) T.n_isinstance (by decide +kernel) (pa_cons (pv 1) (pa_cons (pe_bltn (v := .ty "int") (by rfl) T.n_int (by decide +kernel) rfl) pa_nil)))) (pss_one (ps_ret (pe_and (pe_callB call_isi (by rfl) T.n_isinstance (by decide +kernel) (pa_cons (pv 0) (pa_cons (pe_bltn (v := .ty "int") (by rfl) T.n_int (by decide +kernel) rfl) pa_nil))) (pe_one (pe_cmpR op_eq (pv 0) (pv 1) (nomark _)))))) pss_nil)
      (pss_cons (ps_if (pt_val (pe_callB call_isi (by rfl) T.n_isinstance (by decide +kernel) (pa_cons (pv 1) (pa_cons (pe_bltn (v := .ty "str") (by rfl) T.n_str (by decide +kernel) rfl) pa_nil)))) (pss_one (ps_ret (pe_and (pe_callB call_isi (by rfl) T.n_isinstance (by decide +kernel) (pa_cons (pv 0) (pa_cons (pe_bltn (v := .ty "str") (by rfl) T.n_str (by decide +kernel) rfl) pa_nil))) (pe_one (pe_cmpR op_eq (pv 0) (pv 1) (nomark _)))))) pss_nil)
      (pss_cons (ps_if (pt_val (pe_callB call_isi (by rfl) T.n_isinstance (by decide +kernel) (pa_cons (pv 1) (pa_cons (pe_bltn (v := .ty "list") (by rfl) T.n_list (by decide +kernel) rfl) pa_nil)))) (pss_one (ps_set (i := 2) sc__law_same.nd rfl (by first | exact Or.inl rfl | exact Or.inr rfl) (pe_callB call_isi (by rfl) T.n_isinstance (by decide +kernel) (pa_cons (pv 0) (pa_cons (pe_bltn (v := .ty "list") (by rfl) T.n_list (by decide +kernel) rfl) pa_nil))))) (pss_one (ps_set (i := 2) sc__law_same.nd rfl (by first | exact Or.inl rfl | exact Or.inr rfl) (pe_and (pe_callB call_isi (by rfl) T.n_isinstance (by decide +kernel) (pa_cons (pv 1) (pa_cons (pe_bltn (v := .ty "tuple") (by rfl) T.n_tuple (by decide +kernel) rfl) pa_nil))) (pe_one (pe_callB call_isi (by rfl) T.n_isinstance (by decide +kernel) (pa_cons (pv 0) (pa_cons (pe_bltn (v := .ty "tuple") (by rfl) T.n_tuple (by decide +kernel) rfl) pa_nil))))))))
      (pss_cons (ps_if (PW.pt (pw_or (pt_not (pt_val (pv 2))) (pw_or1 (pt_cmpR op_ne (pe_callB Vb.call_len (by rfl) T.n_len (by decide +kernel) (pa_cons (pv 0) pa_nil)) (pe_callB Vb.call_len (by rfl) T.n_len (by decide +kernel) (pa_cons (pv 1) pa_nil)) (nomark _))))) (pss_one (ps_ret pe_bl)) pss_nil)
      (pss_cons (L2H.ps_forH (L2.passes_of rfl) hotc (L2H.pi_range1H rfl T.n_range (pa_cons (pe_callB Vb.call_len (by rfl) T.n_len (by decide +kernel) (pa_cons (pv 1) pa_nil)) pa_nil)) (pg_name (i := 3) sc__law_same.nd rfl (by first | exact Or.inl rfl | exact Or.inr rfl))
        (pss_one (ps_if (pt_not (pt_val (L2H.pe_callH GH__law_same (hr.mono (by first | decide | omega)) hotc rfl T.d__law_same.g T.d__law_same.F.kp T.d__law_same.b (fun σ => Vb.passH) (pa_cons (pe_ix ix_seq (pv 0) (pv 3) (fun _ _ => rfl)) (pa_cons (pe_ix ix_seq (pv 1) (pv 3) (fun _ _ => rfl)) pa_nil))))) (pss_one (ps_ret pe_bl)) pss_nil)))
      (pss_one (ps_ret pe_bl))))))))), ?_⟩
      (change (_ : L2.TS) _ ([some (v), some (u), none, none] : L2.St) _); try dsimp only [L2.cxOf, L2H.cxH]
      walk_at "rd"
      by_cases hn : d = .none
      · subst hn
        refine Vb.r_ite (fun _ => ?_) (fun c => absurd (Vb.is_non h2) c)
        walk_at "rd"
        refine Vb.r_ite (fun _ => ?_) (fun c => absurd (Vb.is_non h2) c)
        walk_at "rd"
        rw [decide_eq_true (Vb.is_non h1)]
        exact q
      refine Vb.r_ite (fun c => absurd c (Vb.not_non h2 hn)) (fun _ => ?_)
      walk_at "rd"
      refine Vb.r_ite (fun c => absurd c (Vb.not_non h1 hn)) (fun _ => ?_)
      cases d with
      | none => exact absurd rfl hn
      | bool b =>
        walk_at "rd"
        cases h1; cases h2
        refine ⟨rfl, ?_⟩
        rw [decide_eq_true rfl]
        exact q
      | int i =>
        walk_at "rd"
        cases h1; cases h2
        walk_at "rd"
        rw [decide_eq_true rfl]
        exact q
      | str x =>
        walk_at "rd"
        cases h1; cases h2
        refine ⟨rfl, ?_⟩
        rw [decide_eq_true rfl]
        exact q
      | list ds =>
        walk_at "rd"
        cases h1 with
        | @lst a xs _ s1 a1 =>
        cases h2 with
        | @lst b ys _ s2 a2 =>
        have l1 := Vb.dpa_len a1
        have l2 := Vb.dpa_len a2
        have hl := h3.1
        walk_at "rd"
        refine Vb.r_iteN (fun c => absurd (by omega) c) (fun _ => ?_)
        walk_at "rd"
        refine Vb.lp_range (fun i σ H' => i ≤ ds.length ∧ H' = H ∧ ∃ y, σ = [some (.ref a), some (.ref b), some (.bl true), y]) ⟨Nat.zero_le _, rfl, none, rfl⟩ ?_ ?_
        · rintro i σ H' hi ⟨_, rfl, y, rfl⟩
          have hi' : i < ds.length := by omega
          obtain ⟨x1, y1, d1, e1, e2, g1, g2, g3⟩ := same_items a1 a2 h3.2 hi'
          walk_at "rd"
          refine Vb.r_ixSL s1 (Vb.at_lit i (by omega) e1) ?_
          walk_at "rd"
          refine Vb.r_ixSL s2 (Vb.at_lit i (by omega) e2) ?_
          walk_at "rd"
          cases n with
          | zero => exact g3.elim
          | succ n =>
            refine use_same d1 g1 g2 g3 ?_
            walk_at "rd"
            exact ⟨by omega, rfl, _, rfl⟩
        · rintro σ H' ⟨_, rfl, y, rfl⟩
          walk_at "rd"
          exact q
      | tuple ds =>
        walk_at "rd"
        cases h1 with
        | @tup a xs _ s1 a1 =>
        cases h2 with
        | @tup b ys _ s2 a2 =>
        have l1 := Vb.dpa_len a1
        have l2 := Vb.dpa_len a2
        have hl := h3.1
        walk_at "rd"
        refine Vb.r_iteN (fun c => absurd (by omega) c) (fun _ => ?_)
        walk_at "rd"
        refine Vb.lp_range (fun i σ H' => i ≤ ds.length ∧ H' = H ∧ ∃ y, σ = [some (.ref a), some (.ref b), some (.bl true), y]) ⟨Nat.zero_le _, rfl, none, rfl⟩ ?_ ?_
        · rintro i σ H' hi ⟨_, rfl, y, rfl⟩
          have hi' : i < ds.length := by omega
          obtain ⟨x1, y1, d1, e1, e2, g1, g2, g3⟩ := same_items a1 a2 h3.2 hi'
          walk_at "rd"
          refine Vb.r_ixST s1 (Vb.at_lit i (by omega) e1) ?_
          walk_at "rd"
          refine Vb.r_ixST s2 (Vb.at_lit i (by omega) e2) ?_
          walk_at "rd"
          cases n with
          | zero => exact g3.elim
          | succ n =>
            refine use_same d1 g1 g2 g3 ?_
            walk_at "rd"
            exact ⟨by omega, rfl, _, rfl⟩
        · rintro σ H' ⟨_, rfl, y, rfl⟩
          walk_at "rd"
          exact q
      | dict kvs => cases h1
end
end K
namespace K
open PySem PySem.Spec PyProof.Rows L2
abbrev N__law_store : List Str := ["script", "seed", "cell"]
theorem sc__law_store : FnScope N__law_store ["script"] (defScope s__law_store) := ⟨rfl, rfl, rfl, by decide +kernel, rfl, by decide +kernel, by decide +kernel⟩
section
variable {P : Program} {w : World} {K : PySem.W.Frag} {mg : Str → Option Value} {base : Heap}
def sp_store (K : PySem.W.Frag) : Sp := fun vs H Q _ => ∃ (a : Addr) (ns : List Int), vs = [.ref a] ∧ SqL K H a (ns.map V.int) ∧ ns.length ≤ 1000000 ∧ ∀ (st : Addr) (H' : Hp), H st = none → Same H H' → Vb.StoreAt H' st → Q (.ref st) H'
theorem ok_store (T : Txt K mg) : FnOk P w K mg base (L2N.CX P w) 1 T.f__law_store T.fd__law_store ["script"] (sp_store K) := by
  refine Vb.okN T.d__law_store.F sc__law_store (fun vs H Q E h => ?_) (fun cdv A outer s H vs Q E hr h => ?_)
  · obtain ⟨a, b, rfl, _⟩ := h
    rfl
  · obtain ⟨a, ns, rfl, hs, hl, q⟩ := h
    refine ⟨_, (pss_cons (ps_set (i := 1) sc__law_store.nd rfl (by first | exact Or.inl rfl | exact Or.inr rfl) pe_int)
      (pss_cons (ps_for (L2.passes_of rfl) rfl (pi_list (pv 0)) (pg_name (i := 2) sc__law_store.nd rfl (by first | exact Or.inl rfl | exact Or.inr rfl))
        (pss_one (ps_set (i := 1) sc__law_store.nd rfl (by first | exact Or.inl rfl | exact Or.inr rfl) (pe_op op_mod (pe_callTy Vb.call_int (by rfl) T.n_int (by decide +kernel) (pa_cons (pe_op op_add (pe_op op_add (pe_op op_mul (pv 1) pe_int) (pe_op op_mod (pe_callTy Vb.call_int (by rfl) T.n_int (by decide +kernel) (pa_cons (pv 2) pa_nil)) pe_int)) pe_int) pa_nil)) pe_int))))
      (pss_one (ps_ret (pe_lst (pa_cons (pe_callTy Vb.call_list (by rfl) T.n_list (by decide +kernel) (pa_cons (pv 0) pa_nil)) (pa_cons pe_int (pa_cons pe_int (pa_cons pe_int (pa_cons (pv 1) pa_nil)))))))))), ?_⟩
    (change (_ : L2.TS) _ ([some (.ref a), none, none] : L2.St) _); try dsimp only [L2.cxOf, L2H.cxH]
    walk_at "rd"
    refine Vb.lp_list (xs := ns.map V.int) (fun i σ H' => H' = H ∧ ∃ (z : Int) (y : Option V), σ = [some (.ref a), some (.int z), y]) ⟨rfl, 1, none, rfl⟩ (fun i σ H' _ p => by rw [p.1]; exact hs) ?_ ?_
    · rintro i x σ H' hi ⟨rfl, z, y, rfl⟩
      obtain ⟨c, _, rfl⟩ := Vb.getV' hi
      walk_at "rd"
      exact ⟨rfl, _, _, rfl⟩
    · rintro σ H' ⟨rfl, z, y, rfl⟩
      walk_at "rd"
      refine Vb.r_list hs fun l hn => ?_
      walk_at "rd"
      refine ⟨Vb.size_ok (by show 5 ≤ 16777216; decide), fun st hst => ?_⟩
      have hlst : l ≠ st := fun e => by rw [e, upd_same] at hst; cases hst
      have hst' : H' st = none := by rw [← hst, upd_ne hlst.symm]
      refine q st _ hst' (Same.trans (Vb.same_new hn) (Vb.same_new hst)) ⟨l, ns, 0, 0, 0, z, hlst, upd_same, by walk_at "hp", by omega, by omega⟩
end
end K
namespace K
open PySem PySem.Spec PyProof.Rows L2
abbrev N__law_edge : List Str := ["store", "low", "high", "many", "way"]
theorem sc__law_edge : FnScope N__law_edge ["store", "low", "high"] (defScope s__law_edge) := ⟨rfl, rfl, rfl, by decide +kernel, rfl, by decide +kernel, by decide +kernel⟩
section
variable {P : Program} {w : World} {K : PySem.W.Frag} {mg : Str → Option Value} {base : Heap}
def sp_edge (K : PySem.W.Frag) : Sp := fun vs H Q _ => ∃ (st : Addr) (lo hi : Int), vs = [.ref st, .int lo, .int hi] ∧ Vb.StoreAt H st ∧ hi - lo < 1073741823 ∧ ∀ (v : Int) (H' : Hp), lo ≤ v → (lo ≤ hi → v ≤ hi) → (hi ≤ lo → v = lo) → Vb.Fr st H H' → Vb.StoreAt H' st → Q (.int v) H'
theorem use_edge {st : Addr} {lo hi : Int} {H : Hp} {Q : VK} {E : XK} (h1 : Vb.StoreAt H st) (h2 : hi - lo < 1073741823) (h : ∀ (v : Int) (H' : Hp), lo ≤ v → (lo ≤ hi → v ≤ hi) → (hi ≤ lo → v = lo) → Vb.Fr st H H' → Vb.StoreAt H' st → Q (.int v) H') : sp_edge K [.ref st, .int lo, .int hi] H Q E := ⟨st, lo, hi, rfl, h1, h2, h⟩
theorem ok_edge (T : Txt K mg) : FnOk P w K mg base (L2N.CX P w) 3 T.f__law_edge T.fd__law_edge ["store", "low", "high"] (sp_edge K) := by
  have G__law_take := ok_take (P := P) (w := w) (base := base) T
  refine Vb.okN T.d__law_edge.F sc__law_edge (fun vs H Q E h => ?_) (fun cdv A outer s H vs Q E hr h => ?_)
  · obtain ⟨a, b, c, rfl, _⟩ := h
    rfl
  · obtain ⟨st, lo, hi, rfl, hS, hb, q⟩ := h
    refine ⟨_, (pss_cons (ps_set (i := 3) sc__law_edge.nd rfl (by first | exact Or.inl rfl | exact Or.inr rfl) (pe_op op_add (pe_callB (Vb.call_max2 rfl) (by rfl) T.n_max (by decide +kernel) (pa_cons pe_int (pa_cons (pe_op op_sub (pv 2) (pv 1)) pa_nil))) pe_int))
      (pss_cons (ps_set (i := 4) sc__law_edge.nd rfl (by first | exact Or.inl rfl | exact Or.inr rfl) (pe_callS G__law_take (hr.mono (by first | decide | omega)) (by rfl) T.d__law_take.g T.d__law_take.F.kp T.d__law_take.b (fun σ => L2N.passAt (L2N.takes_of rfl rfl rfl rfl) σ) (pa_cons (pv 0) (pa_cons pe_int pa_nil))))
      (pss_cons (ps_if (pt_cmpR op_eq (pv 4) pe_int (nomark _)) (pss_one (ps_ret (pv 1))) pss_nil)
      (pss_cons (ps_if (pt_cmpR op_eq (pv 4) pe_int (nomark _)) (pss_one (ps_ret (pe_op op_sub (pe_op op_add (pv 1) (pv 3)) pe_int))) pss_nil)
      (pss_cons (ps_if (pt_cmpR op_eq (pv 4) pe_int (nomark _)) (pss_one (ps_ret (pe_op op_add (pv 1) (pe_callB (Vb.call_min2 rfl) (by rfl) T.n_min (by decide +kernel) (pa_cons (pe_op op_sub (pv 3) pe_int) (pa_cons pe_int pa_nil)))))) pss_nil)
      (pss_one (ps_ret (pe_op op_add (pv 1) (pe_callS G__law_take (hr.mono (by first | decide | omega)) (by rfl) T.d__law_take.g T.d__law_take.F.kp T.d__law_take.b (fun σ => L2N.passAt (L2N.takes_of rfl rfl rfl rfl) σ) (pa_cons (pv 0) (pa_cons (pv 3) pa_nil))))))))))), ?_⟩
    (change (_ : L2.TS) _ ([some (.ref st), some (.int lo), some (.int hi), none, none] : L2.St) _); try dsimp only [L2.cxOf, L2H.cxH]
    walk_at "rd"
    have hm : 0 < (if hi - lo > 0 then hi - lo else 0) + 1 ∧ (if hi - lo > 0 then hi - lo else 0) + 1 < 1073741824 ∧ (lo ≤ hi → (if hi - lo > 0 then hi - lo else 0) + 1 = hi - lo + 1) ∧ (hi ≤ lo → (if hi - lo > 0 then hi - lo else 0) + 1 = 1) := by
      split <;> omega
    generalize (if hi - lo > 0 then hi - lo else 0) + 1 = m at hm ⊢
    obtain ⟨m1, m2, m3, m4⟩ := hm
    refine use_take hS (by decide) fun v1 H1 a1 a2 _ f1 S1 => ?_
    walk_at "rd"
    refine Vb.r_ite (fun c1 => ?_) (fun c1 => ?_)
    · walk_at "rd"
      exact q _ _ (by omega) (by omega) (by omega) f1 S1
    · walk_at "rd"
      refine Vb.r_ite (fun c2 => ?_) (fun c2 => ?_)
      · walk_at "rd"
        exact q _ _ (by omega) (by omega) (by omega) f1 S1
      · walk_at "rd"
        refine Vb.r_ite (fun c3 => ?_) (fun c3 => ?_)
        · walk_at "rd"
          refine q _ _ ?_ ?_ ?_ f1 S1 <;> split <;> omega
        · walk_at "rd"
          refine use_take S1 (by omega) fun v2 H2 b1 b2 b3 f2 S2 => ?_
          walk_at "rd"
          exact q _ _ (by omega) (by omega) (by omega) (f1.trans f2) S2
end
end K
namespace K
open PySem PySem.Spec PyProof.Rows L2
abbrev N__law_chance : List Str := ["store", "part"]
theorem sc__law_chance : FnScope N__law_chance ["store", "part"] (defScope s__law_chance) := ⟨rfl, rfl, rfl, by decide +kernel, rfl, by decide +kernel, by decide +kernel⟩
section
variable {P : Program} {w : World} {K : PySem.W.Frag} {mg : Str → Option Value} {base : Heap}
def sp_chance (K : PySem.W.Frag) : Sp := fun vs H Q _ => ∃ (st : Addr) (m : Int), vs = [.ref st, .int m] ∧ Vb.StoreAt H st ∧ m < 1073741824 ∧ ∀ (b : Bool) (H' : Hp), Vb.Fr st H H' → Vb.StoreAt H' st → Q (.bl b) H'
theorem use_chance {st : Addr} {m : Int} {H : Hp} {Q : VK} {E : XK} (h1 : Vb.StoreAt H st) (h2 : m < 1073741824) (h : ∀ (b : Bool) (H' : Hp), Vb.Fr st H H' → Vb.StoreAt H' st → Q (.bl b) H') : sp_chance K [.ref st, .int m] H Q E := ⟨st, m, rfl, h1, h2, h⟩
theorem ok_chance (T : Txt K mg) : FnOk P w K mg base (L2N.CX P w) 3 T.f__law_chance T.fd__law_chance ["store", "part"] (sp_chance K) := by
  have G__law_take := ok_take (P := P) (w := w) (base := base) T
  refine Vb.okN T.d__law_chance.F sc__law_chance (fun vs H Q E h => ?_) (fun cdv A outer s H vs Q E hr h => ?_)
  · obtain ⟨a, b, rfl, _⟩ := h
    rfl
  · obtain ⟨st, m, rfl, hS, hm, q⟩ := h
    refine ⟨_, (pss_one (ps_ret (pe_cmpR op_eq (pe_callS G__law_take (hr.mono (by first | decide | omega)) (by rfl) T.d__law_take.g T.d__law_take.F.kp T.d__law_take.b (fun σ => L2N.passAt (L2N.takes_of rfl rfl rfl rfl) σ) (pa_cons (pv 0) (pa_cons (pv 1) pa_nil))) (pe_op op_sub (pe_callB (Vb.call_max2 rfl) (by rfl) T.n_max (by decide +kernel) (pa_cons pe_int (pa_cons (pv 1) pa_nil))) pe_int) (nomark _)))), ?_⟩
    (change (_ : L2.TS) _ ([some (.ref st), some (.int m)] : L2.St) _); try dsimp only [L2.cxOf, L2H.cxH]
    walk_at "rd"
    refine use_take hS hm fun t H1 _ _ _ f1 S1 => ?_
    walk_at "rd"
    exact q _ _ f1 S1
end
end K
namespace K
open PySem PySem.Spec PyProof.Rows L2
abbrev N__law_pick : List Str := ["store", "row"]
theorem sc__law_pick : FnScope N__law_pick ["store", "row"] (defScope s__law_pick) := ⟨rfl, rfl, rfl, by decide +kernel, rfl, by decide +kernel, by decide +kernel⟩
section
variable {P : Program} {w : World} {K : PySem.W.Frag} {mg : Str → Option Value} {base : Heap}
def sp_pick (K : PySem.W.Frag) : Sp := fun vs H Q _ => ∃ (st a : Addr) (xs : List V), vs = [.ref st, .ref a] ∧ Vb.StoreAt H st ∧ a ≠ st ∧ SqL K H a xs ∧ xs.length < 1000000 ∧ (xs = [] → Q .non H) ∧ ∀ (i : Nat) (v : V) (H' : Hp), xs[i]? = some v → Vb.Fr st H H' → Vb.StoreAt H' st → Q v H'
theorem use_pick {st a : Addr} {H : Hp} {Q : VK} {E : XK} (xs : List V) (h1 : Vb.StoreAt H st) (h2 : a ≠ st) (h3 : SqL K H a xs) (h4 : xs.length < 1000000) (h5 : xs ≠ []) (h : ∀ (i : Nat) (v : V) (H' : Hp), xs[i]? = some v → Vb.Fr st H H' → Vb.StoreAt H' st → Q v H') : sp_pick K [.ref st, .ref a] H Q E := ⟨st, a, xs, rfl, h1, h2, h3, h4, fun e => absurd e h5, h⟩
theorem ok_pick (T : Txt K mg) : FnOk P w K mg base (L2N.CX P w) 3 T.f__law_pick T.fd__law_pick ["store", "row"] (sp_pick K) := by
  have G__law_take := ok_take (P := P) (w := w) (base := base) T
  refine Vb.okN T.d__law_pick.F sc__law_pick (fun vs H Q E h => ?_) (fun cdv A outer s H vs Q E hr h => ?_)
  · obtain ⟨a, b, c, rfl, _⟩ := h
    rfl
  · obtain ⟨st, a, xs, rfl, hS, hne, hx, hb, q0, q⟩ := h
    refine ⟨_, (pss_cons (ps_if (pt_cmpR op_eq (pe_callB Vb.call_len (by rfl) T.n_len (by decide +kernel) (pa_cons (pv 1) pa_nil)) pe_int (nomark _)) (pss_one (ps_ret pe_non)) pss_nil)
      (pss_one (ps_ret (pe_ix ix_list (pv 1) (pe_callS G__law_take (hr.mono (by first | decide | omega)) (by rfl) T.d__law_take.g T.d__law_take.F.kp T.d__law_take.b (fun σ => L2N.passAt (L2N.takes_of rfl rfl rfl rfl) σ) (pa_cons (pv 0) (pa_cons (pe_callB Vb.call_len (by rfl) T.n_len (by decide +kernel) (pa_cons (pv 1) pa_nil)) pa_nil))) (fun _ _ => rfl))))), ?_⟩
    (change (_ : L2.TS) _ ([some (.ref st), some (.ref a)] : L2.St) _); try dsimp only [L2.cxOf, L2H.cxH]
    walk_at "rd"
    refine Vb.r_ite (fun c1 => ?_) (fun c1 => ?_)
    · walk_at "rd"
      exact q0 (List.eq_nil_of_length_eq_zero (by omega))
    · walk_at "rd"
      refine use_take hS (by omega) fun v H1 a1 a2 a3 f1 S1 => ?_
      have hlt : v.toNat < xs.length := by omega
      refine Vb.r_ixL (f1.seq hne hx) (Vb.at_lit v.toNat (by omega) (List.getElem?_eq_getElem hlt)) ?_
      exact q _ _ _ (List.getElem?_eq_getElem hlt) f1 S1
end
end K
namespace K
open PySem PySem.Spec PyProof.Rows L2
abbrev N__law_other_kind : List Str := ["store"]
theorem sc__law_other_kind : FnScope N__law_other_kind ["store"] (defScope s__law_other_kind) := ⟨rfl, rfl, rfl, by decide +kernel, rfl, by decide +kernel, by decide +kernel⟩
section
variable {P : Program} {w : World} {K : PySem.W.Frag} {mg : Str → Option Value} {base : Heap}
/-- a value that is no integer -/
def oddKinds : List PyData := [.bool true, .bool false, .none, .str "", .str "0", .str "1", .str "a", .tuple [], .tuple [.int 0]]
def sp_kind (K : PySem.W.Frag) : Sp := fun vs H Q _ => ∃ (st : Addr), vs = [.ref st] ∧ Vb.StoreAt H st ∧ ∀ (v : V) (d : PyData) (H' : Hp), d ∈ oddKinds → Vb.Fr st H H' → Vb.StoreAt H' st → (∀ Z, Vb.Trk Z H → Dp K (Vb.offs (st :: Z) H') v d) → Q v H'
theorem use_kind {st : Addr} {H : Hp} {Q : VK} {E : XK} (h1 : Vb.StoreAt H st) (h : ∀ (v : V) (d : PyData) (H' : Hp), d ∈ oddKinds → Vb.Fr st H H' → Vb.StoreAt H' st → (∀ Z, Vb.Trk Z H → Dp K (Vb.offs (st :: Z) H') v d) → Q v H') : sp_kind K [.ref st] H Q E := ⟨st, rfl, h1, h⟩
theorem ok_kind (T : Txt K mg) : FnOk P w K mg base (L2N.CX P w) 4 T.f__law_other_kind T.fd__law_other_kind ["store"] (sp_kind K) := by
  have G__law_pick := ok_pick (P := P) (w := w) (base := base) T
  refine Vb.okN T.d__law_other_kind.F sc__law_other_kind (fun vs H Q E h => ?_) (fun cdv A outer s H vs Q E hr h => ?_)
  · obtain ⟨a, rfl, _⟩ := h
    rfl
  · obtain ⟨st, rfl, hS, q⟩ := h
    refine ⟨_, (pss_one (ps_ret (pe_callS G__law_pick (hr.mono (by first | decide | omega)) (by rfl) T.d__law_pick.g T.d__law_pick.F.kp T.d__law_pick.b (fun σ => L2N.passAt (L2N.takes_of rfl rfl rfl rfl) σ) (pa_cons (pv 0) (pa_cons (pe_lst (pa_cons pe_bl (pa_cons pe_bl (pa_cons pe_non (pa_cons pe_str (pa_cons pe_str (pa_cons pe_str (pa_cons pe_str (pa_cons (pe_tup pa_nil) (pa_cons (pe_tup (pa_cons pe_int pa_nil)) pa_nil)))))))))) pa_nil))))), ?_⟩
    (change (_ : L2.TS) _ ([some (.ref st)] : L2.St) _); try dsimp only [L2.cxOf, L2H.cxH]
    walk_at "rd"
    refine ⟨Vb.size_ok (by decide), fun p hp => ?_⟩
    walk_at "rd"
    refine ⟨Vb.size_ok (by show 1 ≤ 16777216; decide), fun r hr => ?_⟩
    walk_at "rd"
    refine ⟨Vb.size_ok (by show 9 ≤ 16777216; decide), fun l hl => ?_⟩
    walk_at "rd"
    have e1 := Vb.same_new (o := .tup []) hp
    have e2 := Vb.same_new (o := .tup [.int 0]) hr
    have e3 := Vb.same_new (o := .lst [.bl true, .bl false, .non, .str "", .str "0", .str "1", .str "a", .ref p, .ref r]) hl
    have e := (e1.trans e2).trans e3
    have n1 := hS.ne hp
    have n2 := (hS.same e1).ne hr
    have n3 := (hS.same (e1.trans e2)).ne hl
    refine use_pick _ (hS.same e) n3 (Vb.sq_of upd_same) (by show 9 < 1000000; decide) (by simp) fun i v H' hv f S => ?_
    have hp' : H' p = some (.tup []) := f.k _ _ n1 (e3 _ _ (e2 _ _ upd_same))
    have hr' : H' r = some (.tup [.int 0]) := f.k _ _ n2 (e3 _ _ upd_same)
    have f' : Vb.Fr st H H' := (Vb.Fr.of e).trans f
    obtain ⟨d, hd⟩ : ∃ d, oddKinds[i]? = some d := by
      have h9 : i < 9 := (List.getElem?_eq_some_iff.mp hv).1
      exact ⟨_, List.getElem?_eq_getElem (show i < oddKinds.length from h9)⟩
    refine q _ _ _ (List.mem_of_getElem? hd) f' S fun Z t => ?_
    have m1 : p ∉ st :: Z := fun m => (List.mem_cons.mp m).elim n1 (t.new hp)
    have m2 : r ∉ st :: Z := fun m => (List.mem_cons.mp m).elim n2 ((t.same e1).new hr)
    have all : DpAll K (Vb.offs (st :: Z) H') [.bl true, .bl false, .non, .str "", .str "0", .str "1", .str "a", .ref p, .ref r] oddKinds :=
      .cons (.bl _) (.cons (.bl _) (.cons .non (.cons (.str _) (.cons (.str _) (.cons (.str _) (.cons (.str _) (.cons (Vb.dp_tup (Vb.offs_of m1 hp') .nil) (.cons (Vb.dp_tup (Vb.offs_of m2 hr') (.cons (.int 0) .nil)) .nil))))))))
    obtain ⟨d', hd', g⟩ := Vb.dpa_get all hv
    rw [hd] at hd'
    cases hd'
    exact g
end
end K
namespace K
open PySem PySem.Spec PyProof.Rows L2
abbrev N_is_whole : List Str := ["value"]
theorem sc_is_whole : FnScope N_is_whole ["value"] (defScope s_is_whole) := ⟨rfl, rfl, rfl, by decide +kernel, rfl, by decide +kernel, by decide +kernel⟩
section
variable {P : Program} {w : World} {K : PySem.W.Frag} {mg : Str → Option Value} {base : Heap}
def whole : PyData → Bool | .int _ => true | _ => false
def sp_whole (K : PySem.W.Frag) : Sp := fun vs H Q _ => ∃ (v : V) (d : PyData), vs = [v] ∧ Dp K H v d ∧ Q (.bl (whole d)) H
theorem use_whole {v : V} {d : PyData} {b : Bool} {H : Hp} {Q : VK} {E : XK} (h : Dp K H v d) (e : whole d = b) (q : Q (.bl b) H) : sp_whole K [v] H Q E := ⟨v, d, rfl, h, by rw [e]; exact q⟩
theorem ok_whole (T : Txt K mg) : FnOk P w K mg base (L2N.CX P w) 1 T.f_is_whole T.fd_is_whole ["value"] (sp_whole K) := by
  refine Vb.okN T.d_is_whole.F sc_is_whole (fun vs H Q E h => ?_) (fun cdv A outer s H vs Q E hr h => ?_)
  · obtain ⟨a, b, rfl, _⟩ := h
    rfl
  · obtain ⟨v, d, rfl, hd, q⟩ := h
    refine ⟨_, (pss_one (ps_ret (pe_and (pe_callB call_isi (by rfl) T.n_isinstance (by decide +kernel) (pa_cons (pv 0) (pa_cons (pe_bltn (v := .ty "int") (by rfl) T.n_int (by decide +kernel) rfl) pa_nil))) (pe_one (pe_not (pe_callB call_isi (by rfl) T.n_isinstance (by decide +kernel) (pa_cons (pv 0) (pa_cons (pe_bltn (v := .ty "bool") (by rfl) T.n_bool (by decide +kernel) rfl) pa_nil)))))))), ?_⟩
    (change (_ : L2.TS) _ ([some (v)] : L2.St) _); try dsimp only [L2.cxOf, L2H.cxH]
    cases d <;> (walk_at "rd"; exact q)
end
end K
namespace K
open PySem PySem.Spec PyProof.Rows L2
abbrev N_is_prime : List Str := ["value", "divisor"]
theorem sc_is_prime : FnScope N_is_prime ["value"] (defScope s_is_prime) := ⟨rfl, rfl, rfl, by decide +kernel, rfl, by decide +kernel, by decide +kernel⟩
section
variable {P : Program} {w : World} {K : PySem.W.Frag} {mg : Str → Option Value} {base : Heap}
/-- is_prime -/
def sp_isprime (K : PySem.W.Frag) (C : Addr) : Sp := fun vs H Q E => ∃ (v : V) (d : PyData), vs = [v] ∧ Dp K H v d ∧ (∀ n, d = .int n → (10000 < n → E (.ref C) none H) ∧ (n ≤ 10000 → Q (.bl (Vb.isP n)) H)) ∧ (whole d = false → Q (.bl false) H)
theorem use_isprime {C : Addr} {n : Int} {b : Bool} {H : Hp} {Q : VK} {E : XK} (h : n ≤ 10000) (e : Vb.isP n = b) (q : Q (.bl b) H) : sp_isprime K C [.int n] H Q E := ⟨.int n, .int n, rfl, .int n, fun m z => by cases z; exact ⟨fun h' => absurd h (by omega), fun _ => by rw [e]; exact q⟩, fun z => by cases z⟩
theorem ok_isprime (T : Txt K mg) : FnOk P w K mg base (L2N.CX P w) 2 T.f_is_prime T.fd_is_prime ["value"] (sp_isprime K T.C_TooLarge) := by
  have G_is_whole := ok_whole (P := P) (w := w) (base := base) T
  refine Vb.okN T.d_is_prime.F sc_is_prime (fun vs H Q E h => ?_) (fun cdv A outer s H vs Q E hr h => ?_)
  · obtain ⟨a, b, rfl, _⟩ := h
    rfl
  · obtain ⟨v, d, rfl, hd, q1, q2⟩ := h
    refine ⟨_, (pss_cons (ps_if (pt_not (pt_val (pe_callS G_is_whole (hr.mono (by first | decide | omega)) (by rfl) T.d_is_whole.g T.d_is_whole.F.kp T.d_is_whole.b (fun σ => L2N.passAt (L2N.takes_of rfl rfl rfl rfl) σ) (pa_cons (pv 0) pa_nil)))) (pss_one (ps_ret pe_bl)) pss_nil)
      (pss_cons (ps_if (pt_cmpR op_gt (pv 0) (pe_glob (v := .int 10000) (by rfl) T.c_MAX_TESTED ⟨_, rfl⟩) (nomark _)) (pss_one (L2N.ps_raise rfl (L2N.takes_of rfl rfl rfl rfl) (Vb.pmk0 T.x_TooLarge rfl))) pss_nil)
      (pss_cons (ps_set (i := 1) sc_is_prime.nd rfl (by first | exact Or.inl rfl | exact Or.inr rfl) pe_int)
      (pss_cons (ps_while (L2.passes_of rfl) (pt_cmpR op_le (pe_op op_mul (pv 1) (pv 1)) (pv 0) (nomark _)) (pss_cons (ps_if (pt_cmpR op_eq (pe_op op_mod (pv 0) (pv 1)) pe_int (nomark _)) (pss_one (ps_ret pe_bl)) pss_nil)
      (pss_one (ps_set (i := 1) sc_is_prime.nd rfl (by first | exact Or.inl rfl | exact Or.inr rfl) (pe_op op_add (pv 1) pe_int)))))
      (pss_one (ps_ret (pe_cmpR op_gt (pv 0) pe_int (nomark _)))))))), ?_⟩
    (change (_ : L2.TS) _ ([some (v), none] : L2.St) _); try dsimp only [L2.cxOf, L2H.cxH]
    walk_at "rd"
    cases hw : whole d with
    | false =>
      refine use_whole hd hw ?_
      walk_at "rd"
      exact q2 hw
    | true =>
      refine use_whole hd hw ?_
      walk_at "rd"
      cases d with
      | int n =>
        cases hd
        obtain ⟨q3, q4⟩ := q1 n rfl
        walk_at "rd"
        refine Vb.r_ite (fun c1 => ?_) (fun c1 => ?_)
        · exact q3 c1
        walk_at "rd"
        refine Vb.r_while (fun m σ H' => H' = H ∧ ∃ D : Int, σ = [some (.int n), some (.int D)] ∧ 2 ≤ D ∧ D ≤ 10001 ∧ (∀ d : Int, 2 ≤ d → d < D → n % d ≠ 0) ∧ m = (n + 1 - D).toNat) _ ⟨rfl, 2, rfl, by omega, by omega, fun d a b => by omega, rfl⟩ ?_
        rintro m σ H' ⟨rfl, D, rfl, hD, hD1, hd, hm⟩
        have hDn : D * D ≤ n → D < n := fun h => by
          have : D * 2 ≤ D * D := Int.mul_le_mul_of_nonneg_left hD (by omega)
          omega
        walk_at "rd"
        refine Vb.r_ite (fun c2 => ?_) (fun c2 => ?_)
        · have hl := hDn c2
          refine Vb.wh_body ?_
          walk_at "rd"
          refine Vb.r_ite (fun c3 => ?_) (fun c3 => ?_)
          · walk_at "rd"
            have e : Vb.isP n = false := by
              cases z : Vb.isP n with
              | false => rfl
              | true => exact absurd ((Vb.isP_iff n).mp z) (Vb.not_prm hD hl c3)
            rw [← e]
            exact q4 (by omega)
          · walk_at "rd"
            refine ⟨_, ?_, rfl, D + 1, rfl, by omega, by omega, fun d a b => ?_, rfl⟩
            · omega
            · by_cases z : d = D
              · rw [z]; exact c3
              · exact hd d a (by omega)
        · walk_at "rd"
          have e : Vb.isP n = decide (1 < n) := by
            by_cases z : 1 < n
            · rw [decide_eq_true z, Vb.isP_iff]
              exact Vb.prm_root (by omega) hD (by omega) hd
            · rw [decide_eq_false z]
              cases y : Vb.isP n with
              | false => rfl
              | true => exact absurd ((Vb.isP_iff n).mp y).1 (by omega)
          rw [← e]
          exact q4 (by omega)
      | none => cases hw
      | bool b => cases hw
      | str x => cases hw
      | list ds => cases hw
      | tuple ds => cases hw
      | dict kvs => cases hw
end
end K
namespace K
open PySem PySem.Spec PyProof.Rows L2
abbrev N_check_prime : List Str := ["prime"]
theorem sc_check_prime : FnScope N_check_prime ["prime"] (defScope s_check_prime) := ⟨rfl, rfl, rfl, by decide +kernel, rfl, by decide +kernel, by decide +kernel⟩
section
variable {P : Program} {w : World} {K : PySem.W.Frag} {mg : Str → Option Value} {base : Heap}
/-- check_prime -/
def field : PyData → Bool | .int p => decide (p ≤ 101) && Vb.isP p | _ => false
theorem field_yes {n : Int} (h : Vb.Prm n) (l : n ≤ 101) : field (.int n) = true := by
  show (decide (n ≤ 101) && Vb.isP n) = true
  rw [decide_eq_true l, (Vb.isP_iff n).mpr h]
  rfl
def sp_check (K : PySem.W.Frag) (C : Addr) : Sp := fun vs H Q E => ∃ (v : V) (d : PyData), vs = [v] ∧ Dp K H v d ∧ (field d = true → Q v H) ∧ (field d = false → ∀ dd : Addr, H dd = none → E (.ref C) (some dd) (upd H dd (.xd [("value", v)])))
theorem ok_check (T : Txt K mg) : FnOk P w K mg base (L2N.CX P w) 3 T.f_check_prime T.fd_check_prime ["prime"] (sp_check K T.C_NotPrime) := by
  have G_is_prime := ok_isprime (P := P) (w := w) (base := base) T
  have G_is_whole := ok_whole (P := P) (w := w) (base := base) T
  refine Vb.okN T.d_check_prime.F sc_check_prime (fun vs H Q E h => ?_) (fun cdv A outer s H vs Q E hr h => ?_)
  · obtain ⟨a, b, rfl, _⟩ := h
    rfl
  · obtain ⟨v, d, rfl, hd, q1, q2⟩ := h
    refine ⟨_, (pss_cons (ps_if (PW.pt (pw_or (pt_not (pt_val (pe_callS G_is_whole (hr.mono (by first | decide | omega)) (by rfl) T.d_is_whole.g T.d_is_whole.F.kp T.d_is_whole.b (fun σ => L2N.passAt (L2N.takes_of rfl rfl rfl rfl) σ) (pa_cons (pv 0) pa_nil)))) (pw_or (pt_cmpR op_gt (pv 0) (pe_glob (v := .int 101) (by rfl) T.c_MAX_PRIME ⟨_, rfl⟩) (nomark _)) (pw_or1 (pt_not (pt_val (pe_callS G_is_prime (hr.mono (by first | decide | omega)) (by rfl) T.d_is_prime.g T.d_is_prime.F.kp T.d_is_prime.b (fun σ => L2N.passAt (L2N.takes_of rfl rfl rfl rfl) σ) (pa_cons (pv 0) pa_nil)))))))) (pss_one (L2N.ps_raise rfl (L2N.takes_of rfl rfl rfl rfl) (L2.pmk_value T.i_NotPrime (hr.mono (by decide) : Room 1 _) (by exact (pa_cons (pv 0) pa_nil)) rfl))) pss_nil)
      (pss_one (ps_ret (pv 0)))), ?_⟩
    (change (_ : L2.TS) _ ([some (v)] : L2.St) _); try dsimp only [L2.cxOf, L2H.cxH]
    walk_at "rd"
    cases hw : whole d with
    | false =>
      refine use_whole hd hw ?_
      walk_at "rd"
      have hf : field d = false := by cases d <;> first | rfl | cases hw
      exact ⟨_, rfl, _, rfl, fun dd n => q2 hf dd n⟩
    | true =>
      refine use_whole hd hw ?_
      walk_at "rd"
      cases d with
      | int n =>
        cases hd
        walk_at "rd"
        refine Vb.r_ite (fun c1 => ?_) (fun c1 => ?_)
        · walk_at "rd"
          have hf : field (.int n) = false := by
            show (decide (n ≤ 101) && Vb.isP n) = false
            rw [decide_eq_false (by omega)]
            rfl
          exact ⟨_, rfl, _, rfl, fun dd n => q2 hf dd n⟩
        walk_at "rd"
        have hf : field (.int n) = Vb.isP n := by
          show (decide (n ≤ 101) && Vb.isP n) = _
          rw [decide_eq_true (by omega)]
          rfl
        cases hp : Vb.isP n with
        | true =>
          refine use_isprime (by omega) hp ?_
          walk_at "rd"
          exact q1 (hf.trans hp)
        | false =>
          refine use_isprime (by omega) hp ?_
          walk_at "rd"
          exact ⟨_, rfl, _, rfl, fun dd n => q2 (hf.trans hp) dd n⟩
      | none => cases hw
      | bool b => cases hw
      | str x => cases hw
      | list ds => cases hw
      | tuple ds => cases hw
      | dict kvs => cases hw
end
end K
namespace K
open PySem PySem.Spec PyProof.Rows L2
section
theorem odd_bad : ∀ d ∈ oddKinds, field d = false ∧ whole d = false ∧ Vb.DOk 4 d := by
  intro d m
  unfold oddKinds at m
  simp only [List.mem_cons, List.not_mem_nil, or_false] at m
  rcases m with rfl | rfl | rfl | rfl | rfl | rfl | rfl | rfl | rfl
  · exact ⟨rfl, rfl, trivial⟩
  · exact ⟨rfl, rfl, trivial⟩
  · exact ⟨rfl, rfl, trivial⟩
  · exact ⟨rfl, rfl, trivial⟩
  · exact ⟨rfl, rfl, trivial⟩
  · exact ⟨rfl, rfl, trivial⟩
  · exact ⟨rfl, rfl, trivial⟩
  · exact ⟨rfl, rfl, by decide, fun d m => absurd m List.not_mem_nil⟩
  · refine ⟨rfl, rfl, by decide, fun d m => ?_⟩
    rw [List.mem_singleton.mp m]
    exact trivial
end
end K
namespace K
open PySem PySem.Spec PyProof.Rows L2

abbrev N__law_primes : List Str := ["limit", "primes", "number", "divided", "prime"]
theorem sc__law_primes : FnScope N__law_primes ["limit"] (defScope s__law_primes) := ⟨rfl, rfl, rfl, by decide +kernel, rfl, by decide +kernel, by decide +kernel⟩
section
variable {P : Program} {w : World} {K : PySem.W.Frag} {mg : Str → Option Value} {base : Heap}
def sp_primes (K : PySem.W.Frag) : Sp := fun vs H Q _ => ∃ (n : Int), vs = [.int n] ∧ 1 ≤ n ∧ n ≤ 10000 ∧ ∀ (p : Addr) (H' : Hp), H p = none → Same H H' → H' p = some (.lst ((Vb.upto n).map V.int)) → Q (.ref p) H'
theorem use_primes {n : Int} {H : Hp} {Q : VK} {E : XK} (h1 : 1 ≤ n) (h : n ≤ 10000) (q : ∀ (p : Addr) (H' : Hp), H p = none → Same H H' → H' p = some (.lst ((Vb.upto n).map V.int)) → Q (.ref p) H') : sp_primes K [.int n] H Q E := ⟨n, rfl, h1, h, q⟩
theorem ok_primes (T : Txt K mg) : FnOk P w K mg base (L2N.CX P w) 1 T.f__law_primes T.fd__law_primes ["limit"] (sp_primes K) := by
  refine Vb.okN T.d__law_primes.F sc__law_primes (fun vs H Q E h => ?_) (fun cdv A outer s H vs Q E hr h => ?_)
  · obtain ⟨a, rfl, _⟩ := h
    rfl
  · obtain ⟨n, rfl, hn1, hn, q⟩ := h
    refine ⟨_, (pss_cons (ps_set (i := 1) sc__law_primes.nd rfl (by first | exact Or.inl rfl | exact Or.inr rfl) (pe_lst pa_nil))
      (pss_cons (ps_for (L2.passes_of rfl) rfl (Vb.pi_rangeW rfl T.n_range (pa_cons pe_int (pa_cons (pe_op op_add (pv 0) pe_int) pa_nil))) (pg_name (i := 2) sc__law_primes.nd rfl (by first | exact Or.inl rfl | exact Or.inr rfl))
        (pss_cons (ps_set (i := 3) sc__law_primes.nd rfl (by first | exact Or.inl rfl | exact Or.inr rfl) pe_bl)
      (Evl.pss_cut (ps_for (L2.passes_of rfl) rfl (pi_list (pv 1)) (pg_name (i := 4) sc__law_primes.nd rfl (by first | exact Or.inl rfl | exact Or.inr rfl))
        (pss_cons (ps_if (pt_cmpR op_gt (pe_op op_mul (pv 4) (pv 4)) (pv 2) (nomark _)) (pss_one ps_break) pss_nil)
      (pss_one (ps_if (pt_cmpR op_eq (pe_op op_mod (pv 2) (pv 4)) pe_int (nomark _)) (pss_cons (ps_set (i := 3) sc__law_primes.nd rfl (by first | exact Or.inl rfl | exact Or.inr rfl) pe_bl)
      (pss_one ps_break)) pss_nil))))
      (pss_one (ps_if (pt_not (pt_val (pv 3))) (pss_one (ps_expr (pe_bm PySem.F.plainAttrs_list PySem.F.slot_list_append PySem.F.type_list_append mt_append (pv 1) (pa_cons (pv 2) pa_nil)))) pss_nil)))))
      (pss_one (ps_ret (pv 1))))), ?_⟩
    (change (_ : L2.TS) _ ([some (.int n), none, none, none, none] : L2.St) _); try dsimp only [L2.cxOf, L2H.cxH]
    walk_at "rd"
    refine ⟨Vb.size_ok (Nat.zero_le _), fun p hp => ?_⟩
    walk_at "rd"
    refine Vb.lp_range (fun i σ H' => i ≤ (n + 1 - 2).toNat ∧ Same H H' ∧ H' p = some (.lst ((Vb.upto (1 + i)).map V.int)) ∧ ∃ y2 y3 y4, σ = [some (.int n), some (.ref p), y2, y3, y4]) ⟨Nat.zero_le _, Vb.same_new hp, ?_, none, none, none, rfl⟩ ?_ ?_
    · rw [Vb.upto_low (by omega)]
      exact upd_same
    · rintro i σ H' hi ⟨_, e, ha, y2, y3, y4, rfl⟩
      have hl := Vb.upto_len (n := 1 + i)
      have hnx := Vb.upto_next (n := 1 + i) (by omega)
      rw [show (1 : Int) + i + 1 = 2 + i by omega] at hnx
      walk_at "rd"
      refine Vb.r_cut (fun σ' H2 => H2 = H' ∧ ∃ y, σ' = [some (.int n), some (.ref p), some (.int (2 + i)), some (.bl (!Vb.isP (2 + i))), y]) ?_ ?_
      · walk_at "rd"
        refine Vb.lp_list (xs := (Vb.upto (1 + i)).map V.int) (fun j σ' H2 => H2 = H' ∧ (∀ k q, k < j → (Vb.upto (1 + i))[k]? = some q → (2 + (i : Int)) % q ≠ 0) ∧ ∃ y, σ' = [some (.int n), some (.ref p), some (.int (2 + i)), some (.bl false), y]) ⟨rfl, fun k q h => absurd h (Nat.not_lt_zero k), y4, rfl⟩ (fun j σ' H2 _ c => by rw [c.1]; exact Vb.sq_of ha) ?_ ?_
        · rintro j x σ' H2 hj ⟨rfl, hk, y, rfl⟩
          obtain ⟨q, hq, rfl⟩ := Vb.getV' hj
          obtain ⟨pq, lq⟩ := Vb.mem_upto.mp (List.mem_of_getElem? hq)
          have q2 := pq.1
          walk_at "rd"
          refine Vb.r_ite (fun c => ?_) (fun c => ?_)
          · walk_at "rd"
            have e : Vb.isP (2 + i) = true := (Vb.isP_iff _).mpr (Vb.prm_root (by omega) q2 c fun d a b z => by
              obtain ⟨r, pr, lr, zr⟩ := Vb.least_prime d.toNat _ d (Nat.le_refl _) a z
              obtain ⟨k, hkj, hkr⟩ := Vb.sorted_ahead (Vb.upto_sorted _) hq (Vb.mem_upto.mpr ⟨pr, by omega⟩) (show r < q by omega)
              exact hk k r hkj hkr zr)
            rw [e]
            exact ⟨rfl, _, rfl⟩
          · walk_at "rd"
            refine Vb.r_ite (fun c2 => ?_) (fun c2 => ?_)
            · walk_at "rd"
              have e : Vb.isP (2 + i) = false := by
                cases z : Vb.isP (2 + i) with
                | false => rfl
                | true => exact absurd ((Vb.isP_iff _).mp z) (Vb.not_prm q2 (by omega) c2)
              rw [e]
              exact ⟨rfl, _, rfl⟩
            · walk_at "rd"
              refine ⟨rfl, fun k r hk' hr' => ?_, _, rfl⟩
              by_cases z : k = j
              · rw [z, hq] at hr'
                cases hr'
                exact c2
              · exact hk k r (by omega) hr'
        · rintro σ' H2 ⟨rfl, hk, y, rfl⟩
          have e : Vb.isP (2 + i) = true := (Vb.isP_iff _).mpr (Vb.prm_of (by omega) fun r pr lr => by
            obtain ⟨k, hkr⟩ := List.mem_iff_getElem?.mp (Vb.mem_upto.mpr ⟨pr, show r ≤ 1 + i by omega⟩)
            refine hk k r ?_ hkr
            rw [List.length_map]
            exact (List.getElem?_eq_some_iff.mp hkr).1)
          rw [e]
          exact ⟨rfl, _, rfl⟩
      · rintro σ' H2 ⟨rfl, y, rfl⟩
        walk_at "rd"
        rw [Bool.not_not]
        refine Vb.r_iteb (fun c => ?_) (fun c => ?_)
        · walk_at "rd"
          refine ⟨by omega, Vb.same_mut e hp, ?_, _, _, _, rfl⟩
          rw [show (1 : Int) + ((i + 1 : Nat) : Int) = 2 + i by omega, hnx, c, if_pos rfl, List.map_append]
          exact upd_same
        · refine ⟨by omega, e, ?_, _, _, _, rfl⟩
          rw [show (1 : Int) + ((i + 1 : Nat) : Int) = 2 + i by omega, hnx, c, if_neg (by decide), List.append_nil]
          exact ha
    · rintro σ H' ⟨_, e, ha, y2, y3, y4, rfl⟩
      walk_at "rd"
      refine q p H' hp e ?_
      rw [ha, show (1 : Int) + ((n + 1 - 2).toNat : Nat) = n by omega]
end
end K
namespace K
open PySem PySem.Spec PyProof.Rows L2
abbrev N__law_prime : List Str := ["store", "primes"]
theorem sc__law_prime : FnScope N__law_prime ["store"] (defScope s__law_prime) := ⟨rfl, rfl, rfl, by decide +kernel, rfl, by decide +kernel, by decide +kernel⟩
section
variable {P : Program} {w : World} {K : PySem.W.Frag} {mg : Str → Option Value} {base : Heap}
/-- a prime of a field -/
def sp_prime (K : PySem.W.Frag) : Sp := fun vs H Q _ => ∃ (st : Addr), vs = [.ref st] ∧ Vb.StoreAt H st ∧ ∀ (p : Int) (H' : Hp), Vb.Prm p → p ≤ 101 → Vb.Fr st H H' → Vb.StoreAt H' st → Q (.int p) H'
theorem use_prime {st : Addr} {H : Hp} {Q : VK} {E : XK} (h1 : Vb.StoreAt H st) (h : ∀ (p : Int) (H' : Hp), Vb.Prm p → p ≤ 101 → Vb.Fr st H H' → Vb.StoreAt H' st → Q (.int p) H') : sp_prime K [.ref st] H Q E := ⟨st, rfl, h1, h⟩
theorem ok_prime (T : Txt K mg) : FnOk P w K mg base (L2N.CX P w) 4 T.f__law_prime T.fd__law_prime ["store"] (sp_prime K) := by
  have G__law_primes := ok_primes (P := P) (w := w) (base := base) T
  have G__law_edge := ok_edge (P := P) (w := w) (base := base) T
  refine Vb.okN T.d__law_prime.F sc__law_prime (fun vs H Q E h => ?_) (fun cdv A outer s H vs Q E hr h => ?_)
  · obtain ⟨a, rfl, _⟩ := h
    rfl
  · obtain ⟨st, rfl, hS, q⟩ := h
    refine ⟨_, (pss_cons (ps_set (i := 1) sc__law_prime.nd rfl (by first | exact Or.inl rfl | exact Or.inr rfl) (pe_callS G__law_primes (hr.mono (by first | decide | omega)) (by rfl) T.d__law_primes.g T.d__law_primes.F.kp T.d__law_primes.b (fun σ => L2N.passAt (L2N.takes_of rfl rfl rfl rfl) σ) (pa_cons pe_int pa_nil)))
      (pss_one (ps_ret (pe_ix ix_list (pv 1) (pe_callS G__law_edge (hr.mono (by first | decide | omega)) (by rfl) T.d__law_edge.g T.d__law_edge.F.kp T.d__law_edge.b (fun σ => L2N.passAt (L2N.takes_of rfl rfl rfl rfl) σ) (pa_cons (pv 0) (pa_cons pe_int (pa_cons (pe_op op_sub (pe_callB Vb.call_len (by rfl) T.n_len (by decide +kernel) (pa_cons (pv 1) pa_nil)) pe_int) pa_nil)))) (fun _ _ => rfl))))), ?_⟩
    (change (_ : L2.TS) _ ([some (.ref st), none] : L2.St) _); try dsimp only [L2.cxOf, L2H.cxH]
    walk_at "rd"
    refine use_primes (by decide) (by decide) fun p H1 np e1 hp => ?_
    walk_at "rd"
    have hl := Vb.upto_len (n := 101)
    have h0 : 0 < (Vb.upto 101).length := List.length_pos_of_mem (Vb.mem_upto.mpr ⟨(Vb.isP_iff 2).mp (by decide +kernel), by decide⟩)
    refine use_edge (hS.same e1) (by rw [List.length_map]; omega) fun v H2 a1 a2 _ f2 S2 => ?_
    rw [List.length_map] at a2
    have hlt : v.toNat < (Vb.upto 101).length := by omega
    refine Vb.r_ixL (Vb.sq_of (f2.k _ _ (hS.ne np) hp)) (Vb.at_lit v.toNat (by omega) (Vb.getV hlt)) ?_
    obtain ⟨g1, g2⟩ := Vb.mem_upto.mp (List.getElem_mem hlt)
    exact q _ _ g1 g2 ((Vb.Fr.of e1).trans f2) S2
end
end K
namespace K
open PySem PySem.Spec PyProof.Rows L2
abbrev N_is_number : List Str := ["prime", "value"]
theorem sc_is_number : FnScope N_is_number ["prime", "value"] (defScope s_is_number) := ⟨rfl, rfl, rfl, by decide +kernel, rfl, by decide +kernel, by decide +kernel⟩
section
variable {P : Program} {w : World} {K : PySem.W.Frag} {mg : Str → Option Value} {base : Heap}
/-- a number of the field of p -/
def inField (p : Int) : PyData → Bool | .int n => decide (0 ≤ n) && decide (n < p) | _ => false
theorem inField_int {p n : Int} : inField p (.int n) = true ↔ 0 ≤ n ∧ n < p := by
  show (decide (0 ≤ n) && decide (n < p)) = true ↔ _
  rw [Bool.and_eq_true, decide_eq_true_iff, decide_eq_true_iff]
theorem inField_of {p : Int} {d : PyData} (h : inField p d = true) : ∃ n, d = .int n ∧ 0 ≤ n ∧ n < p := by
  cases d <;> first | (cases h; done) | exact ⟨_, rfl, inField_int.mp h⟩
def sp_number (K : PySem.W.Frag) : Sp := fun vs H Q _ => ∃ (p : Int) (v : V) (d : PyData), vs = [.int p, v] ∧ Dp K H v d ∧ Q (.bl (inField p d)) H
theorem use_number {p : Int} {v : V} {d : PyData} {b : Bool} {H : Hp} {Q : VK} {E : XK} (h : Dp K H v d) (e : inField p d = b) (q : Q (.bl b) H) : sp_number K [.int p, v] H Q E := ⟨p, v, d, rfl, h, by rw [e]; exact q⟩
theorem ok_number (T : Txt K mg) : FnOk P w K mg base (L2N.CX P w) 2 T.f_is_number T.fd_is_number ["prime", "value"] (sp_number K) := by
  have G_is_whole := ok_whole (P := P) (w := w) (base := base) T
  refine Vb.okN T.d_is_number.F sc_is_number (fun vs H Q E h => ?_) (fun cdv A outer s H vs Q E hr h => ?_)
  · obtain ⟨a, b, c, rfl, _⟩ := h
    rfl
  · obtain ⟨p, v, d, rfl, hd, q⟩ := h
    refine ⟨_, (pss_one (ps_ret (pe_and (pe_callS G_is_whole (hr.mono (by first | decide | omega)) (by rfl) T.d_is_whole.g T.d_is_whole.F.kp T.d_is_whole.b (fun σ => L2N.passAt (L2N.takes_of rfl rfl rfl rfl) σ) (pa_cons (pv 1) pa_nil)) (pe_one (pe_chain op_le op_lt pe_int (pv 1) (pv 0)))))), ?_⟩
    (change (_ : L2.TS) _ ([some (.int p), some (v)] : L2.St) _); try dsimp only [L2.cxOf, L2H.cxH]
    walk_at "rd"
    cases hw : whole d with
    | false =>
      refine use_whole hd hw ?_
      walk_at "rd"
      have hf : inField p d = false := by cases d <;> first | rfl | cases hw
      rw [hf] at q
      exact q
    | true =>
      refine use_whole hd hw ?_
      cases d <;> first | (cases hw; done) | skip
      rename_i n
      cases hd
      walk_at "rd"
      have e : inField p (.int n) = (decide (0 ≤ n) && decide (n < p)) := rfl
      rw [e] at q
      refine Vb.r_ite (fun c => ?_) (fun c => ?_)
      · rw [decide_eq_true c] at q
        walk_at "rd"
        exact q
      · rw [decide_eq_false c] at q
        exact q
end
end K
namespace K
open PySem PySem.Spec PyProof.Rows L2
abbrev N_check_number : List Str := ["prime", "value"]
theorem sc_check_number : FnScope N_check_number ["prime", "value"] (defScope s_check_number) := ⟨rfl, rfl, rfl, by decide +kernel, rfl, by decide +kernel, by decide +kernel⟩
section
variable {P : Program} {w : World} {K : PySem.W.Frag} {mg : Str → Option Value} {base : Heap}
def sp_checknum (K : PySem.W.Frag) (C : Addr) : Sp := fun vs H Q E => ∃ (p : Int) (v : V) (d : PyData), vs = [.int p, v] ∧ Dp K H v d ∧ (inField p d = true → Q .non H) ∧ (inField p d = false → ∀ dd : Addr, H dd = none → E (.ref C) (some dd) (upd H dd (.xd [("value", v)])))
theorem ok_checknum (T : Txt K mg) : FnOk P w K mg base (L2N.CX P w) 3 T.f_check_number T.fd_check_number ["prime", "value"] (sp_checknum K T.C_NotInField) := by
  have G_is_number := ok_number (P := P) (w := w) (base := base) T
  refine Vb.okN T.d_check_number.F sc_check_number (fun vs H Q E h => ?_) (fun cdv A outer s H vs Q E hr h => ?_)
  · obtain ⟨a, b, c, rfl, _⟩ := h
    rfl
  · obtain ⟨p, v, d, rfl, hd, q1, q2⟩ := h
    refine ⟨_, (pss_one (ps_if (pt_not (pt_val (pe_callS G_is_number (hr.mono (by first | decide | omega)) (by rfl) T.d_is_number.g T.d_is_number.F.kp T.d_is_number.b (fun σ => L2N.passAt (L2N.takes_of rfl rfl rfl rfl) σ) (pa_cons (pv 0) (pa_cons (pv 1) pa_nil))))) (pss_one (L2N.ps_raise rfl (L2N.takes_of rfl rfl rfl rfl) (L2.pmk_value T.i_NotInField (hr.mono (by decide) : Room 1 _) (by exact (pa_cons (pv 1) pa_nil)) rfl))) pss_nil)), ?_⟩
    (change (_ : L2.TS) _ ([some (.int p), some (v)] : L2.St) _); try dsimp only [L2.cxOf, L2H.cxH]
    walk_at "rd"
    cases hw : inField p d with
    | false =>
      refine use_number hd hw ?_
      walk_at "rd"
      exact ⟨_, rfl, _, rfl, fun dd n => q2 hw dd n⟩
    | true =>
      refine use_number hd hw ?_
      walk_at "rd"
      exact q1 hw
end
end K
namespace K
open PySem PySem.Spec PyProof.Rows L2
abbrev N_power_modulo : List Str := ["prime", "number", "exponent", "result"]
theorem sc_power_modulo : FnScope N_power_modulo ["prime", "number", "exponent"] (defScope s_power_modulo) := ⟨rfl, rfl, rfl, by decide +kernel, rfl, by decide +kernel, by decide +kernel⟩
section
variable {P : Program} {w : World} {K : PySem.W.Frag} {mg : Str → Option Value} {base : Heap}
theorem pow_emod (a p : Int) : ∀ k : Nat, (a % p) ^ k % p = a ^ k % p
  | 0 => by rw [Int.pow_zero, Int.pow_zero]
  | k + 1 => by rw [Int.pow_succ, Int.mul_emod, pow_emod a p k, Int.emod_emod, ← Int.mul_emod, ← Int.pow_succ]
theorem pow_two_mul (a : Int) : ∀ k : Nat, (a * a) ^ k = a ^ (2 * k)
  | 0 => by rw [Int.pow_zero, Nat.mul_zero, Int.pow_zero]
  | k + 1 => by rw [Int.pow_succ, pow_two_mul a k, show 2 * (k + 1) = 2 * k + 1 + 1 by omega, Int.pow_succ, Int.pow_succ, Int.mul_assoc]
theorem mod_mul {r a b p : Int} (h : a % p = b % p) : (r * a) % p = (r * b) % p := by rw [Int.mul_emod, h, ← Int.mul_emod]
theorem mod_mul_left {r s a p : Int} (h : r % p = s % p) : (r * a) % p = (s * a) % p := by rw [Int.mul_emod, h, ← Int.mul_emod]
/-- a turn of the powers: the exponent is halved -/
theorem pow_half (r N p : Int) (k : Nat) : (r * (N * N % p) ^ k) % p = (r * N ^ (2 * k)) % p := by
  rw [← pow_two_mul]
  exact mod_mul (pow_emod _ _ _)
def sp_powmod (K : PySem.W.Frag) : Sp := fun vs H Q _ => ∃ (p n : Int) (e : Nat), vs = [.int p, .int n, .int e] ∧ (2 ≤ p ∧ p ≤ 101) ∧ (0 ≤ n ∧ n < p) ∧ Q (.int (n ^ e % p)) H
theorem use_powmod {p n z : Int} {H : Hp} {Q : VK} {E : XK} (h : 2 ≤ p ∧ p ≤ 101) (hn : 0 ≤ n ∧ n < p) (hz : 0 ≤ z) (q : Q (.int (n ^ z.toNat % p)) H) : sp_powmod K [.int p, .int n, .int z] H Q E := ⟨p, n, z.toNat, by rw [Int.toNat_of_nonneg hz], h, hn, q⟩
theorem ok_powmod (T : Txt K mg) : FnOk P w K mg base (L2N.CX P w) 1 T.f_power_modulo T.fd_power_modulo ["prime", "number", "exponent"] (sp_powmod K) := by
  refine Vb.okN T.d_power_modulo.F sc_power_modulo (fun vs H Q E h => ?_) (fun cdv A outer s H vs Q E hr h => ?_)
  · obtain ⟨a, b, c, rfl, _⟩ := h
    rfl
  · obtain ⟨p, n, e, rfl, ⟨hp, hp2⟩, ⟨hn, hn2⟩, q⟩ := h
    refine ⟨_, (pss_cons (ps_set (i := 3) sc_power_modulo.nd rfl (by first | exact Or.inl rfl | exact Or.inr rfl) pe_int)
      (pss_cons (ps_while (L2.passes_of rfl) (pt_cmpR op_gt (pv 2) pe_int (nomark _)) (pss_cons (ps_if (pt_cmpR op_eq (pe_op op_mod (pv 2) pe_int) pe_int (nomark _)) (pss_one (ps_set (i := 3) sc_power_modulo.nd rfl (by first | exact Or.inl rfl | exact Or.inr rfl) (pe_op op_mod (pe_op op_mul (pv 3) (pv 1)) (pv 0)))) pss_nil)
      (pss_cons (ps_set (i := 1) sc_power_modulo.nd rfl (by first | exact Or.inl rfl | exact Or.inr rfl) (pe_op op_mod (pe_op op_mul (pv 1) (pv 1)) (pv 0)))
      (pss_one (ps_set (i := 2) sc_power_modulo.nd rfl (by first | exact Or.inl rfl | exact Or.inr rfl) (pe_op op_fdiv (pv 2) pe_int))))))
      (pss_one (ps_ret (pv 3))))), ?_⟩
    (change (_ : L2.TS) _ ([some (.int p), some (.int n), some (.int e), none] : L2.St) _); try dsimp only [L2.cxOf, L2H.cxH]
    walk_at "rd"
    refine Vb.r_while (fun m σ H' => H' = H ∧ ∃ (r N : Int), σ = [some (.int p), some (.int N), some (.int (m : Nat)), some (.int r)] ∧ (0 ≤ r ∧ r < p) ∧ (0 ≤ N ∧ N < p) ∧ (r * N ^ m) % p = n ^ e % p) e ⟨rfl, 1, n, rfl, ⟨by omega, by omega⟩, ⟨hn, hn2⟩, by rw [Int.one_mul]⟩ ?_
    rintro m σ H' ⟨rfl, r, N, rfl, ⟨h0, h1⟩, ⟨h2, h3⟩, hm⟩
    have hmul : ∀ {a b : Int}, 0 ≤ a → a < p → 0 ≤ b → b < p → 0 ≤ a * b ∧ a * b ≤ 101 * 101 := fun x1 x2 x3 x4 => ⟨Int.mul_nonneg x1 x3, Int.mul_le_mul (by omega) (by omega) x3 (by omega)⟩
    have hmod : ∀ z : Int, 0 ≤ z % p ∧ z % p < p := fun z => ⟨Int.emod_nonneg _ (by omega), Int.emod_lt_of_pos _ (by omega)⟩
    walk_at "rd"
    refine Vb.r_ite (fun c1 => ?_) (fun c1 => ?_)
    · refine Vb.wh_body ?_
      walk_at "rd"
      have hdiv : (m : Int) / 2 = ((m / 2 : Nat) : Int) := by omega
      refine Vb.r_ite (fun c2 => ?_) (fun c2 => ?_)
      · walk_at "rd"
        refine ⟨m / 2, by omega, rfl, _, _, by rw [hdiv]; rfl, hmod _, hmod _, ?_⟩
        rw [pow_half, mod_mul_left (Int.emod_emod _ _), ← hm, Int.mul_assoc, Int.mul_comm N, ← Int.pow_succ, show (2 * (m / 2)).succ = m by omega]
      · walk_at "rd"
        refine ⟨m / 2, by omega, rfl, _, _, by rw [hdiv]; rfl, ⟨h0, h1⟩, hmod _, ?_⟩
        rw [pow_half, ← hm, show 2 * (m / 2) = m by omega]
    · walk_at "rd"
      have e0 : m = 0 := by omega
      subst e0
      rw [← hm, Int.pow_zero, Int.mul_one, Int.emod_eq_of_lt h0 h1] at q
      exact q
end
end K
namespace K
open PySem PySem.Spec PyProof.Rows L2
abbrev N__law_small_prime : List Str := ["store"]
theorem sc__law_small_prime : FnScope N__law_small_prime ["store"] (defScope s__law_small_prime) := ⟨rfl, rfl, rfl, by decide +kernel, rfl, by decide +kernel, by decide +kernel⟩
section
variable {P : Program} {w : World} {K : PySem.W.Frag} {mg : Str → Option Value} {base : Heap}
theorem small_prm : ∀ z : Int, z = 2 ∨ z = 3 ∨ z = 5 ∨ z = 7 → Vb.Prm z := fun z h => by
  rcases h with rfl | rfl | rfl | rfl <;> exact (Vb.isP_iff _).mp (by decide +kernel)
def sp_smallprime (K : PySem.W.Frag) : Sp := fun vs H Q _ => ∃ (st : Addr), vs = [.ref st] ∧ Vb.StoreAt H st ∧ ∀ (p : Int) (H' : Hp), Vb.Prm p → p ≤ 7 → Vb.Fr st H H' → Vb.StoreAt H' st → Q (.int p) H'
theorem use_smallprime {st : Addr} {H : Hp} {Q : VK} {E : XK} (h1 : Vb.StoreAt H st) (h : ∀ (p : Int) (H' : Hp), Vb.Prm p → p ≤ 7 → Vb.Fr st H H' → Vb.StoreAt H' st → Q (.int p) H') : sp_smallprime K [.ref st] H Q E := ⟨st, rfl, h1, h⟩
theorem ok_smallprime (T : Txt K mg) : FnOk P w K mg base (L2N.CX P w) 3 T.f__law_small_prime T.fd__law_small_prime ["store"] (sp_smallprime K) := by
  have G__law_take := ok_take (P := P) (w := w) (base := base) T
  refine Vb.okN T.d__law_small_prime.F sc__law_small_prime (fun vs H Q E h => ?_) (fun cdv A outer s H vs Q E hr h => ?_)
  · obtain ⟨a, rfl, _⟩ := h
    rfl
  · obtain ⟨st, rfl, hS, q⟩ := h
    refine ⟨_, (pss_one (ps_ret (pe_ix ix_list (pe_lst (pa_cons pe_int (pa_cons pe_int (pa_cons pe_int (pa_cons pe_int (pa_cons pe_int (pa_cons pe_int (pa_cons pe_int (pa_cons pe_int (pa_cons pe_int pa_nil)))))))))) (pe_callS G__law_take (hr.mono (by first | decide | omega)) (by rfl) T.d__law_take.g T.d__law_take.F.kp T.d__law_take.b (fun σ => L2N.passAt (L2N.takes_of rfl rfl rfl rfl) σ) (pa_cons (pv 0) (pa_cons pe_int pa_nil))) (fun _ _ => rfl)))), ?_⟩
    (change (_ : L2.TS) _ ([some (.ref st)] : L2.St) _); try dsimp only [L2.cxOf, L2H.cxH]
    walk_at "rd"
    refine ⟨Vb.size_ok (by show 9 ≤ 16777216; decide), fun l nl => ?_⟩
    walk_at "rd"
    have e := Vb.same_new (o := .lst [.int 2, .int 3, .int 2, .int 3, .int 5, .int 2, .int 3, .int 5, .int 7]) nl
    refine use_take (hS.same e) (by decide) fun t H1 a1 a2 _ f1 S1 => ?_
    have a3 := a2 (by decide)
    have hv : ∃ z : Int, (z = 2 ∨ z = 3 ∨ z = 5 ∨ z = 7) ∧ ([.int 2, .int 3, .int 2, .int 3, .int 5, .int 2, .int 3, .int 5, .int 7] : List V)[t.toNat]? = some (.int z) := by
      have : t.toNat = 0 ∨ t.toNat = 1 ∨ t.toNat = 2 ∨ t.toNat = 3 ∨ t.toNat = 4 ∨ t.toNat = 5 ∨ t.toNat = 6 ∨ t.toNat = 7 ∨ t.toNat = 8 := by omega
      rcases this with h | h | h | h | h | h | h | h | h <;> rw [h] <;> exact ⟨_, by omega, rfl⟩
    obtain ⟨z, hz, hg⟩ := hv
    refine Vb.r_ixL (Vb.sq_of (f1.k _ _ (hS.ne nl) upd_same)) (Vb.at_lit t.toNat (by omega) hg) ?_
    exact q _ _ (small_prm z hz) (by omega) ((Vb.Fr.of e).trans f1) S1
end
end K
namespace K
open PySem PySem.Spec PyProof.Rows L2
section
/-- a whole number from least to most -/
def inRange (lo hi : Int) : PyData → Bool | .int n => decide (lo ≤ n) && decide (n ≤ hi) | _ => false
theorem inRange_int {lo hi n : Int} : inRange lo hi (.int n) = true ↔ lo ≤ n ∧ n ≤ hi := by
  show (decide (lo ≤ n) && decide (n ≤ hi)) = true ↔ _
  rw [Bool.and_eq_true, decide_eq_true_iff, decide_eq_true_iff]
theorem inRange_of {lo hi : Int} {d : PyData} (h : inRange lo hi d = true) : ∃ n, d = .int n ∧ lo ≤ n ∧ n ≤ hi := by
  cases d <;> first | (cases h; done) | exact ⟨_, rfl, inRange_int.mp h⟩
end
end K
namespace K
open PySem PySem.Spec PyProof.Rows L2
abbrev N__law_bad_integer : List Str := ["store", "low", "high", "way"]
theorem sc__law_bad_integer : FnScope N__law_bad_integer ["store", "low", "high"] (defScope s__law_bad_integer) := ⟨rfl, rfl, rfl, by decide +kernel, rfl, by decide +kernel, by decide +kernel⟩
section
variable {P : Program} {w : World} {K : PySem.W.Frag} {mg : Str → Option Value} {base : Heap}
theorem odd_range {lo hi : Int} : ∀ d ∈ oddKinds, inRange lo hi d = false ∧ Vb.DOk 4 d := by
  intro d m
  refine ⟨?_, (odd_bad d m).2.2⟩
  have := (odd_bad d m).2.1
  cases d <;> first | rfl | cases this
theorem inRange_no {lo hi n : Int} (h : n < lo ∨ hi < n) : inRange lo hi (.int n) = false := by
  cases e : inRange lo hi (.int n) with
  | false => rfl
  | true => have := inRange_int.mp e; omega
theorem trk_fr {Z : List Addr} {st : Addr} {H H' : Hp} (t : Vb.Trk Z H) (f : Vb.Fr st H H') (S : Vb.StoreAt H' st) : Vb.Trk Z H' := fun z m => by
  obtain ⟨o, h⟩ := t z m
  by_cases e : z = st
  · obtain ⟨l, ns, a, b, c, d, n, h1, _⟩ := S
    exact ⟨_, by rw [e]; exact h1⟩
  · exact ⟨o, f.k _ _ e h⟩
def sp_badinteger (K : PySem.W.Frag) : Sp := fun vs H Q _ => ∃ (st : Addr) (lo hi : Int), vs = [.ref st, .int lo, .int hi] ∧ Vb.StoreAt H st ∧ lo ≤ hi ∧ ∀ (v : V) (d : PyData) (H' : Hp), inRange lo hi d = false → Vb.DOk 4 d → Vb.Fr st H H' → Vb.StoreAt H' st → (∀ Z, Vb.Trk Z H → Dp K (Vb.offs (st :: Z) H') v d) → Q v H'
theorem use_badinteger {st : Addr} {lo hi : Int} {H : Hp} {Q : VK} {E : XK} (h1 : Vb.StoreAt H st) (h2 : lo ≤ hi) (h : ∀ (v : V) (d : PyData) (H' : Hp), inRange lo hi d = false → Vb.DOk 4 d → Vb.Fr st H H' → Vb.StoreAt H' st → (∀ Z, Vb.Trk Z H → Dp K (Vb.offs (st :: Z) H') v d) → Q v H') : sp_badinteger K [.ref st, .int lo, .int hi] H Q E := ⟨st, lo, hi, rfl, h1, h2, h⟩
theorem ok_badinteger (T : Txt K mg) : FnOk P w K mg base (L2N.CX P w) 5 T.f__law_bad_integer T.fd__law_bad_integer ["store", "low", "high"] (sp_badinteger K) := by
  have G__law_take := ok_take (P := P) (w := w) (base := base) T
  have G__law_pick := ok_pick (P := P) (w := w) (base := base) T
  have G__law_other_kind := ok_kind (P := P) (w := w) (base := base) T
  refine Vb.okN T.d__law_bad_integer.F sc__law_bad_integer (fun vs H Q E h => ?_) (fun cdv A outer s H vs Q E hr h => ?_)
  · obtain ⟨a, b, c, rfl, _⟩ := h
    rfl
  · obtain ⟨st, lo, hi, rfl, hS, hb, q⟩ := h
    refine ⟨_, (pss_cons (ps_set (i := 3) sc__law_bad_integer.nd rfl (by first | exact Or.inl rfl | exact Or.inr rfl) (pe_callS G__law_take (hr.mono (by first | decide | omega)) (by rfl) T.d__law_take.g T.d__law_take.F.kp T.d__law_take.b (fun σ => L2N.passAt (L2N.takes_of rfl rfl rfl rfl) σ) (pa_cons (pv 0) (pa_cons pe_int pa_nil))))
      (pss_cons (ps_if (pt_cmpR op_eq (pv 3) pe_int (nomark _)) (pss_one (ps_ret (pe_op op_sub (pv 1) pe_int))) pss_nil)
      (pss_cons (ps_if (pt_cmpR op_eq (pv 3) pe_int (nomark _)) (pss_one (ps_ret (pe_op op_add (pv 2) pe_int))) pss_nil)
      (pss_cons (ps_if (pt_cmpR op_eq (pv 3) pe_int (nomark _)) (pss_one (ps_ret (pe_op op_sub (pe_op op_sub (pv 1) pe_int) (pe_callS G__law_take (hr.mono (by first | decide | omega)) (by rfl) T.d__law_take.g T.d__law_take.F.kp T.d__law_take.b (fun σ => L2N.passAt (L2N.takes_of rfl rfl rfl rfl) σ) (pa_cons (pv 0) (pa_cons pe_int pa_nil)))))) pss_nil)
      (pss_cons (ps_if (pt_cmpR op_eq (pv 3) pe_int (nomark _)) (pss_one (ps_ret (pe_op op_add (pe_op op_add (pv 2) pe_int) (pe_callS G__law_take (hr.mono (by first | decide | omega)) (by rfl) T.d__law_take.g T.d__law_take.F.kp T.d__law_take.b (fun σ => L2N.passAt (L2N.takes_of rfl rfl rfl rfl) σ) (pa_cons (pv 0) (pa_cons pe_int pa_nil)))))) pss_nil)
      (pss_cons (ps_if (pt_cmpR op_eq (pv 3) pe_int (nomark _)) (pss_one (ps_ret (pe_callS G__law_pick (hr.mono (by first | decide | omega)) (by rfl) T.d__law_pick.g T.d__law_pick.F.kp T.d__law_pick.b (fun σ => L2N.passAt (L2N.takes_of rfl rfl rfl rfl) σ) (pa_cons (pv 0) (pa_cons (pe_lst (pa_cons (pe_op op_add (pv 2) (pe_op Vb.op_powB pe_int pe_int)) (pa_cons (pe_op op_sub (pv 1) (pe_op Vb.op_powB pe_int pe_int)) pa_nil))) pa_nil))))) pss_nil)
      (pss_one (ps_ret (pe_callS G__law_other_kind (hr.mono (by first | decide | omega)) (by rfl) T.d__law_other_kind.g T.d__law_other_kind.F.kp T.d__law_other_kind.b (fun σ => L2N.passAt (L2N.takes_of rfl rfl rfl rfl) σ) (pa_cons (pv 0) pa_nil)))))))))), ?_⟩
    (change (_ : L2.TS) _ ([some (.ref st), some (.int lo), some (.int hi), none] : L2.St) _); try dsimp only [L2.cxOf, L2H.cxH]
    have qi : ∀ (n : Int) (H' : Hp), (n < lo ∨ hi < n) → Vb.Fr st H H' → Vb.StoreAt H' st → Q (.int n) H' := fun n H' h f S => q _ (.int n) _ (inRange_no h) trivial f S fun Z _ => .int n
    walk_at "rd"
    refine use_take hS (by decide) fun way H1 a1 a2 _ f1 S1 => ?_
    walk_at "rd"
    refine Vb.r_ite (fun c => ?_) (fun c => ?_)
    · walk_at "rd"
      exact qi _ _ (by omega) f1 S1
    walk_at "rd"
    refine Vb.r_ite (fun c => ?_) (fun c => ?_)
    · walk_at "rd"
      exact qi _ _ (by omega) f1 S1
    walk_at "rd"
    refine Vb.r_ite (fun c => ?_) (fun c => ?_)
    · walk_at "rd"
      refine use_take S1 (by decide) fun t H2 b1 _ _ f2 S2 => ?_
      walk_at "rd"
      exact qi _ _ (by omega) (f1.trans f2) S2
    walk_at "rd"
    refine Vb.r_ite (fun c => ?_) (fun c => ?_)
    · walk_at "rd"
      refine use_take S1 (by decide) fun t H2 b1 _ _ f2 S2 => ?_
      walk_at "rd"
      exact qi _ _ (by omega) (f1.trans f2) S2
    walk_at "rd"
    refine Vb.r_ite (fun c => ?_) (fun c => ?_)
    · walk_at "rd"
      refine ⟨Vb.size_ok (by show 2 ≤ 16777216; decide), fun l nl => ?_⟩
      walk_at "rd"
      have e := Vb.same_new (o := .lst [.int (hi + 10 ^ 40), .int (lo - 10 ^ 40)]) nl
      refine use_pick [.int (hi + 10 ^ 40), .int (lo - 10 ^ 40)] (S1.same e) (S1.ne nl) (Vb.sq_of upd_same) (by show 2 < 1000000; decide) (by simp) fun i x H2 h2 f2 S2 => ?_
      have m := List.mem_of_getElem? h2
      simp only [List.mem_cons, List.not_mem_nil, or_false] at m
      rcases m with rfl | rfl <;> exact qi _ _ (by omega) ((f1.trans (Vb.Fr.of e)).trans f2) S2
    walk_at "rd"
    refine use_kind S1 fun v d H2 m f2 S2 g => ?_
    obtain ⟨o1, o2⟩ := odd_range (lo := lo) (hi := hi) d m
    exact q _ _ _ o1 o2 (f1.trans f2) S2 fun Z t => g Z (trk_fr t f1 S1)
end
end K
namespace K
open PySem PySem.Spec PyProof.Rows L2
abbrev N__law_bad_prime : List Str := ["store", "way"]
theorem sc__law_bad_prime : FnScope N__law_bad_prime ["store"] (defScope s__law_bad_prime) := ⟨rfl, rfl, rfl, by decide +kernel, rfl, by decide +kernel, by decide +kernel⟩
section
variable {P : Program} {w : World} {K : PySem.W.Frag} {mg : Str → Option Value} {base : Heap}
/-- no prime of a field -/
def sp_badprime (K : PySem.W.Frag) : Sp := fun vs H Q _ => ∃ (st : Addr), vs = [.ref st] ∧ Vb.StoreAt H st ∧ ∀ (v : V) (d : PyData) (H' : Hp), field d = false → Vb.DOk 4 d → Vb.Fr st H H' → Vb.StoreAt H' st → Dp K (Vb.offs [st] H') v d → Q v H'
theorem field_no {n : Int} (h : 101 < n ∨ ¬ Vb.Prm n) : field (.int n) = false := by
  show (decide (n ≤ 101) && Vb.isP n) = false
  rcases h with h | h
  · rw [decide_eq_false (by omega)]
    rfl
  · cases e : Vb.isP n with
    | false => rw [Bool.and_false]
    | true => exact absurd ((Vb.isP_iff n).mp e) h
theorem prod_no {a b : Int} (h1 : 2 ≤ a) (h2 : 2 ≤ b) : ¬ Vb.Prm (a * b) := by
  have h3 : a * 2 ≤ a * b := Int.mul_le_mul_of_nonneg_left h2 (by omega)
  exact Vb.not_prm h1 (by omega) (Int.mul_emod_right ..)
theorem ok_badprime (T : Txt K mg) : FnOk P w K mg base (L2N.CX P w) 5 T.f__law_bad_prime T.fd__law_bad_prime ["store"] (sp_badprime K) := by
  have G__law_take := ok_take (P := P) (w := w) (base := base) T
  have G__law_prime := ok_prime (P := P) (w := w) (base := base) T
  have G__law_other_kind := ok_kind (P := P) (w := w) (base := base) T
  refine Vb.okN T.d__law_bad_prime.F sc__law_bad_prime (fun vs H Q E h => ?_) (fun cdv A outer s H vs Q E hr h => ?_)
  · obtain ⟨a, rfl, _⟩ := h
    rfl
  · obtain ⟨st, rfl, hS, q⟩ := h
    refine ⟨_, (pss_cons (ps_set (i := 1) sc__law_bad_prime.nd rfl (by first | exact Or.inl rfl | exact Or.inr rfl) (pe_callS G__law_take (hr.mono (by first | decide | omega)) (by rfl) T.d__law_take.g T.d__law_take.F.kp T.d__law_take.b (fun σ => L2N.passAt (L2N.takes_of rfl rfl rfl rfl) σ) (pa_cons (pv 0) (pa_cons pe_int pa_nil))))
      (pss_cons (ps_if (pt_cmpR op_eq (pv 1) pe_int (nomark _)) (pss_one (ps_ret (pe_op op_mul (pe_op op_add pe_int (pe_callS G__law_take (hr.mono (by first | decide | omega)) (by rfl) T.d__law_take.g T.d__law_take.F.kp T.d__law_take.b (fun σ => L2N.passAt (L2N.takes_of rfl rfl rfl rfl) σ) (pa_cons (pv 0) (pa_cons pe_int pa_nil)))) (pe_op op_add pe_int (pe_callS G__law_take (hr.mono (by first | decide | omega)) (by rfl) T.d__law_take.g T.d__law_take.F.kp T.d__law_take.b (fun σ => L2N.passAt (L2N.takes_of rfl rfl rfl rfl) σ) (pa_cons (pv 0) (pa_cons pe_int pa_nil))))))) pss_nil)
      (pss_cons (ps_if (pt_cmpR op_eq (pv 1) pe_int (nomark _)) (pss_one (ps_ret (pe_callS G__law_take (hr.mono (by first | decide | omega)) (by rfl) T.d__law_take.g T.d__law_take.F.kp T.d__law_take.b (fun σ => L2N.passAt (L2N.takes_of rfl rfl rfl rfl) σ) (pa_cons (pv 0) (pa_cons pe_int pa_nil))))) pss_nil)
      (pss_cons (ps_if (pt_cmpR op_eq (pv 1) pe_int (nomark _)) (pss_one (ps_ret (pe_un un_neg (pe_callS G__law_prime (hr.mono (by first | decide | omega)) (by rfl) T.d__law_prime.g T.d__law_prime.F.kp T.d__law_prime.b (fun σ => L2N.passAt (L2N.takes_of rfl rfl rfl rfl) σ) (pa_cons (pv 0) pa_nil))))) pss_nil)
      (pss_cons (ps_if (pt_cmpR op_eq (pv 1) pe_int (nomark _)) (pss_one (ps_ret (pe_op op_add pe_int (pe_callS G__law_take (hr.mono (by first | decide | omega)) (by rfl) T.d__law_take.g T.d__law_take.F.kp T.d__law_take.b (fun σ => L2N.passAt (L2N.takes_of rfl rfl rfl rfl) σ) (pa_cons (pv 0) (pa_cons pe_int pa_nil)))))) pss_nil)
      (pss_cons (ps_if (pt_cmpR op_eq (pv 1) pe_int (nomark _)) (pss_one (ps_ret (pe_op op_add (pe_op Vb.op_powB pe_int pe_int) (pe_callS G__law_take (hr.mono (by first | decide | omega)) (by rfl) T.d__law_take.g T.d__law_take.F.kp T.d__law_take.b (fun σ => L2N.passAt (L2N.takes_of rfl rfl rfl rfl) σ) (pa_cons (pv 0) (pa_cons pe_int pa_nil)))))) pss_nil)
      (pss_cons (ps_if (pt_cmpR op_eq (pv 1) pe_int (nomark _)) (pss_one (ps_ret (pe_op op_sub (pe_un un_neg pe_int) (pe_op op_mul (pe_callS G__law_take (hr.mono (by first | decide | omega)) (by rfl) T.d__law_take.g T.d__law_take.F.kp T.d__law_take.b (fun σ => L2N.passAt (L2N.takes_of rfl rfl rfl rfl) σ) (pa_cons (pv 0) (pa_cons pe_int pa_nil))) (pe_op Vb.op_powB pe_int pe_int))))) pss_nil)
      (pss_cons (ps_if (pt_cmpR op_eq (pv 1) pe_int (nomark _)) (pss_one (ps_ret (pe_op op_mul (pe_callS G__law_prime (hr.mono (by first | decide | omega)) (by rfl) T.d__law_prime.g T.d__law_prime.F.kp T.d__law_prime.b (fun σ => L2N.passAt (L2N.takes_of rfl rfl rfl rfl) σ) (pa_cons (pv 0) pa_nil)) (pe_callS G__law_prime (hr.mono (by first | decide | omega)) (by rfl) T.d__law_prime.g T.d__law_prime.F.kp T.d__law_prime.b (fun σ => L2N.passAt (L2N.takes_of rfl rfl rfl rfl) σ) (pa_cons (pv 0) pa_nil))))) pss_nil)
      (pss_one (ps_ret (pe_callS G__law_other_kind (hr.mono (by first | decide | omega)) (by rfl) T.d__law_other_kind.g T.d__law_other_kind.F.kp T.d__law_other_kind.b (fun σ => L2N.passAt (L2N.takes_of rfl rfl rfl rfl) σ) (pa_cons (pv 0) pa_nil)))))))))))), ?_⟩
    (change (_ : L2.TS) _ ([some (.ref st), none] : L2.St) _); try dsimp only [L2.cxOf, L2H.cxH]
    have qi : ∀ (n : Int) (H' : Hp), (101 < n ∨ ¬ Vb.Prm n) → Vb.Fr st H H' → Vb.StoreAt H' st → Q (.int n) H' := fun n H' h f S => q _ (.int n) _ (field_no h) trivial f S (.int n)
    walk_at "rd"
    refine use_take hS (by decide) fun way H1 _ _ _ f1 S1 => ?_
    walk_at "rd"
    refine Vb.r_ite (fun c => ?_) (fun c => ?_)
    · walk_at "rd"
      refine use_take S1 (by decide) fun a H2 a1 a2 _ f2 S2 => ?_
      walk_at "rd"
      refine use_take S2 (by decide) fun b H3 b1 b2 _ f3 S3 => ?_
      walk_at "rd"
      exact qi _ _ (.inr (prod_no (by omega) (by omega))) ((f1.trans f2).trans f3) S3
    walk_at "rd"
    refine Vb.r_ite (fun c => ?_) (fun c => ?_)
    · walk_at "rd"
      refine use_take S1 (by decide) fun a H2 a1 a2 _ f2 S2 => ?_
      exact qi _ _ (.inr fun p => by have := p.1; have := a2 (by decide); omega) (f1.trans f2) S2
    walk_at "rd"
    refine Vb.r_ite (fun c => ?_) (fun c => ?_)
    · walk_at "rd"
      refine use_prime S1 fun a H2 a1 a2 f2 S2 => ?_
      walk_at "rd"
      exact qi _ _ (.inr fun p => by have := p.1; have := a1.1; omega) (f1.trans f2) S2
    walk_at "rd"
    refine Vb.r_ite (fun c => ?_) (fun c => ?_)
    · walk_at "rd"
      refine use_take S1 (by decide) fun a H2 a1 a2 _ f2 S2 => ?_
      walk_at "rd"
      exact qi _ _ (.inl (by omega)) (f1.trans f2) S2
    walk_at "rd"
    refine Vb.r_ite (fun c => ?_) (fun c => ?_)
    · walk_at "rd"
      refine use_take S1 (by decide) fun a H2 a1 a2 _ f2 S2 => ?_
      walk_at "rd"
      exact qi _ _ (.inl (Int.lt_of_lt_of_le (show (101 : Int) < 10 ^ Int.toNat 40 by decide +kernel) (by omega))) (f1.trans f2) S2
    walk_at "rd"
    refine Vb.r_ite (fun c => ?_) (fun c => ?_)
    · walk_at "rd"
      refine use_take S1 (by decide) fun a H2 a1 a2 _ f2 S2 => ?_
      walk_at "rd"
      exact qi _ _ (.inr fun p => by have := p.1; have := Int.mul_nonneg a1 (show (0 : Int) ≤ 10 ^ Int.toNat 40 by decide +kernel); omega) (f1.trans f2) S2
    walk_at "rd"
    refine Vb.r_ite (fun c => ?_) (fun c => ?_)
    · walk_at "rd"
      refine use_prime S1 fun a H2 a1 _ f2 S2 => ?_
      walk_at "rd"
      refine use_prime S2 fun b H3 b1 _ f3 S3 => ?_
      have := a1.1
      walk_at "rd"
      exact qi _ _ (.inr (prod_no a1.1 b1.1)) ((f1.trans f2).trans f3) S3
    walk_at "rd"
    refine ⟨st, rfl, S1, fun v d H2 m f2 S2 g => ?_⟩
    obtain ⟨m1, m2, m3⟩ := odd_bad d m
    exact q _ _ _ m1 m3 (f1.trans f2) S2 (g [] Vb.Trk.nil)
end
end K
namespace K
open PySem PySem.Spec PyProof.Rows L2
section
/-! coefficients, told by their places -/
def co (xs : List Int) (k : Nat) : Int := xs.getD k 0
def trim : List Int → List Int
  | [] => []
  | x :: xs => match trim xs with
    | [] => if x = 0 then [] else [x]
    | y :: ys => x :: y :: ys
theorem co_nil (k : Nat) : co [] k = 0 := by unfold co; simp
theorem co_zero (x : Int) (xs : List Int) : co (x :: xs) 0 = x := rfl
theorem co_succ (x : Int) (xs : List Int) (k : Nat) : co (x :: xs) (k + 1) = co xs k := rfl
theorem co_out {xs : List Int} {k : Nat} (h : xs.length ≤ k) : co xs k = 0 := by
  unfold co
  rw [List.getD_eq_getElem?_getD, List.getElem?_eq_none h]
  rfl
theorem co_in {xs : List Int} {k : Nat} (h : k < xs.length) : xs[k]? = some (co xs k) := by
  unfold co
  rw [List.getD_eq_getElem?_getD, List.getElem?_eq_getElem h]
  rfl
theorem co_trim : ∀ (xs : List Int) (k : Nat), co (trim xs) k = co xs k
  | [], k => rfl
  | x :: xs, k => by
    have ih := co_trim xs
    unfold trim
    cases e : trim xs with
    | nil =>
      rw [e] at ih
      show co (if x = 0 then [] else [x]) k = _
      cases k with
      | zero =>
        split
        · rename_i h; rw [h]; rfl
        · rfl
      | succ k =>
        rw [co_succ, ← ih k]
        split
        · rw [co_nil, co_nil]
        · rw [co_succ]
    | cons y ys =>
      rw [e] at ih
      show co (x :: y :: ys) k = _
      cases k with
      | zero => rfl
      | succ k => rw [co_succ, co_succ, ih]
theorem trim_nil_of : ∀ (xs : List Int), (∀ k, co xs k = 0) → trim xs = []
  | [], _ => rfl
  | x :: xs, h => by
    have e := trim_nil_of xs fun k => h (k + 1)
    have z : x = 0 := h 0
    unfold trim
    rw [e, z]
    rfl
theorem trim_ext : ∀ (xs ys : List Int), (∀ k, co xs k = co ys k) → trim xs = trim ys
  | [], ys, h => (trim_nil_of ys fun k => by rw [← h k, co_nil]).symm
  | x :: xs, [], h => trim_nil_of _ fun k => by rw [h k, co_nil]
  | x :: xs, y :: ys, h => by
    have e := trim_ext xs ys fun k => h (k + 1)
    have z : x = y := h 0
    unfold trim
    rw [e, z]
theorem trim_trim (xs : List Int) : trim (trim xs) = trim xs := trim_ext _ _ (co_trim xs)
theorem trim_len : ∀ (xs : List Int), (trim xs).length ≤ xs.length
  | [] => Nat.le_refl _
  | x :: xs => by
    have ih := trim_len xs
    unfold trim
    cases e : trim xs with
    | nil =>
      show (if x = 0 then [] else [x]).length ≤ _
      split
      · exact Nat.zero_le _
      · exact Nat.succ_le_succ (Nat.zero_le _)
    | cons y ys =>
      rw [e] at ih
      exact Nat.succ_le_succ ih
theorem trim_mem {xs : List Int} {c : Int} (h : c ∈ trim xs) : c ∈ xs := by
  obtain ⟨k, hk⟩ := List.getElem?_of_mem h
  have h1 := (List.getElem?_eq_some_iff.mp hk).1
  have h2 : k < xs.length := Nat.lt_of_lt_of_le h1 (trim_len xs)
  have e1 := co_in h1
  rw [hk, co_trim] at e1
  have e2 := co_in h2
  rw [← e1] at e2
  exact List.mem_of_getElem? e2
/-- a list without its last item, which is 0 -/
theorem trim_snoc (xs : List Int) : trim (xs ++ [0]) = trim xs := trim_ext _ _ fun k => by
  by_cases h : k < xs.length
  · unfold co
    rw [List.getD_eq_getElem?_getD, List.getD_eq_getElem?_getD, List.getElem?_append_left h]
  · rw [co_out (xs := xs) (by omega)]
    unfold co
    rw [List.getD_eq_getElem?_getD, List.getElem?_append_right (by omega)]
    cases k - xs.length with
    | zero => rfl
    | succ j => rfl
/-- the last item is not 0: nothing is taken off -/
theorem trim_full (xs : List Int) (x : Int) (h : x ≠ 0) : trim (xs ++ [x]) = xs ++ [x] := by
  induction xs with
  | nil =>
    show (if x = 0 then [] else [x]) = [x]
    rw [if_neg h]
  | cons y ys ih =>
    show trim (y :: (ys ++ [x])) = y :: (ys ++ [x])
    unfold trim
    rw [ih]
    cases ys <;> rfl
/-- sums over the numbers below n -/
def su : Nat → (Nat → Int) → Int
  | 0, _ => 0
  | n + 1, f => su n f + f n
theorem su_congr {n : Nat} {f g : Nat → Int} (h : ∀ i, i < n → f i = g i) : su n f = su n g := by
  induction n with
  | zero => rfl
  | succ n ih =>
    show su n f + f n = su n g + g n
    rw [ih fun i hi => h i (by omega), h n (by omega)]
theorem su_zero (n : Nat) : su n (fun _ => 0) = 0 := by
  induction n with
  | zero => rfl
  | succ n ih => show su n _ + 0 = 0; rw [ih]; rfl
theorem su_add (n : Nat) (f g : Nat → Int) : su n (fun i => f i + g i) = su n f + su n g := by
  induction n with
  | zero => rfl
  | succ n ih => show su n _ + (f n + g n) = su n f + f n + (su n g + g n); rw [ih]; omega
theorem su_mul (n : Nat) (c : Int) (f : Nat → Int) : su n (fun i => c * f i) = c * su n f := by
  induction n with
  | zero => exact (Int.mul_zero c).symm
  | succ n ih => show su n _ + c * f n = c * (su n f + f n); rw [ih, Int.mul_add]
theorem su_swap (n m : Nat) (f : Nat → Nat → Int) : su n (fun i => su m (f i)) = su m (fun j => su n fun i => f i j) := by
  induction n with
  | zero => exact (su_zero m).symm
  | succ n ih =>
    show su n _ + su m (f n) = su m (fun j => su n (fun i => f i j) + f n j)
    rw [ih, su_add]
theorem su_more {n m : Nat} {f : Nat → Int} (h : n ≤ m) (z : ∀ i, n ≤ i → f i = 0) : su m f = su n f := by
  induction m with
  | zero => rw [show n = 0 by omega]
  | succ m ih =>
    by_cases e : n = m + 1
    · rw [e]
    · show su m f + f m = su n f
      rw [ih (by omega), z m (by omega), Int.add_zero]
/-- one place alone is not 0 -/
theorem su_one {n k : Nat} {c : Int} (h : k < n) : su n (fun i => if i = k then c else 0) = c := by
  induction n with
  | zero => omega
  | succ n ih =>
    show su n _ + (if n = k then c else 0) = c
    by_cases e : n = k
    · rw [if_pos e, su_congr (g := fun _ => 0) (fun i hi => if_neg (by omega)), su_zero, Int.zero_add]
    · rw [if_neg e, ih (by omega), Int.add_zero]
/-- the value at x -/
def ev (xs : List Int) (x : Int) : Int := su xs.length fun k => co xs k * x ^ k
theorem ev_long {xs : List Int} {n : Nat} (h : xs.length ≤ n) (x : Int) : ev xs x = su n fun k => co xs k * x ^ k := (su_more h fun i hi => by rw [co_out hi, Int.zero_mul]).symm
theorem ev_ext {xs ys : List Int} (h : ∀ k, co xs k = co ys k) (x : Int) : ev xs x = ev ys x := by
  rw [ev_long (Nat.le_max_left xs.length ys.length), ev_long (Nat.le_max_right xs.length ys.length)]
  exact su_congr fun i _ => by rw [h i]
/-- the product's coefficient at k -/
def cv (xs ys : List Int) (k : Nat) : Int := su xs.length fun i => su ys.length fun j => if i + j = k then co xs i * co ys j else 0
theorem cv_long {xs ys : List Int} {n m : Nat} (h1 : xs.length ≤ n) (h2 : ys.length ≤ m) (k : Nat) : cv xs ys k = su n fun i => su m fun j => if i + j = k then co xs i * co ys j else 0 := by
  unfold cv
  exact (su_congr fun i _ => (su_more h2 fun j hj => by rw [co_out hj, Int.mul_zero]; split <;> rfl).symm).trans (su_more (f := fun i => su m fun j => if i + j = k then co xs i * co ys j else 0) h1 (fun i hi => by rw [co_out hi]; rw [su_congr (g := fun _ => 0) (fun j _ => by rw [Int.zero_mul]; split <;> rfl), su_zero])).symm
theorem cv_ext {xs ys us vs : List Int} (h1 : ∀ k, co xs k = co us k) (h2 : ∀ k, co ys k = co vs k) (k : Nat) : cv xs ys k = cv us vs k := by
  rw [cv_long (Nat.le_max_left xs.length us.length) (Nat.le_max_left ys.length vs.length), cv_long (Nat.le_max_right xs.length us.length) (Nat.le_max_right ys.length vs.length)]
  exact su_congr fun i _ => su_congr fun j _ => by rw [h1 i, h2 j]
theorem cv_comm (xs ys : List Int) (k : Nat) : cv xs ys k = cv ys xs k := by
  unfold cv
  rw [su_swap]
  exact su_congr fun i _ => su_congr fun j _ => by rw [Nat.add_comm, Int.mul_comm]
theorem cv_out {xs ys : List Int} {k : Nat} (h : xs.length + ys.length ≤ k + 1) : cv xs ys k = 0 := by
  unfold cv
  rw [su_congr (g := fun _ => 0) (fun i hi => ?_), su_zero]
  rw [su_congr (g := fun _ => 0) (fun j hj => if_neg (by omega)), su_zero]
theorem ipow_plus (n : Int) (a : Nat) : ∀ b : Nat, n ^ (a + b) = n ^ a * n ^ b
  | 0 => by rw [Int.pow_zero, Int.mul_one, Nat.add_zero]
  | b + 1 => by rw [← Nat.add_assoc, Int.pow_succ, ipow_plus n a b, Int.pow_succ, Int.mul_assoc]
/-- the values of the product are the products of the values -/
theorem cv_ev (xs ys : List Int) (x : Int) {n : Nat} (h : xs.length + ys.length ≤ n) : (su n fun k => cv xs ys k * x ^ k) = ev xs x * ev ys x := by
  have e1 : (su n fun k => cv xs ys k * x ^ k) = su xs.length fun i => su ys.length fun j => co xs i * co ys j * x ^ (i + j) := by
    rw [su_congr (g := fun k => su xs.length fun i => su ys.length fun j => if i + j = k then co xs i * co ys j * x ^ k else 0) (fun k _ => ?_), su_swap]
    · refine su_congr fun i hi => ?_
      rw [su_swap]
      refine su_congr fun j hj => ?_
      rw [su_congr (g := fun k => if k = i + j then co xs i * co ys j * x ^ (i + j) else 0) (fun k _ => ?_), su_one (by omega)]
      by_cases z : i + j = k
      · rw [if_pos z, if_pos z.symm, z]
      · rw [if_neg z, if_neg (Ne.symm z)]
    · unfold cv
      rw [Int.mul_comm, ← su_mul]
      refine su_congr fun i _ => ?_
      rw [← su_mul]
      refine su_congr fun j _ => ?_
      split
      · rw [Int.mul_comm]
      · rw [Int.mul_zero]
  rw [e1]
  unfold ev
  rw [Int.mul_comm, ← su_mul]
  refine su_congr fun i _ => ?_
  rw [Int.mul_comm, ← su_mul]
  refine su_congr fun j _ => ?_
  rw [ipow_plus]
  simp only [Int.mul_assoc, Int.mul_left_comm]
/-- the value at x, found from behind -/
def hn (x : Int) : List Int → Int
  | [] => 0
  | c :: cs => c + x * hn x cs
theorem su_head (n : Nat) (f : Nat → Int) : su (n + 1) f = f 0 + su n (fun i => f (i + 1)) := by
  induction n with
  | zero => show 0 + f 0 = f 0 + 0; omega
  | succ n ih =>
    show su (n + 1) f + f (n + 1) = f 0 + (su n (fun i => f (i + 1)) + f (n + 1))
    rw [ih, Int.add_assoc]
theorem hn_ev (x : Int) : ∀ cs : List Int, hn x cs = ev cs x
  | [] => rfl
  | c :: cs => by
    show c + x * hn x cs = su (cs.length + 1) _
    rw [su_head, hn_ev x cs]
    show _ = c * x ^ 0 + su cs.length (fun i => co cs i * x ^ (i + 1))
    rw [Int.pow_zero, Int.mul_one]
    unfold ev
    rw [← su_mul]
    congr 1
    refine su_congr fun i _ => ?_
    rw [Int.pow_succ, Int.mul_comm, Int.mul_assoc]
theorem su_emod (n : Nat) (f : Nat → Int) (p : Int) : su n (fun i => f i % p) % p = su n f % p := by
  induction n with
  | zero => rfl
  | succ n ih =>
    show (su n (fun i => f i % p) + f n % p) % p = (su n f + f n) % p
    rw [Int.add_emod, ih, Int.emod_emod_of_dvd _ (Int.dvd_refl p), ← Int.add_emod]
theorem mul_emod_l (a b p : Int) : a % p * b % p = a * b % p := by rw [Int.mul_emod, Int.emod_emod_of_dvd _ (Int.dvd_refl p), ← Int.mul_emod]
theorem ev_mod {xs ys : List Int} {p x : Int} (h : ∀ k, co ys k = co xs k % p) : ev ys x % p = ev xs x % p := by
  rw [ev_long (Nat.le_max_left ys.length xs.length), ev_long (Nat.le_max_right ys.length xs.length), ← su_emod, ← su_emod _ (fun k => co xs k * x ^ k)]
  congr 1
  exact su_congr fun i _ => by rw [h i, mul_emod_l]
theorem co_map_g {cs : List Int} {g : Int → Int} (h0 : g 0 = 0) (k : Nat) : co (cs.map g) k = g (co cs k) := by
  by_cases h : k < cs.length
  · have e := co_in (xs := cs.map g) (k := k) (by rw [List.length_map]; exact h)
    rw [List.getElem?_map, co_in h] at e
    exact (Option.some.inj e).symm
  · rw [co_out (by rw [List.length_map]; omega), co_out (by omega), h0]
end
end K
namespace K
open PySem PySem.Spec PyProof.Rows L2
section
theorem nozero_table : (List.range 102).all (fun p => !Vb.isP (p : Int) || (List.range p).all fun a => a == 0 || (List.range p).all fun b => b == 0 || !((a * b) % p == 0)) = true := by decide +kernel
theorem nozero {p a b : Int} (hp : Vb.Prm p) (h1 : p ≤ 101) (ha : 0 < a ∧ a < p) (hb : 0 < b ∧ b < p) : a * b % p ≠ 0 := by
  have h0 := hp.1
  have t := List.all_eq_true.mp nozero_table p.toNat (List.mem_range.mpr (by omega))
  rw [show ((p.toNat : Nat) : Int) = p by omega, (Vb.isP_iff p).mpr hp, Bool.not_true, Bool.false_or] at t
  have t2 := List.all_eq_true.mp t a.toNat (List.mem_range.mpr (by omega))
  rw [show (a.toNat == 0) = false by rw [beq_eq_false_iff_ne]; omega, Bool.false_or] at t2
  have t3 := List.all_eq_true.mp t2 b.toNat (List.mem_range.mpr (by omega))
  rw [show (b.toNat == 0) = false by rw [beq_eq_false_iff_ne]; omega, Bool.false_or] at t3
  intro z
  have e : ((a.toNat * b.toNat) % p.toNat : Nat) = 0 := by
    have : ((((a.toNat * b.toNat) % p.toNat : Nat)) : Int) = a * b % p := by
      rw [Int.natCast_emod, Int.natCast_mul, Int.toNat_of_nonneg (by omega), Int.toNat_of_nonneg (by omega), Int.toNat_of_nonneg (by omega)]
    rw [z] at this
    exact Int.ofNat_eq_zero.mp this
  rw [e] at t3
  cases t3
theorem trim_last : ∀ zs : List Int, trim zs ≠ [] → co (trim zs) ((trim zs).length - 1) ≠ 0
  | [], h => absurd rfl h
  | z :: zs, h => by
    have ih := trim_last zs
    unfold trim at h ⊢
    cases e : trim zs with
    | nil =>
      rw [e] at h
      by_cases z0 : z = 0
      · exact absurd (if_pos z0) h
      · show co (if z = 0 then [] else [z]) _ ≠ 0
        rw [if_neg z0]
        exact z0
    | cons y ys =>
      rw [e] at ih
      exact ih (by simp)
theorem trim_short {zs : List Int} {n : Nat} (h : ∀ k, n ≤ k → co zs k = 0) : (trim zs).length ≤ n := by
  by_cases e : trim zs = []
  · rw [e]
    exact Nat.zero_le _
  · have h1 := trim_last zs e
    have h2 : 0 < (trim zs).length := List.length_pos_iff.mpr e
    by_cases h3 : (trim zs).length ≤ n
    · exact h3
    · rw [co_trim, h _ (by omega)] at h1
      exact absurd rfl h1
theorem trim_long {zs : List Int} {n : Nat} (h : co zs n ≠ 0) : n < (trim zs).length := by
  by_cases e : n < (trim zs).length
  · exact e
  · exact absurd (by rw [← co_trim, co_out (by omega)]) h
theorem cv_top {xs ys : List Int} (h1 : xs ≠ []) (h2 : ys ≠ []) : cv xs ys (xs.length - 1 + (ys.length - 1)) = co xs (xs.length - 1) * co ys (ys.length - 1) := by
  have l1 := List.length_pos_iff.mpr h1
  have l2 := List.length_pos_iff.mpr h2
  unfold cv
  rw [su_congr (g := fun i => if i = xs.length - 1 then co xs (xs.length - 1) * co ys (ys.length - 1) else 0) (fun i hi => ?_), su_one (by omega)]
  by_cases e : i = xs.length - 1
  · rw [if_pos e, su_congr (g := fun j => if j = ys.length - 1 then co xs (xs.length - 1) * co ys (ys.length - 1) else 0) (fun j hj => ?_), su_one (by omega)]
    by_cases e2 : j = ys.length - 1
    · rw [if_pos e2, if_pos (by omega), e, e2]
    · rw [if_neg e2, if_neg (by omega)]
  · rw [if_neg e, su_congr (g := fun _ => 0) (fun j hj => if_neg (by omega)), su_zero]
/-- a product that is too long, or one that is not -/
theorem prod_big {xs ys : List Int} {p : Int} (hp : Vb.Prm p ∧ p ≤ 101) (t1 : trim xs = xs) (t2 : trim ys = ys) (b1 : ∀ k, 0 ≤ co xs k ∧ co xs k < p) (b2 : ∀ k, 0 ≤ co ys k ∧ co ys k < p) (n1 : xs ≠ []) (n2 : ys ≠ []) (h : 128 < xs.length + ys.length - 1) (zs : List Int) (hz : ∀ k, co zs k = cv xs ys k % p) : 128 < (trim zs).length := by
  have l1 := List.length_pos_iff.mpr n1
  have l2 := List.length_pos_iff.mpr n2
  have e1 := trim_last xs (by rw [t1]; exact n1)
  have e2 := trim_last ys (by rw [t2]; exact n2)
  rw [t1] at e1
  rw [t2] at e2
  have c1 := b1 (xs.length - 1)
  have c2 := b2 (ys.length - 1)
  have := trim_long (zs := zs) (n := xs.length - 1 + (ys.length - 1)) (by
    rw [hz, cv_top n1 n2]
    exact nozero hp.1 hp.2 ⟨by omega, c1.2⟩ ⟨by omega, c2.2⟩)
  omega
theorem prod_fits {xs ys : List Int} {p : Int} (h : xs.length + ys.length - 1 ≤ 128 ∨ xs = [] ∨ ys = []) (zs : List Int) (hz : ∀ k, co zs k = cv xs ys k % p) : (trim zs).length ≤ 128 := by
  refine trim_short fun k hk => ?_
  rw [hz]
  rcases h with h | h | h
  · rw [cv_out (by omega), Int.zero_emod]
  · subst h
    exact Int.zero_emod _
  · subst h
    rw [cv_comm]
    exact Int.zero_emod _
end
end K
namespace K
open PySem PySem.Spec PyProof.Rows L2
section
/-- what the product's coefficient is when i rows and j items of the next row are done -/
def pc (cs ds : List Int) (i j k : Nat) : Int := (su i fun i' => su ds.length fun j' => if i' + j' = k then co cs i' * co ds j' else 0) + su j fun j' => if i + j' = k then co cs i * co ds j' else 0
theorem pc_start (cs ds : List Int) (k : Nat) : pc cs ds 0 0 k = 0 := rfl
theorem pc_row (cs ds : List Int) (i k : Nat) : pc cs ds i ds.length k = pc cs ds (i + 1) 0 k := by
  unfold pc
  show _ = su (i + 1) _ + 0
  rw [Int.add_zero]
  rfl
theorem pc_step (cs ds : List Int) (i j k : Nat) : pc cs ds i (j + 1) k = pc cs ds i j k + if i + j = k then co cs i * co ds j else 0 := by
  unfold pc
  show _ + (su j _ + _) = _
  rw [Int.add_assoc]
theorem pc_end (cs ds : List Int) (k : Nat) : pc cs ds cs.length 0 k = cv cs ds k := by
  unfold pc
  show cv cs ds k + 0 = _
  rw [Int.add_zero]
end
end K
namespace K
open PySem PySem.Spec PyProof.Rows L2
section
/-- the place that a power comes to when X^p is X -/
def low (p : Nat) (i : Nat) : Nat := if p ≤ i then (i - 1) % (p - 1) + 1 else i
theorem low_lt {p i : Nat} (hp : 2 ≤ p) : low p i < p := by
  unfold low
  split
  · have := Nat.mod_lt (i - 1) (show 0 < p - 1 by omega)
    omega
  · omega
theorem low_small {p i : Nat} (h : i < p) : low p i = i := by
  unfold low
  rw [if_neg (by omega)]
theorem low_step {p i : Nat} (hp : 2 ≤ p) (h : p ≤ i) : low p i = low p (i - (p - 1)) := by
  unfold low
  rw [if_pos h]
  have e : (i - 1) % (p - 1) = (i - (p - 1) - 1) % (p - 1) := by
    have := Nat.mod_eq_sub_mod (a := i - 1) (b := p - 1) (by omega)
    rw [this]
    congr 1
    omega
  split
  · rw [e]
  · rw [e, Nat.mod_eq_of_lt (by omega)]
    omega
theorem fermat_table : (List.range 102).all (fun p => !Vb.isP (p : Int) || (List.range p).all fun n => (n ^ p) % p == n % p) = true := by decide +kernel
theorem fermat {p n : Int} (hp : Vb.Prm p) (h1 : p ≤ 101) (h2 : 0 ≤ n) (h3 : n < p) : n ^ p.toNat % p = n % p := by
  have h0 := hp.1
  have a := List.all_eq_true.mp fermat_table p.toNat (List.mem_range.mpr (by omega))
  rw [show ((p.toNat : Nat) : Int) = p by omega, (Vb.isP_iff p).mpr hp, Bool.not_true, Bool.false_or] at a
  have b := beq_iff_eq.mp (List.all_eq_true.mp a n.toNat (List.mem_range.mpr (by omega)))
  have c : ((n.toNat ^ p.toNat % p.toNat : Nat) : Int) = ((n.toNat % p.toNat : Nat) : Int) := congrArg Int.ofNat b
  rw [Int.natCast_emod, Int.natCast_emod, Int.natCast_pow, show ((n.toNat : Nat) : Int) = n by omega, show ((p.toNat : Nat) : Int) = p by omega] at c
  exact c
theorem pow_low {p n : Int} (hp : Vb.Prm p) (h1 : p ≤ 101) (h2 : 0 ≤ n) (h3 : n < p) : ∀ i : Nat, n ^ i % p = n ^ low p.toNat i % p := by
  have h0 := hp.1
  intro i
  induction i using Nat.strongRecOn with
  | _ i ih =>
    by_cases h : i < p.toNat
    · rw [low_small h]
    · rw [low_step (by omega) (by omega), ← ih _ (by omega)]
      obtain ⟨j, rfl⟩ : ∃ j, i = p.toNat + j := ⟨i - p.toNat, by omega⟩
      rw [show p.toNat + j - (p.toNat - 1) = 1 + j by omega, Int.pow_add, Int.pow_add, Int.mul_emod, fermat hp h1 h2 h3, ← Int.mul_emod, Int.pow_one]
/-- the reduced polynomial's coefficient -/
def rc (p : Nat) (cs : List Int) (n k : Nat) : Int := su n fun i => if low p i = k then co cs i else 0
theorem rc_ev {p x : Int} {cs es : List Int} (hp : Vb.Prm p) (h1 : p ≤ 101) (hx : 0 ≤ x ∧ x < p) (le : (es.length : Int) ≤ p) (h : ∀ k, co es k = rc p.toNat cs cs.length k % p) : ev es x % p = ev cs x % p := by
  have h0 := hp.1
  have a1 : ev es x % p = (su p.toNat fun k => rc p.toNat cs cs.length k * x ^ k) % p := by
    rw [ev_long (n := p.toNat) (by omega), ← su_emod, ← su_emod p.toNat (fun k => rc p.toNat cs cs.length k * x ^ k)]
    congr 1
    refine su_congr fun k _ => ?_
    rw [h, Int.mul_emod, Int.emod_emod_of_dvd _ (Int.dvd_refl p), ← Int.mul_emod]
  have a2 : (su p.toNat fun k => rc p.toNat cs cs.length k * x ^ k) = su cs.length fun i => co cs i * x ^ low p.toNat i := by
    have e : (fun k => rc p.toNat cs cs.length k * x ^ k) = fun k => su cs.length fun i => if k = low p.toNat i then co cs i * x ^ low p.toNat i else 0 := by
      funext k
      unfold rc
      rw [Int.mul_comm, ← su_mul]
      congr 1
      funext i
      by_cases hk : low p.toNat i = k
      · rw [if_pos hk, if_pos hk.symm, hk, Int.mul_comm]
      · rw [if_neg hk, if_neg (Ne.symm hk), Int.mul_zero]
    rw [e, su_swap]
    exact su_congr fun i _ => su_one (low_lt (by omega))
  rw [a1, a2]
  show _ = (su cs.length fun k => co cs k * x ^ k) % p
  rw [← su_emod, ← su_emod cs.length (fun k => co cs k * x ^ k)]
  congr 1
  refine su_congr fun i _ => ?_
  rw [Int.mul_emod, ← pow_low hp h1 hx.1 hx.2, ← Int.mul_emod]
theorem rc_same {p : Int} {cs : List Int} (hp : 2 ≤ p) (hl : (cs.length : Int) ≤ p) (k : Nat) : rc p.toNat cs cs.length k = co cs k := by
  unfold rc
  rw [su_congr (g := fun i => if i = k then co cs k else 0) (fun i hi => ?_)]
  · by_cases h : k < cs.length
    · exact su_one h
    · rw [su_congr (g := fun _ => 0) (fun i hi => by rw [if_neg (by omega)]), su_zero, co_out (by omega)]
  · rw [low_small (by omega)]
    by_cases h : i = k
    · rw [if_pos h, if_pos h, h]
    · rw [if_neg h, if_neg h]
/-- division by X - r, the remainder left out -/
def sd (r : Int) : List Int → List Int
  | [] => []
  | [_] => []
  | _ :: d :: tl => hn r (d :: tl) :: sd r (d :: tl)
theorem sd_len (r : Int) : ∀ cs : List Int, (sd r cs).length = cs.length - 1
  | [] => rfl
  | [_] => rfl
  | _ :: d :: tl => by
    show (sd r (d :: tl)).length + 1 = _
    rw [sd_len r (d :: tl)]
    rfl
theorem sd_hn (r x : Int) : ∀ cs : List Int, hn x cs = (x - r) * hn x (sd r cs) + hn r cs
  | [] => by simp [sd, hn]
  | [c] => by simp [sd, hn]
  | c :: d :: tl => by
    have h := sd_hn r x (d :: tl)
    have e1 : hn x (c :: d :: tl) = c + x * hn x (d :: tl) := rfl
    have e2 : hn r (c :: d :: tl) = c + r * hn r (d :: tl) := rfl
    have e3 : hn x (sd r (c :: d :: tl)) = hn r (d :: tl) + x * hn x (sd r (d :: tl)) := rfl
    rw [e1, e2, e3, h]
    generalize hn x (sd r (d :: tl)) = u
    generalize hn r (d :: tl) = v
    simp only [Int.mul_add, Int.sub_mul, Int.mul_sub, Int.mul_assoc, Int.mul_left_comm x r]
    omega
theorem sd_zero {p r : Int} : ∀ cs : List Int, (∀ c ∈ sd r cs, c % p = 0) → hn r cs % p = 0 → ∀ c ∈ cs, c % p = 0
  | [], _, _ => fun c m => by cases m
  | [c], _, h => fun c' m => by
    rw [List.mem_singleton.mp m]
    have e : hn r [c] = c := by simp [hn]
    rw [e] at h
    exact h
  | c :: d :: tl, hs, h => fun c' m => by
    have h1 : hn r (d :: tl) % p = 0 := hs _ (List.mem_cons_self ..)
    have h2 := sd_zero (d :: tl) (fun c m => hs c (List.mem_cons_of_mem _ m)) h1
    rcases List.mem_cons.mp m with rfl | m
    · have e : hn r (c' :: d :: tl) = c' + r * hn r (d :: tl) := rfl
      rw [e, Int.add_emod, Int.mul_emod, h1, Int.mul_zero, Int.zero_emod, Int.add_zero, Int.emod_emod_of_dvd _ (Int.dvd_refl p)] at h
      exact h
    · exact h2 c' m
/-- a polynomial with as many roots as coefficients is zero -/
theorem roots_zero {p : Int} (hp : Vb.Prm p ∧ p ≤ 101) : ∀ (n : Nat) (cs S : List Int), cs.length = n → n ≤ S.length → S.Nodup → (∀ x ∈ S, 0 ≤ x ∧ x < p) → (∀ x ∈ S, hn x cs % p = 0) → ∀ c ∈ cs, c % p = 0
  | 0, cs, S, h, _, _, _, _ => fun c m => by
    rw [List.length_eq_zero_iff.mp h] at m
    cases m
  | n + 1, cs, [], _, hl, _, _, _ => absurd hl (by simp)
  | n + 1, cs, r :: S, h, hl, nd, hb, hz => by
    have h0 := hp.1.1
    obtain ⟨nr, nd'⟩ := List.nodup_cons.mp nd
    have zr := hz r (List.mem_cons_self ..)
    refine sd_zero cs (roots_zero hp n (sd r cs) S (by rw [sd_len, h]; rfl) (by simpa using hl) nd' (fun x m => hb x (List.mem_cons_of_mem _ m)) fun x m => ?_) zr
    have bx := hb x (List.mem_cons_of_mem _ m)
    have br := hb r (List.mem_cons_self ..)
    have ne : x ≠ r := fun z => nr (z ▸ m)
    have zx := hz x (List.mem_cons_of_mem _ m)
    rw [sd_hn r x, Int.add_emod, zr, Int.add_zero, Int.emod_emod_of_dvd _ (Int.dvd_refl p)] at zx
    by_cases hq : hn x (sd r cs) % p = 0
    · exact hq
    exfalso
    have q0 := Int.emod_nonneg (hn x (sd r cs)) (show p ≠ 0 by omega)
    have q1 := Int.emod_lt_of_pos (hn x (sd r cs)) (show 0 < p by omega)
    have d0 : (x - r) % p ≠ 0 := fun z => by
      obtain ⟨c, hc⟩ := Int.dvd_of_emod_eq_zero z
      have : c = 0 := by
        by_cases c0 : c = 0
        · exact c0
        exfalso
        rcases Int.lt_or_gt_of_ne c0 with h1 | h1
        · have := Int.mul_le_mul_of_nonneg_left (show c ≤ -1 by omega) (show 0 ≤ p by omega)
          omega
        · have := Int.mul_le_mul_of_nonneg_left (show 1 ≤ c by omega) (show 0 ≤ p by omega)
          omega
      rw [this, Int.mul_zero] at hc
      omega
    have d1 := Int.emod_nonneg (x - r) (show p ≠ 0 by omega)
    have d2 := Int.emod_lt_of_pos (x - r) (show 0 < p by omega)
    refine nozero hp.1 hp.2 (a := (x - r) % p) (b := hn x (sd r cs) % p) ⟨by omega, d2⟩ ⟨by omega, q1⟩ ?_
    rw [← Int.mul_emod]
    exact zx
/-- the numbers of the field -/
def fnums (p : Int) : List Int := (List.range p.toNat).map fun i : Nat => (i : Int)
theorem fnums_len (p : Int) : (fnums p).length = p.toNat := by
  unfold fnums
  rw [List.length_map, List.length_range]
theorem fnums_mem {p x : Int} : x ∈ fnums p ↔ 0 ≤ x ∧ x < p := by
  unfold fnums
  rw [List.mem_map]
  constructor
  · rintro ⟨i, h, rfl⟩
    have := List.mem_range.mp h
    omega
  · intro h
    exact ⟨x.toNat, List.mem_range.mpr (by omega), by omega⟩
theorem fnums_nodup (p : Int) : (fnums p).Nodup := by
  unfold fnums
  unfold List.Nodup
  rw [List.pairwise_map]
  exact List.nodup_range.imp fun h z => h (Int.ofNat_inj.mp z)
/-- polynomials below the prime's degree with the same values are the same -/
theorem vals_same {p : Int} {cs ds : List Int} (hp : Vb.Prm p ∧ p ≤ 101) (lc : (cs.length : Int) ≤ p) (ld : (ds.length : Int) ≤ p) (bc : ∀ k, 0 ≤ co cs k ∧ co cs k < p) (bd : ∀ k, 0 ≤ co ds k ∧ co ds k < p) (h : ∀ x, 0 ≤ x ∧ x < p → ev cs x % p = ev ds x % p) : ∀ k, co cs k = co ds k := by
  have h0 := hp.1.1
  obtain ⟨zs, hzs⟩ : ∃ zs : List Int, zs = (List.range p.toNat).map fun k => co cs k - co ds k := ⟨_, rfl⟩
  have zl : zs.length = p.toNat := by rw [hzs, List.length_map, List.length_range]
  have zc : ∀ k, co zs k = co cs k - co ds k := fun k => by
    by_cases hk : k < p.toNat
    · have := co_in (xs := zs) (k := k) (by omega)
      rw [hzs, List.getElem?_map, List.getElem?_range hk] at this
      rw [hzs]
      exact (Option.some.inj this).symm
    · rw [co_out (by omega), co_out (xs := cs) (by omega), co_out (xs := ds) (by omega)]
      rfl
  have zz := roots_zero hp p.toNat zs (fnums p) zl (by rw [fnums_len]; exact Nat.le_refl _) (fnums_nodup p) (fun x m => fnums_mem.mp m) (fun x m => by
    have hx := fnums_mem.mp m
    rw [hn_ev, ev_long (n := p.toNat) (by omega)]
    have e : (su p.toNat fun k => co zs k * x ^ k) = ev cs x - ev ds x := by
      rw [ev_long (xs := cs) (n := p.toNat) (by omega), ev_long (xs := ds) (n := p.toNat) (by omega)]
      have e2 : (fun k => co zs k * x ^ k) = fun k => co cs k * x ^ k + -1 * (co ds k * x ^ k) := by
        funext k
        rw [zc, Int.sub_mul]
        omega
      rw [e2, su_add, su_mul]
      omega
    rw [e]
    exact Int.emod_eq_emod_iff_emod_sub_eq_zero.mp (h x hx))
  intro k
  by_cases hk : k < zs.length
  · have z1 := zz _ (List.mem_of_getElem? (co_in hk))
    rw [zc] at z1
    have a := bc k
    have b := bd k
    obtain ⟨c, hc⟩ := Int.dvd_of_emod_eq_zero z1
    have : c = 0 := by
      by_cases c0 : c = 0
      · exact c0
      exfalso
      rcases Int.lt_or_gt_of_ne c0 with h1 | h1
      · have := Int.mul_le_mul_of_nonneg_left (show c ≤ -1 by omega) (show 0 ≤ p by omega)
        omega
      · have := Int.mul_le_mul_of_nonneg_left (show 1 ≤ c by omega) (show 0 ≤ p by omega)
        omega
    rw [this, Int.mul_zero] at hc
    omega
  · rw [co_out (xs := cs) (by omega), co_out (xs := ds) (by omega)]
end
end K
namespace K
open PySem PySem.Spec PyProof.Rows L2
abbrev N_check_range : List Str := ["value", "least", "most"]
theorem sc_check_range : FnScope N_check_range ["value", "least", "most"] (defScope s_check_range) := ⟨rfl, rfl, rfl, by decide +kernel, rfl, by decide +kernel, by decide +kernel⟩
section
variable {P : Program} {w : World} {K : PySem.W.Frag} {mg : Str → Option Value} {base : Heap}
def sp_checkrange (K : PySem.W.Frag) (C : Addr) : Sp := fun vs H Q E => ∃ (v : V) (lo hi : Int) (d : PyData), vs = [v, .int lo, .int hi] ∧ Dp K H v d ∧ (inRange lo hi d = true → Q .non H) ∧ (inRange lo hi d = false → E (.ref C) none H)
theorem ok_checkrange (T : Txt K mg) : FnOk P w K mg base (L2N.CX P w) 2 T.f_check_range T.fd_check_range ["value", "least", "most"] (sp_checkrange K T.C_OutOfRange) := by
  have G_is_whole := ok_whole (P := P) (w := w) (base := base) T
  refine Vb.okN T.d_check_range.F sc_check_range (fun vs H Q E h => ?_) (fun cdv A outer s H vs Q E hr h => ?_)
  · obtain ⟨a, b, c, d, rfl, _⟩ := h
    rfl
  · obtain ⟨v, lo, hi, d, rfl, hd, q1, q2⟩ := h
    refine ⟨_, (pss_one (ps_if (PW.pt (pw_or (pt_not (pt_val (pe_callS G_is_whole (hr.mono (by first | decide | omega)) (by rfl) T.d_is_whole.g T.d_is_whole.F.kp T.d_is_whole.b (fun σ => L2N.passAt (L2N.takes_of rfl rfl rfl rfl) σ) (pa_cons (pv 0) pa_nil)))) (pw_or1 (pt_not (pt_chain op_le op_le (pv 1) (pv 0) (pv 2)))))) (pss_one (L2N.ps_raise rfl (L2N.takes_of rfl rfl rfl rfl) (Vb.pmk0 T.x_OutOfRange rfl))) pss_nil)), ?_⟩
    (change (_ : L2.TS) _ ([some (v), some (.int lo), some (.int hi)] : L2.St) _); try dsimp only [L2.cxOf, L2H.cxH]
    walk_at "rd"
    cases hw : whole d with
    | false =>
      refine use_whole hd hw ?_
      walk_at "rd"
      have hf : inRange lo hi d = false := by cases d <;> first | rfl | cases hw
      exact q2 hf
    | true =>
      refine use_whole hd hw ?_
      cases d <;> first | (cases hw; done) | skip
      rename_i n
      cases hd
      walk_at "rd"
      have e : inRange lo hi (.int n) = (decide (lo ≤ n) && decide (n ≤ hi)) := rfl
      rw [e] at q1 q2
      refine Vb.r_ite (fun c => ?_) (fun c => ?_)
      · rw [decide_eq_true c] at q1 q2
        walk_at "rd"
        cases c2 : decide (n ≤ hi) with
        | true =>
          rw [c2] at q1
          walk_at "rd"
          exact q1 rfl
        | false =>
          rw [c2] at q2
          walk_at "rd"
          exact q2 rfl
      · rw [decide_eq_false c] at q2
        walk_at "rd"
        exact q2 rfl
end
end K
namespace K
open PySem PySem.Spec PyProof.Rows L2
abbrev N_check_at_most : List Str := ["row", "most"]
theorem sc_check_at_most : FnScope N_check_at_most ["row", "most"] (defScope s_check_at_most) := ⟨rfl, rfl, rfl, by decide +kernel, rfl, by decide +kernel, by decide +kernel⟩
section
variable {P : Program} {w : World} {K : PySem.W.Frag} {mg : Str → Option Value} {base : Heap}
def sp_atmost (K : PySem.W.Frag) (L : Addr) : Sp := fun vs H Q E => ∃ (r : Addr) (xs : List V) (m : Int), vs = [.ref r, .int m] ∧ Vb.SqA K H r xs ∧ ((xs.length : Int) ≤ m → Q .non H) ∧ (m < (xs.length : Int) → E (.ref L) none H)
theorem ok_atmost (T : Txt K mg) : FnOk P w K mg base (L2N.CX P w) 1 T.f_check_at_most T.fd_check_at_most ["row", "most"] (sp_atmost K T.C_TooLarge) := by
  refine Vb.okN T.d_check_at_most.F sc_check_at_most (fun vs H Q E h => ?_) (fun cdv A outer s H vs Q E hr h => ?_)
  · obtain ⟨r, xs, m, rfl, _⟩ := h
    rfl
  · obtain ⟨r, xs, m, rfl, ha, q1, q2⟩ := h
    refine ⟨_, (pss_one (ps_if (pt_cmpR op_gt (pe_callB Vb.call_len (by rfl) T.n_len (by decide +kernel) (pa_cons (pv 0) pa_nil)) (pv 1) (nomark _)) (pss_one (L2N.ps_raise rfl (L2N.takes_of rfl rfl rfl rfl) (Vb.pmk0 T.x_TooLarge rfl))) pss_nil)), ?_⟩
    (change (_ : L2.TS) _ ([some (.ref r), some (.int m)] : L2.St) _); try dsimp only [L2.cxOf, L2H.cxH]
    walk_at "rd"
    refine Vb.r_ite (fun c => ?_) (fun c => ?_)
    · walk_at "rd"
      exact q2 c
    · walk_at "rd"
      exact q1 (by omega)
end
end K
namespace K
open PySem PySem.Spec PyProof.Rows L2
abbrev N_check_numbers : List Str := ["prime", "numbers", "number"]
theorem sc_check_numbers : FnScope N_check_numbers ["prime", "numbers"] (defScope s_check_numbers) := ⟨rfl, rfl, rfl, by decide +kernel, rfl, by decide +kernel, by decide +kernel⟩
section
variable {P : Program} {w : World} {K : PySem.W.Frag} {mg : Str → Option Value} {base : Heap}
/-- a list or a tuple of data: all numbers of the field, or the first that is none -/
def sp_checknums (K : PySem.W.Frag) (C : Addr) : Sp := fun vs H Q E => ∃ (p : Int) (a : Addr) (xs : List V) (ds : List PyData), vs = [.int p, .ref a] ∧ Vb.SqA K H a xs ∧ DpAll K H xs ds ∧ ((∀ d ∈ ds, inField p d = true) → Q .non H) ∧
  ∀ (i : Nat) (v : V) (d : PyData), xs[i]? = some v → ds[i]? = some d → (∀ (j : Nat) e, j < i → ds[j]? = some e → inField p e = true) → inField p d = false → ∀ dd : Addr, H dd = none → E (.ref C) (some dd) (upd H dd (.xd [("value", v)]))
theorem ok_checknums (T : Txt K mg) : FnOk P w K mg base (L2N.CX P w) 4 T.f_check_numbers T.fd_check_numbers ["prime", "numbers"] (sp_checknums K T.C_NotInField) := by
  have G_check_number := ok_checknum (P := P) (w := w) (base := base) T
  refine Vb.okN T.d_check_numbers.F sc_check_numbers (fun vs H Q E h => ?_) (fun cdv A outer s H vs Q E hr h => ?_)
  · obtain ⟨a, b, c, d, rfl, _⟩ := h
    rfl
  · obtain ⟨p, a, xs, ds, rfl, ha, hd, q1, q2⟩ := h
    refine ⟨_, (pss_one (ps_for (L2.passes_of rfl) rfl (Vb.pi_seq (pv 1)) (pg_name (i := 2) sc_check_numbers.nd rfl (by first | exact Or.inl rfl | exact Or.inr rfl))
        (pss_one (ps_expr (pe_callS G_check_number (hr.mono (by first | decide | omega)) (by rfl) T.d_check_number.g T.d_check_number.F.kp T.d_check_number.b (fun σ => L2N.passAt (L2N.takes_of rfl rfl rfl rfl) σ) (pa_cons (pv 0) (pa_cons (pv 2) pa_nil))))))), ?_⟩
    (change (_ : L2.TS) _ ([some (.int p), some (.ref a), none] : L2.St) _); try dsimp only [L2.cxOf, L2H.cxH]
    walk_at "rd"
    refine Vb.lp_seq (xs := xs) (fun i σ H' => H' = H ∧ (∀ (j : Nat) e, j < i → ds[j]? = some e → inField p e = true) ∧ ∃ y, σ = [some (.int p), some (.ref a), y]) ⟨rfl, fun j e h => by omega, none, rfl⟩ ha (fun i σ' H' _ c => by rw [c.1]; exact Same.refl _) ?_ ?_
    · rintro i x σ H' hi ⟨rfl, hk, y, rfl⟩
      obtain ⟨d, hd1, hd2⟩ := Vb.dpa_get hd hi
      walk_at "rd"
      refine ⟨p, x, d, rfl, hd2, fun hf => ?_, fun hf => q2 i x d hi hd1 hk hf⟩
      walk_at "rd"
      refine ⟨rfl, fun j e h g => ?_, _, rfl⟩
      by_cases z : j < i
      · exact hk j e z g
      · rw [show j = i by omega, hd1] at g
        cases g
        exact hf
    · rintro σ H' ⟨rfl, hk, y, rfl⟩
      walk_at "rd"
      refine q1 fun d m => ?_
      obtain ⟨j, hj⟩ := List.getElem?_of_mem m
      exact hk j d (by rw [Vb.dpa_len hd]; exact (List.getElem?_eq_some_iff.mp hj).1) hj
/-- numbers of the field, each of them -/
def sp_checknumsA (K : PySem.W.Frag) : Sp := fun vs H Q _ => ∃ (p : Int) (r : Addr) (ns : List Int), vs = [.int p, .ref r] ∧ Vb.SqA K H r (ns.map V.int) ∧ (∀ c ∈ ns, 0 ≤ c ∧ c < p) ∧ Q .non H
theorem ok_checknumsA (T : Txt K mg) : FnOk P w K mg base (L2N.CX P w) 4 T.f_check_numbers T.fd_check_numbers ["prime", "numbers"] (sp_checknumsA K) :=
  (ok_checknums (P := P) (w := w) (base := base) T).imp fun vs H Q E h => by
    obtain ⟨p, r, ns, rfl, ha, hn, q⟩ := h
    have all : ∀ d ∈ ns.map PyData.int, inField p d = true := fun d m => by
      obtain ⟨c, hc, rfl⟩ := List.mem_map.mp m
      exact inField_int.mpr (hn c hc)
    exact ⟨p, r, _, _, rfl, ha, Vb.dpa_ints ns, fun _ => q, fun i v d _ h2 _ hf => by rw [all d (List.mem_of_getElem? h2)] at hf; cases hf⟩
end
end K
namespace K
open PySem PySem.Spec PyProof.Rows L2
abbrev N_without_end_zeros : List Str := ["coefficients", "length"]
theorem sc_without_end_zeros : FnScope N_without_end_zeros ["coefficients"] (defScope s_without_end_zeros) := ⟨rfl, rfl, rfl, by decide +kernel, rfl, by decide +kernel, by decide +kernel⟩
section
variable {P : Program} {w : World} {K : PySem.W.Frag} {mg : Str → Option Value} {base : Heap}
theorem take_trim {ns : List Int} {k : Nat} (h : k < ns.length) (z : co ns k = 0) (e : trim (ns.take (k + 1)) = trim ns) : trim (ns.take k) = trim ns := by
  rw [← e, List.take_add_one, co_in h, z]
  exact (trim_snoc _).symm
theorem take_full {ns : List Int} {k : Nat} (h : k < ns.length) (z : co ns k ≠ 0) : trim (ns.take (k + 1)) = ns.take (k + 1) := by
  rw [List.take_add_one, co_in h]
  exact trim_full _ _ z
theorem co_map {ns : List Int} {k : Nat} (h : k < ns.length) : (ns.map V.int)[k]? = some (.int (co ns k)) := by
  rw [List.getElem?_map, co_in h]
  rfl
def sp_noends (K : PySem.W.Frag) : Sp := fun vs H Q _ => ∃ (r : Addr) (ns : List Int), vs = [.ref r] ∧ Vb.SqA K H r (ns.map V.int) ∧ ∀ t H', Same H H' → SqT K H' t ((trim ns).map V.int) → Q (.ref t) H'
theorem ok_noends (T : Txt K mg) : FnOk P w K mg base (L2N.CX P w) 1 T.f_without_end_zeros T.fd_without_end_zeros ["coefficients"] (sp_noends K) := by
  refine Vb.okN T.d_without_end_zeros.F sc_without_end_zeros (fun vs H Q E h => ?_) (fun cdv A outer s H vs Q E hr h => ?_)
  · obtain ⟨r, ns, rfl, _⟩ := h
    rfl
  · obtain ⟨r, ns, rfl, ha, q⟩ := h
    refine ⟨_, (pss_cons (ps_set (i := 1) sc_without_end_zeros.nd rfl (by first | exact Or.inl rfl | exact Or.inr rfl) (pe_callB Vb.call_len (by rfl) T.n_len (by decide +kernel) (pa_cons (pv 0) pa_nil)))
      (pss_cons (ps_while (L2.passes_of rfl) (PW.pt (pw_and (pt_cmpR op_gt (pv 1) pe_int (nomark _)) (pw_and1 (pt_cmpR op_eq (pe_ix ix_seq (pv 0) (pe_op op_sub (pv 1) pe_int) (fun _ _ => rfl)) pe_int (nomark _))))) (pss_one (ps_set (i := 1) sc_without_end_zeros.nd rfl (by first | exact Or.inl rfl | exact Or.inr rfl) (pe_op op_sub (pv 1) pe_int))))
      (pss_one (ps_ret (pe_callTy Vb.call_tuple (by rfl) T.n_tuple (by decide +kernel) (pa_cons (pe_slice (SlR.or sl_list sl_tupA) (pv 0) po_none (po_some (pv 1))) pa_nil)))))), ?_⟩
    (change (_ : L2.TS) _ ([some (.ref r), none] : L2.St) _); try dsimp only [L2.cxOf, L2H.cxH]
    walk_at "rd"
    refine Vb.r_while (fun m σ H' => H' = H ∧ m ≤ ns.length ∧ trim (ns.take m) = trim ns ∧ σ = [some (.ref r), some (.int (m : Nat))]) ns.length ⟨rfl, Nat.le_refl _, by rw [List.take_length], by rw [show (ns.map V.int).length = ns.length from List.length_map ..]; rfl⟩ ?_
    rintro m σ H' ⟨rfl, hm, ht, rfl⟩
    have fin : trim (ns.take m) = ns.take m → tRet (tCB (Vb.rTup K) (tCons (tSl (fun x lo hi H Q => rSlL K x lo hi H Q ∨ rSlA K x lo hi H Q) (tVar 0) tNoPart (tPart (tVar 1))) tNil)) (Ends.mk (fun _ H' => Q V.non H') Q (fun _ H' => Q V.non H') (fun _ H' => Q V.non H')) [some (.ref r), some (.int (m : Nat))] H' := fun e => by
      walk_at "rd"
      refine Vb.r_slA ha fun t1 H1 e1 h1 => ?_
      rw [Vb.cut_take (by rw [List.length_map]; exact hm), ← List.map_take, ← e, ht] at h1
      walk_at "rd"
      refine Vb.r_tupA h1 fun t2 H2 e2 h2 => ?_
      exact q t2 H2 (e1.trans e2) h2
    walk_at "rd"
    refine Vb.r_ite (fun c => ?_) (fun c => ?_)
    · obtain ⟨k, rfl⟩ : ∃ k, m = k + 1 := ⟨m - 1, by omega⟩
      have hk : k < ns.length := by omega
      walk_at "rd"
      refine Vb.r_ixA ha (Vb.at_lit k (by omega) (co_map hk)) ?_
      walk_at "rd"
      refine Vb.r_ite (fun c2 => ?_) (fun c2 => ?_)
      · refine Vb.wh_body ?_
        walk_at "rd"
        refine ⟨k, by omega, rfl, by omega, take_trim hk c2 ht, ?_⟩
        rw [show ((k + 1 : Nat) : Int) - 1 = (k : Int) by omega]
        rfl
      · exact fin (take_full hk c2)
    · refine Vb.r_iteF ?_
      exact fin (by obtain rfl : m = 0 := by omega
                    rfl)
end
end K
namespace K
open PySem PySem.Spec PyProof.Rows L2
abbrev N_Field___init__ : List Str := ["self", "prime"]
theorem sc_Field___init__ : FnScope N_Field___init__ ["self", "prime"] (defScope s_Field___init__) := ⟨rfl, rfl, rfl, by decide +kernel, rfl, by decide +kernel, by decide +kernel⟩
section
variable {P : Program} {w : World} {K : PySem.W.Frag} {mg : Str → Option Value} {base : Heap}
/-- a field of p at a -/
def FieldAt (C : Addr) (H : Hp) (a : Addr) (p : Int) : Prop := ∃ dx, H a = some (.ins C dx [("prime", .int p)])
theorem FieldAt.same {C : Addr} {H H' : Hp} {a : Addr} {p : Int} (h : FieldAt C H a p) (e : Same H H') : FieldAt C H' a p := h.elim fun dx h => ⟨dx, e _ _ h⟩
theorem FieldAt.fr {C : Addr} {H H' : Hp} {a st : Addr} {p : Int} (h : FieldAt C H a p) (e : Vb.Fr st H H') (n : a ≠ st) : FieldAt C H' a p := h.elim fun dx h => ⟨dx, e.k _ _ n h⟩
def sp_finit (K : PySem.W.Frag) (C N : Addr) : Sp := fun vs H Q E => ∃ (a dx : Addr) (v : V) (d : PyData), vs = [.ref a, v] ∧ H a = some (.ins C dx []) ∧ H dx = some (.own a) ∧ Dp K H v d ∧ (field d = true → Q .non (upd H a (.ins C dx [("prime", v)]))) ∧ (field d = false → ∀ dd : Addr, H dd = none → E (.ref N) (some dd) (upd H dd (.xd [("value", v)])))
theorem use_mkfield {C N : Addr} {p : Int} {H : Hp} {R : Addr → Hp → Prop} {E : XK} (h : Vb.Prm p) (l : p ≤ 101) (q : ∀ (x : Addr) (H' : Hp), H x = none → Same H H' → FieldAt C H' x p → R x H') :
    ∀ x dx, H x = none → H dx = none → dx ≠ x → sp_finit K C N [.ref x, .int p] (upd (upd H dx (.own x)) x (.ins C dx [])) (fun v H2 => v = .non ∧ R x H2) E := fun x dx nx ndx ne =>
  ⟨x, dx, .int p, .int p, rfl, upd_same, Vb.h_ne ne upd_same, .int p, fun _ => ⟨rfl, q x _ nx (Vb.same_mut (Vb.same_mut (Vb.same_new ndx) nx) nx) ⟨dx, upd_same⟩⟩, fun z => by rw [field_yes h l] at z; cases z⟩
theorem ok_finit (T : Txt K mg) : FnOk P w K mg base (L2N.CX P w) 4 T.f_Field___init__ T.fd_Field___init__ ["self", "prime"] (sp_finit K T.C_Field T.C_NotPrime) := by
  have G_check_prime := ok_check (P := P) (w := w) (base := base) T
  refine Vb.okN T.d_Field___init__.F sc_Field___init__ (fun vs H Q E h => ?_) (fun cdv A outer s H vs Q E hr h => ?_)
  · obtain ⟨a, b, c, d, rfl, _⟩ := h
    rfl
  · obtain ⟨a, dx, v, d, rfl, ha, hx, hd, q1, q2⟩ := h
    refine ⟨_, (pss_one (ps_fld (pv 0) (pe_callS G_check_prime (hr.mono (by first | decide | omega)) (by rfl) T.d_check_prime.g T.d_check_prime.F.kp T.d_check_prime.b (fun σ => L2N.passAt (L2N.takes_of rfl rfl rfl rfl) σ) (pa_cons (pv 1) pa_nil)) rfl)), ?_⟩
    (change (_ : L2.TS) _ ([some (.ref a), some (v)] : L2.St) _); try dsimp only [L2.cxOf, L2H.cxH]
    walk_at "rd"
    refine ⟨v, d, rfl, hd, fun hf => ?_, fun hf => q2 hf⟩
    walk_at "rd"
    exact ⟨a, _, _, _, rfl, ha, T.c_Field, T.a_Field_prime, by decide, q1 hf⟩
end
end K
namespace K
open PySem PySem.Spec PyProof.Rows L2
section
/-- a deed of a field with one number -/
def sp_f1 (K : PySem.W.Frag) (C N : Addr) (R : Int → Int → Hp → VK → XK → Prop) : Sp := fun vs H Q E => ∃ (a : Addr) (p : Int) (v : V) (d : PyData), vs = [.ref a, v] ∧ FieldAt C H a p ∧ (2 ≤ p ∧ p ≤ 101) ∧ Dp K H v d ∧
  (∀ x : Int, d = .int x → 0 ≤ x ∧ x < p → R p x H Q E) ∧ (inField p d = false → ∀ dd : Addr, H dd = none → E (.ref N) (some dd) (upd H dd (.xd [("value", v)])))
end
end K
namespace K
open PySem PySem.Spec PyProof.Rows L2
abbrev N_Field_invert : List Str := ["self", "number"]
theorem sc_Field_invert : FnScope N_Field_invert ["self", "number"] (defScope s_Field_invert) := ⟨rfl, rfl, rfl, by decide +kernel, rfl, by decide +kernel, by decide +kernel⟩
section
variable {P : Program} {w : World} {K : PySem.W.Frag} {mg : Str → Option Value} {base : Heap}
theorem ok_finv (T : Txt K mg) : FnOk P w K mg base (L2N.CX P w) 4 T.f_Field_invert T.fd_Field_invert ["self", "number"] (sp_f1 K T.C_Field T.C_NotInField fun p x H Q E => (x = 0 → E (.ref T.C_DivisionByZero) none H) ∧ (x ≠ 0 → Q (.int (x ^ (p - 2).toNat % p)) H)) := by
  have G_check_number := ok_checknum (P := P) (w := w) (base := base) T
  have G_power_modulo := ok_powmod (P := P) (w := w) (base := base) T
  refine Vb.okN T.d_Field_invert.F sc_Field_invert (fun vs H Q E h => ?_) (fun cdv A outer s H vs Q E hr h => ?_)
  · obtain ⟨a, p, v, d, rfl, _⟩ := h
    rfl
  · obtain ⟨a, p, v, d, rfl, ⟨dx, ha⟩, hp, hd, q, q1⟩ := h
    refine ⟨_, (pss_cons (ps_expr (pe_callS G_check_number (hr.mono (by first | decide | omega)) (by rfl) T.d_check_number.g T.d_check_number.F.kp T.d_check_number.b (fun σ => L2N.passAt (L2N.takes_of rfl rfl rfl rfl) σ) (pa_cons (pe_fld (pv 0) (by rfl)) (pa_cons (pv 1) pa_nil))))
      (pss_cons (ps_if (pt_cmpR op_eq (pv 1) pe_int (nomark _)) (pss_one (L2N.ps_raise rfl (L2N.takes_of rfl rfl rfl rfl) (Vb.pmk0 T.x_DivisionByZero rfl))) pss_nil)
      (pss_one (ps_ret (pe_callS G_power_modulo (hr.mono (by first | decide | omega)) (by rfl) T.d_power_modulo.g T.d_power_modulo.F.kp T.d_power_modulo.b (fun σ => L2N.passAt (L2N.takes_of rfl rfl rfl rfl) σ) (pa_cons (pe_fld (pv 0) (by rfl)) (pa_cons (pv 1) (pa_cons (pe_op op_sub (pe_fld (pv 0) (by rfl)) pe_int) pa_nil)))))))), ?_⟩
    (change (_ : L2.TS) _ ([some (.ref a), some (v)] : L2.St) _); try dsimp only [L2.cxOf, L2H.cxH]
    walk_at "rd"
    refine ⟨_, _, _, _, _, rfl, ha, T.c_Field, T.a_Field_prime, rfl, ?_⟩
    walk_at "rd"
    refine ⟨p, v, d, rfl, hd, fun f1 => ?_, fun f1 dd n => q1 f1 dd n⟩
    obtain ⟨x, rfl, x1⟩ := inField_of f1
    cases hd
    obtain ⟨qz, qn⟩ := q x rfl x1
    walk_at "rd"
    refine Vb.r_ite (fun c => ?_) (fun c => ?_)
    · walk_at "rd"
      exact qz c
    · walk_at "rd"
      refine ⟨_, _, _, _, _, rfl, ha, T.c_Field, T.a_Field_prime, rfl, ?_⟩
      walk_at "rd"
      refine ⟨_, _, _, _, _, rfl, ha, T.c_Field, T.a_Field_prime, rfl, ?_⟩
      walk_at "rd"
      refine use_powmod hp x1 (by omega) ?_
      exact qn c
end
end K
namespace K
open PySem PySem.Spec PyProof.Rows L2
abbrev N_Poly___init__ : List Str := ["self", "prime", "coefficients"]
theorem sc_Poly___init__ : FnScope N_Poly___init__ ["self", "prime", "coefficients"] (defScope s_Poly___init__) := ⟨rfl, rfl, rfl, by decide +kernel, rfl, by decide +kernel, by decide +kernel⟩
section
variable {P : Program} {w : World} {K : PySem.W.Frag} {mg : Str → Option Value} {base : Heap}
/-- a polynomial over p at a, with these coefficients -/
structure PolyAt (K : PySem.W.Frag) (C : Addr) (H : Hp) (a : Addr) (p : Int) (cs : List Int) : Prop where
  o : ∃ dx t, H a = some (.ins C dx [("prime", .int p), ("coefficients", .ref t)]) ∧ SqT K H t (cs.map V.int)
  pr : Vb.Prm p ∧ p ≤ 101
  tr : trim cs = cs
  bd : ∀ c ∈ cs, 0 ≤ c ∧ c < p
  ln : cs.length ≤ 128
theorem PolyAt.same {K : PySem.W.Frag} {C : Addr} {H H' : Hp} {a : Addr} {p : Int} {cs : List Int} (v : PolyAt K C H a p cs) (e : Same H H') : PolyAt K C H' a p cs := by
  obtain ⟨⟨dx, t, h1, h2⟩, h3, h4, h5, h6⟩ := v
  exact ⟨⟨dx, t, e _ _ h1, Vb.sqT_same e h2⟩, h3, h4, h5, h6⟩
theorem sqL_upd {K : PySem.W.Frag} {H : Hp} {a b C dx : Addr} {xs : List V} {o : HO} {fs : List (Str × V)} (h : SqL K H a xs) (g : H b = some (.ins C dx fs)) : SqL K (upd H b o) a xs := by
  rcases h with h | h
  · rcases h with h | h
    · exact .inl (.inl (Vb.h_ne (fun z => by rw [z, g] at h; cases h) h))
    · obtain ⟨u, h⟩ := h
      exact .inl (.inr ⟨u, Vb.h_ne (fun z => by rw [z, g] at h; cases h) h⟩)
  · exact .inr h
theorem ins_ne {C dx a st : Addr} {fs : List (Str × V)} {H : Hp} (S : Vb.StoreAt H st) (h : H a = some (.ins C dx fs)) : a ≠ st := fun e => by
  obtain ⟨l, ns, u1, u2, u3, u4, u5, h1, _⟩ := S
  rw [e, h1] at h
  cases h
theorem PolyAt.fr {K : PySem.W.Frag} {C : Addr} {H H' : Hp} {a st : Addr} {p : Int} {cs : List Int} (v : PolyAt K C H a p cs) (S : Vb.StoreAt H st) (f : Vb.Fr st H H') : PolyAt K C H' a p cs := by
  obtain ⟨⟨dx, t, h1, h2⟩, h3, h4, h5, h6⟩ := v
  exact ⟨⟨dx, t, f.k _ _ (ins_ne S h1) h1, Vb.sqT_fr f S h2⟩, h3, h4, h5, h6⟩
theorem PolyAt.two {K : PySem.W.Frag} {C : Addr} {H : Hp} {a : Addr} {p : Int} {cs : List Int} (v : PolyAt K C H a p cs) : 2 ≤ p ∧ p ≤ 101 := ⟨v.pr.1.1, v.pr.2⟩
theorem PolyAt.cb {K : PySem.W.Frag} {C : Addr} {H : Hp} {a : Addr} {p : Int} {cs : List Int} (v : PolyAt K C H a p cs) (k : Nat) : 0 ≤ co cs k ∧ co cs k < p := by
  by_cases h : k < cs.length
  · exact v.bd _ (List.mem_of_getElem? (co_in h))
  · have := v.two
    rw [co_out (by omega)]
    omega
def sp_pinit (K : PySem.W.Frag) (C L : Addr) : Sp := fun vs H Q E => ∃ (a dx r : Addr) (p : Int) (ns : List Int), vs = [.ref a, .int p, .ref r] ∧ H a = some (.ins C dx []) ∧ (Vb.Prm p ∧ p ≤ 101) ∧ Vb.SqA K H r (ns.map V.int) ∧ (∀ c ∈ ns, 0 ≤ c ∧ c < p) ∧
  (ns.length ≤ 128 → ∀ H' t, (∀ b o, b ≠ a → H b = some o → H' b = some o) → H' a = some (.ins C dx [("prime", .int p), ("coefficients", .ref t)]) → SqT K H' t ((trim ns).map V.int) → Q .non H') ∧ (128 < ns.length → E (.ref L) none H)
theorem use_mkpoly {K : PySem.W.Frag} {C L r : Addr} {p : Int} {ns : List Int} {H : Hp} {R : Addr → Hp → Prop} {E : XK} (h : Vb.Prm p ∧ p ≤ 101) (hr : Vb.SqA K H r (ns.map V.int)) (hb : ∀ c ∈ ns, 0 ≤ c ∧ c < p) (q : ns.length ≤ 128 → ∀ (x : Addr) (H' : Hp), H x = none → Same H H' → PolyAt K C H' x p (trim ns) → R x H') (q2 : 128 < ns.length → ∀ H', Same H H' → E (.ref L) none H') :
    ∀ x dx, H x = none → H dx = none → dx ≠ x → sp_pinit K C L [.ref x, .int p, .ref r] (upd (upd H dx (.own x)) x (.ins C dx [])) (fun v H2 => v = .non ∧ R x H2) E := fun x dx nx ndx ne => by
  have e : Same H (upd (upd H dx (.own x)) x (.ins C dx [])) := Vb.same_mut (Vb.same_new ndx) nx
  refine ⟨x, dx, r, p, ns, rfl, upd_same, h, Vb.sqA_same e hr, hb, fun hl H' t k h1 h2 => ⟨rfl, q hl x H' nx (fun b o hb => k b o (fun z => by rw [z, nx] at hb; cases hb) (e _ _ hb)) ⟨⟨dx, t, h1, h2⟩, h, trim_trim _, fun c m => hb c (trim_mem m), Nat.le_trans (trim_len _) hl⟩⟩, fun hl => q2 hl _ e⟩
theorem ok_pinit (T : Txt K mg) : FnOk P w K mg base (L2N.CX P w) 5 T.f_Poly___init__ T.fd_Poly___init__ ["self", "prime", "coefficients"] (sp_pinit K T.C_Poly T.C_TooLarge) := by
  have G_check_prime := ok_check (P := P) (w := w) (base := base) T
  have G_check_at_most := ok_atmost (P := P) (w := w) (base := base) T
  have G_check_numbers := ok_checknumsA (P := P) (w := w) (base := base) T
  have G_without_end_zeros := ok_noends (P := P) (w := w) (base := base) T
  refine Vb.okN T.d_Poly___init__.F sc_Poly___init__ (fun vs H Q E h => ?_) (fun cdv A outer s H vs Q E hr h => ?_)
  · obtain ⟨a, dx, r, p, ns, rfl, _⟩ := h
    rfl
  · obtain ⟨a, dx, r, p, ns, rfl, ha, hp, hw, hn, q1, q2⟩ := h
    refine ⟨_, (pss_cons (ps_expr (pe_callS G_check_prime (hr.mono (by first | decide | omega)) (by rfl) T.d_check_prime.g T.d_check_prime.F.kp T.d_check_prime.b (fun σ => L2N.passAt (L2N.takes_of rfl rfl rfl rfl) σ) (pa_cons (pv 1) pa_nil)))
      (pss_cons (ps_expr (pe_callS G_check_at_most (hr.mono (by first | decide | omega)) (by rfl) T.d_check_at_most.g T.d_check_at_most.F.kp T.d_check_at_most.b (fun σ => L2N.passAt (L2N.takes_of rfl rfl rfl rfl) σ) (pa_cons (pv 2) (pa_cons (pe_glob (v := .int 128) (by rfl) T.c_MAX_COEFFICIENTS ⟨_, rfl⟩) pa_nil))))
      (pss_cons (ps_expr (pe_callS G_check_numbers (hr.mono (by first | decide | omega)) (by rfl) T.d_check_numbers.g T.d_check_numbers.F.kp T.d_check_numbers.b (fun σ => L2N.passAt (L2N.takes_of rfl rfl rfl rfl) σ) (pa_cons (pv 1) (pa_cons (pv 2) pa_nil))))
      (pss_cons (ps_fld (pv 0) (pv 1) rfl)
      (pss_one (ps_fld (pv 0) (pe_callS G_without_end_zeros (hr.mono (by first | decide | omega)) (by rfl) T.d_without_end_zeros.g T.d_without_end_zeros.F.kp T.d_without_end_zeros.b (fun σ => L2N.passAt (L2N.takes_of rfl rfl rfl rfl) σ) (pa_cons (pv 2) pa_nil)) rfl)))))), ?_⟩
    (change (_ : L2.TS) _ ([some (.ref a), some (.int p), some (.ref r)] : L2.St) _); try dsimp only [L2.cxOf, L2H.cxH]
    have hl : (ns.map V.int).length = ns.length := List.length_map ..
    walk_at "rd"
    refine ⟨_, _, rfl, .int p, fun _ => ?_, fun z => by rw [field_yes hp.1 hp.2] at z; cases z⟩
    walk_at "rd"
    refine ⟨r, _, 128, rfl, hw, fun h8 => ?_, fun h8 => q2 (by omega)⟩
    walk_at "rd"
    refine ⟨p, r, ns, rfl, hw, hn, ?_⟩
    walk_at "rd"
    refine ⟨a, T.C_Poly, dx, [], rfl, ha, T.c_Poly, T.a_Poly_prime, by decide, ?_⟩
    walk_at "rd"
    have hw2 : Vb.SqA K (upd H a (.ins T.C_Poly dx (putF "prime" (.int p) []))) r (ns.map V.int) := hw.elim (fun h => .inl (sqL_upd h ha)) (fun h => .inr (Vb.sqT_upd h ha))
    refine ⟨r, ns, rfl, hw2, fun t H2 e2 h2 => ?_⟩
    walk_at "rd"
    have ha2 := e2 _ _ upd_same
    refine ⟨a, T.C_Poly, dx, [("prime", .int p)], rfl, ha2, T.c_Poly, T.a_Poly_coefficients, (by show 1 < 1000; decide), ?_⟩
    exact q1 (by omega) _ t (fun b o n h => Vb.h_ne n (e2 _ _ (Vb.h_ne n h))) upd_same (Vb.sqT_upd h2 ha2)
end
end K
namespace K
open PySem PySem.Spec PyProof.Rows L2
abbrev N_check_field : List Str := ["prime", "thing"]
theorem sc_check_field : FnScope N_check_field ["prime", "thing"] (defScope s_check_field) := ⟨rfl, rfl, rfl, by decide +kernel, rfl, by decide +kernel, by decide +kernel⟩
section
variable {P : Program} {w : World} {K : PySem.W.Frag} {mg : Str → Option Value} {base : Heap}
def sp_checkfield (K : PySem.W.Frag) (C N : Addr) : Sp := fun vs H Q E => ∃ (b : Addr) (p r : Int) (cs : List Int), vs = [.int p, .ref b] ∧ PolyAt K C H b r cs ∧ (p = r → Q .non H) ∧ (p ≠ r → E (.ref N) none H)
theorem ok_checkfield (T : Txt K mg) : FnOk P w K mg base (L2N.CX P w) 1 T.f_check_field T.fd_check_field ["prime", "thing"] (sp_checkfield K T.C_Poly T.C_OtherField) := by
  refine Vb.okN T.d_check_field.F sc_check_field (fun vs H Q E h => ?_) (fun cdv A outer s H vs Q E hr h => ?_)
  · obtain ⟨b, p, r, cs, rfl, _⟩ := h
    rfl
  · obtain ⟨b, p, r, cs, rfl, ⟨⟨dx, t, hb, ht⟩, h3, h4, h5, h6⟩, q1, q2⟩ := h
    have cP := T.c_Poly
    have aP : NoAttr K T.C_Poly "prime" := T.a_Poly_prime
    have aC : NoAttr K T.C_Poly "coefficients" := T.a_Poly_coefficients
    refine ⟨_, (pss_one (ps_if (pt_cmpR op_ne (pe_fld (pv 1) (by rfl)) (pv 0) (nomark _)) (pss_one (L2N.ps_raise rfl (L2N.takes_of rfl rfl rfl rfl) (Vb.pmk0 T.x_OtherField rfl))) pss_nil)), ?_⟩
    (change (_ : L2.TS) _ ([some (.int p), some (.ref b)] : L2.St) _); try dsimp only [L2.cxOf, L2H.cxH]
    walk_at "rd"
    refine Vb.r_iteN (fun c => ?_) (fun c => ?_)
    · exact q2 (fun z => c z.symm)
    · walk_at "rd"
      exact q1 c.symm
end
end K
namespace K
open PySem PySem.Spec PyProof.Rows L2

abbrev N_added_up : List Str := ["poly", "other", "sign", "size", "sums", "power", "coefficient"]
theorem sc_added_up : FnScope N_added_up ["poly", "other", "sign"] (defScope s_added_up) := ⟨rfl, rfl, rfl, by decide +kernel, rfl, by decide +kernel, by decide +kernel⟩
section
variable {P : Program} {w : World} {K : PySem.W.Frag} {mg : Str → Option Value} {base : Heap}
theorem co_set {zs : List Int} {i : Nat} {x : Int} (h : i < zs.length) (k : Nat) : co (zs.set i x) k = if k = i then x else co zs k := by
  unfold co
  rw [List.getD_eq_getElem?_getD, List.getD_eq_getElem?_getD, List.getElem?_set]
  by_cases e : i = k
  · subst e
    rw [if_pos rfl, if_pos h, if_pos rfl]
    rfl
  · rw [if_neg e, if_neg (Ne.symm e)]
theorem map_set (zs : List Int) (i : Nat) (x : Int) : (zs.map V.int).set i (.int x) = (zs.set i x).map V.int := List.map_set.symm
theorem co_zeros (n k : Nat) : co (List.replicate n (0 : Int)) k = 0 := by
  by_cases h : k < n
  · have := co_in (xs := List.replicate n (0 : Int)) (k := k) (by rw [List.length_replicate]; exact h)
    rw [List.getElem?_replicate, if_pos h] at this
    exact (Option.some.inj this).symm
  · exact co_out (by rw [List.length_replicate]; omega)
def sp_added (K : PySem.W.Frag) (C N : Addr) : Sp := fun vs H Q E => ∃ (a b : Addr) (p r s : Int) (cs ds : List Int), vs = [.ref a, .ref b, .int s] ∧ PolyAt K C H a p cs ∧ PolyAt K C H b r ds ∧ (s = 1 ∨ s = -1) ∧
  (p = r → ∀ x H' es, H x = none → Same H H' → PolyAt K C H' x p es → (∀ k, co es k = (co cs k + s * co ds k) % p) → Q (.ref x) H') ∧ (p ≠ r → E (.ref N) none H)
theorem ok_added (T : Txt K mg) : FnOk P w K mg base (L2N.CX P w) 7 T.f_added_up T.fd_added_up ["poly", "other", "sign"] (sp_added K T.C_Poly T.C_OtherField) := by
  have G_check_field := ok_checkfield (P := P) (w := w) (base := base) T
  have G_Poly___init__ := ok_pinit (P := P) (w := w) (base := base) T
  refine Vb.okN T.d_added_up.F sc_added_up (fun vs H Q E h => ?_) (fun cdv A outer s H vs Q E hr h => ?_)
  · obtain ⟨a, b, p, r, s, cs, ds, rfl, _⟩ := h
    rfl
  · obtain ⟨a, b, p, r, s, cs, ds, rfl, va, vb, hs, q1, q2⟩ := h
    obtain ⟨dx, t, ha, ht⟩ := va.o
    obtain ⟨dy, u, hb, hu⟩ := vb.o
    have cP := T.c_Poly
    have aP : NoAttr K T.C_Poly "prime" := T.a_Poly_prime
    have aC : NoAttr K T.C_Poly "coefficients" := T.a_Poly_coefficients
    refine ⟨_, (pss_cons (ps_expr (pe_callS G_check_field (hr.mono (by first | decide | omega)) (by rfl) T.d_check_field.g T.d_check_field.F.kp T.d_check_field.b (fun σ => L2N.passAt (L2N.takes_of rfl rfl rfl rfl) σ) (pa_cons (pe_fld (pv 0) (by rfl)) (pa_cons (pv 1) pa_nil))))
      (pss_cons (ps_set (i := 3) sc_added_up.nd rfl (by first | exact Or.inl rfl | exact Or.inr rfl) (pe_callB (Vb.call_max2 rfl) (by rfl) T.n_max (by decide +kernel) (pa_cons (pe_callB Vb.call_len (by rfl) T.n_len (by decide +kernel) (pa_cons (pe_fld (pv 0) (by rfl)) pa_nil)) (pa_cons (pe_callB Vb.call_len (by rfl) T.n_len (by decide +kernel) (pa_cons (pe_fld (pv 1) (by rfl)) pa_nil)) pa_nil))))
      (pss_cons (ps_set (i := 4) sc_added_up.nd rfl (by first | exact Or.inl rfl | exact Or.inr rfl) (pe_op op_rep (pe_lst (pa_cons pe_int pa_nil)) (pv 3)))
      (pss_cons (ps_for (L2.passes_of rfl) rfl (Vb.pi_enumT (by rfl) T.n_enumerate (pa_cons (pe_fld (pv 0) (by rfl)) pa_nil)) (pg_tup (n := 2) rfl (pgs_cons (pg_name (i := 5) sc_added_up.nd rfl (by first | exact Or.inl rfl | exact Or.inr rfl)) (pgs_cons (pg_name (i := 6) sc_added_up.nd rfl (by first | exact Or.inl rfl | exact Or.inr rfl)) pgs_nil)))
        (pss_one (ps_asg (pv 6) (pg_sub (pv 4) (pv 5) set_list))))
      (pss_cons (ps_for (L2.passes_of rfl) rfl (Vb.pi_enumT (by rfl) T.n_enumerate (pa_cons (pe_fld (pv 1) (by rfl)) pa_nil)) (pg_tup (n := 2) rfl (pgs_cons (pg_name (i := 5) sc_added_up.nd rfl (by first | exact Or.inl rfl | exact Or.inr rfl)) (pgs_cons (pg_name (i := 6) sc_added_up.nd rfl (by first | exact Or.inl rfl | exact Or.inr rfl)) pgs_nil)))
        (pss_one (ps_asg (pe_op op_mod (pe_op op_add (pe_ix ix_list (pv 4) (pv 5) (fun _ _ => rfl)) (pe_op op_mul (pv 2) (pv 6))) (pe_fld (pv 0) (by rfl))) (pg_sub (pv 4) (pv 5) set_list))))
      (pss_one (ps_ret (Vb.pe_makeP T.mk_Poly G_Poly___init__ (hr.mono (by first | decide | omega)) (by rfl) T.g_Poly T.d_Poly___init__.b (fun σ => L2N.passAt (L2N.takes_of rfl rfl rfl rfl) σ) (pa_cons (pe_fld (pv 0) (by rfl)) (pa_cons (pv 4) pa_nil)))))))))), ?_⟩
    (change (_ : L2.TS) _ ([some (.ref a), some (.ref b), some (.int s), none, none, none, none] : L2.St) _); try dsimp only [L2.cxOf, L2H.cxH]
    walk_at "rd"
    refine ⟨b, p, r, ds, rfl, vb, fun e => ?_, q2⟩
    subst e
    have hp2 := va.two
    have hs2 : -1 ≤ s ∧ s ≤ 1 := by omega
    have l1 := va.ln
    have l2 := vb.ln
    walk_at "rd"
    refine ⟨Vb.size_ok (by show 1 ≤ 16777216; decide), fun l0 n0 => ?_⟩
    walk_at "rd"
    obtain ⟨N, hN, m1, m2, m3⟩ : ∃ N : Nat, (if ((ds.map V.int).length : Int) > ((cs.map V.int).length : Int) then ((ds.map V.int).length : Int) else ((cs.map V.int).length : Int)) = (N : Int) ∧ cs.length ≤ N ∧ ds.length ≤ N ∧ N ≤ 128 := by
      rw [List.length_map, List.length_map]
      split
      · exact ⟨ds.length, rfl, by omega, Nat.le_refl _, l2⟩
      · exact ⟨cs.length, rfl, Nat.le_refl _, by omega, l1⟩
    rw [hN]
    refine Vb.r_repL upd_same ⟨by omega, by omega⟩ (Vb.size_ok (by show 1 * (N : Int).toNat ≤ 16777216; omega)) fun D nD => ?_
    have hrep : (List.replicate (N : Int).toNat [V.int 0]).flatten = (List.replicate N (0 : Int)).map V.int := by simp
    rw [hrep]
    have nDH : H D = none := (Vb.same_new n0).free nD
    have E0 : Same H (upd (upd H l0 (.lst [.int 0])) D (.lst ((List.replicate N (0 : Int)).map V.int))) := (Vb.same_new n0).trans (Vb.same_new nD)
    have hD0 : (upd (upd H l0 (.lst [.int 0])) D (.lst ((List.replicate N (0 : Int)).map V.int))) D = some (.lst ((List.replicate N (0 : Int)).map V.int)) := upd_same
    generalize upd (upd H l0 _) D _ = H0 at E0 hD0 ⊢
    have ha0 := E0 _ _ ha
    walk_at "rd"
    refine ⟨t, cs.map V.int, rfl, Vb.sqT_same E0 ht, ?_⟩
    refine Vb.lp_enumT (fun i σ H' => ∃ (zs : List Int) (y5 y6 : Option V), Same H H' ∧ H' D = some (.lst (zs.map V.int)) ∧ zs.length = N ∧ (∀ k, co zs k = if k < i then co cs k else 0) ∧ σ = [some (.ref a), some (.ref b), some (.int s), some (.int N), some (.ref D), y5, y6]) ⟨List.replicate N 0, _, _, E0, hD0, List.length_replicate .., fun k => by rw [co_zeros, if_neg (Nat.not_lt_zero _)], rfl⟩ (fun i σ H' _ c => by obtain ⟨_, _, _, e, _⟩ := c; exact Vb.sqT_same e ht) ?_ ?_
    · rintro i x σ H' W hx ⟨zs, y5, y6, e1, hD, hz, hc, rfl⟩ nW
      obtain ⟨c, hc1, rfl⟩ := Vb.getV' hx
      have hi : i < cs.length := (List.getElem?_eq_some_iff.mp hc1).1
      have hci : co cs i = c := by
        rw [co_in hi] at hc1
        exact Option.some.inj hc1
      refine Vb.r_gT2 (Vb.st_of upd_same) ?_
      walk_at "rd"
      refine Vb.r_setL (Vb.h_new nW hD) (Vb.ix_nat i rfl (by rw [List.length_map]; omega)) ?_
      refine ⟨zs.set i c, _, _, Vb.same_mut (e1.trans (Vb.same_new nW)) nDH, by rw [upd_same, map_set], by rw [List.length_set]; exact hz, fun k => ?_, rfl⟩
      rw [co_set (by omega), hc k]
      by_cases e : k = i
      · subst e
        rw [if_pos rfl, if_pos (Nat.lt_succ_self _), hci]
      · rw [if_neg e]
        by_cases e2 : k < i
        · rw [if_pos e2, if_pos (by omega)]
        · rw [if_neg e2, if_neg (by omega)]
    · rintro σ H1 ⟨zs, y5, y6, e1, hD, hz, hc, rfl⟩
      have hc' : ∀ k, co zs k = co cs k := fun k => by
        rw [hc k, List.length_map]
        split
        · rfl
        · exact (co_out (by omega)).symm
      clear hc hD0 ha0 E0
      have hb1 := e1 _ _ hb
      walk_at "rd"
      refine ⟨u, ds.map V.int, rfl, Vb.sqT_same e1 hu, ?_⟩
      refine Vb.lp_enumT (fun i σ H' => ∃ (zs : List Int) (y5 y6 : Option V), Same H H' ∧ H' D = some (.lst (zs.map V.int)) ∧ zs.length = N ∧ (∀ k, co zs k = if k < i then (co cs k + s * co ds k) % p else co cs k) ∧ σ = [some (.ref a), some (.ref b), some (.int s), some (.int N), some (.ref D), y5, y6]) ⟨zs, _, _, e1, hD, hz, fun k => by rw [hc' k, if_neg (Nat.not_lt_zero _)], rfl⟩ (fun i σ H' _ c => by obtain ⟨_, _, _, e, _⟩ := c; exact Vb.sqT_same e hu) ?_ ?_
      · rintro i x σ H' W hx ⟨zs, y5, y6, e1, hD, hz, hc, rfl⟩ nW
        obtain ⟨c, hc1, rfl⟩ := Vb.getV' hx
        have hi : i < ds.length := (List.getElem?_eq_some_iff.mp hc1).1
        have hci : co ds i = c := by
          rw [co_in hi] at hc1
          exact Option.some.inj hc1
        have bc := vb.cb i
        rw [hci] at bc
        have ha1 : (upd H' W (.tup [.int (i : Nat), .int c])) a = some (.ins T.C_Poly dx [("prime", .int p), ("coefficients", .ref t)]) := Vb.h_new nW (e1 _ _ ha)
        refine Vb.r_gT2 (Vb.st_of upd_same) ?_
        walk_at "rd"
        refine Vb.r_ixL (Vb.sq_of (Vb.h_new nW hD)) (Vb.at_lit i rfl (co_map (by omega))) ?_
        walk_at "rd"
        refine Vb.r_setL (Vb.h_new nW hD) (Vb.ix_nat i rfl (by rw [List.length_map]; omega)) ?_
        refine ⟨zs.set i ((co zs i + s * c) % p), _, _, Vb.same_mut (e1.trans (Vb.same_new nW)) nDH, by rw [upd_same, map_set], by rw [List.length_set]; exact hz, fun k => ?_, rfl⟩
        rw [co_set (by omega), hc k]
        by_cases e : k = i
        · subst e
          rw [if_pos rfl, if_pos (Nat.lt_succ_self _), hc k, if_neg (Nat.lt_irrefl _), hci]
        · rw [if_neg e]
          by_cases e2 : k < i
          · rw [if_pos e2, if_pos (by omega)]
          · rw [if_neg e2, if_neg (by omega)]
      · rintro σ H2 ⟨zs, y5, y6, e2, hD, hz, hc, rfl⟩
        have hc2 : ∀ k, co zs k = (co cs k + s * co ds k) % p := fun k => by
          rw [hc k, List.length_map]
          split
          · rfl
          · rw [co_out (xs := ds) (by omega), Int.mul_zero, Int.add_zero]
            have := va.cb k
            exact (Int.emod_eq_of_lt this.1 this.2).symm
        have ha2 := e2 _ _ ha
        walk_at "rd"
        refine use_mkpoly va.pr (.inl (Vb.sq_of hD)) (fun c m => ?_) (fun hl x H3 nx e3 vx => ?_) (fun hl => absurd hl (by omega))
        · obtain ⟨k, hk⟩ := List.getElem?_of_mem m
          have h1 := (List.getElem?_eq_some_iff.mp hk).1
          rw [co_in h1] at hk
          rw [← Option.some.inj hk, hc2 k]
          exact ⟨Int.emod_nonneg _ (by omega), Int.emod_lt_of_pos _ (by omega)⟩
        · exact q1 rfl x H3 (trim zs) (e2.free nx) (e2.trans e3) vx (fun k => by rw [co_trim, hc2 k])
end
end K
namespace K
open PySem PySem.Spec PyProof.Rows L2
section
theorem shaped_ints (ns : List Int) : SeqAt.shaped (.tuple (ns.map PyData.int)) = true := by
  simp [SeqAt.shaped, PyData.canLay0, PyData.canLayAll0, PyData.depth, PyData.depthAll, PySem.W.ke_canLayAll0, PySem.W.ke_depthAll]
theorem eqv_ints (ns ms : List Int) : PyData.eqv (.tuple (ns.map PyData.int)) (.tuple (ms.map PyData.int)) = decide (ns = ms) := by
  simp only [PyData.eqv]
  exact PySem.W.ked_eqvAll ns ms
end
end K
namespace K
open PySem PySem.Spec PyProof.Rows L2
section
/-- the row moved up by i places -/
def sh (ys : List Int) (i k : Nat) : Int := if i ≤ k then co ys (k - i) else 0
theorem su_ind (m : Nat) (c : Int) (ys : List Int) (i k : Nat) (h : ys.length ≤ m) : (su m fun j => if i + j = k then c * co ys j else 0) = c * sh ys i k := by
  unfold sh
  by_cases hik : i ≤ k
  · rw [if_pos hik]
    by_cases hm : k - i < m
    · have e : (fun j => if i + j = k then c * co ys j else 0) = fun j => if j = k - i then c * co ys (k - i) else 0 := by
        funext j
        by_cases hj : j = k - i
        · rw [if_pos (by omega), if_pos hj, hj]
        · rw [if_neg (by omega), if_neg hj]
      rw [e, su_one hm]
    · rw [co_out (by omega), Int.mul_zero]
      rw [su_congr (g := fun _ => 0) (fun j hj => by rw [if_neg (by omega)]), su_zero]
  · rw [if_neg hik, Int.mul_zero, su_congr (g := fun _ => 0) (fun j hj => by rw [if_neg (by omega)]), su_zero]
theorem cv_rows (xs ys : List Int) (k : Nat) : cv xs ys k = su xs.length fun i => co xs i * sh ys i k := by
  unfold cv
  exact su_congr fun i _ => su_ind _ _ _ _ _ (Nat.le_refl _)
theorem su_set {n i : Nat} {f g : Nat → Int} (hi : i < n) (h : ∀ j, j ≠ i → f j = g j) : su n f = su n g + (f i - g i) := by
  have e : f = fun j => g j + if j = i then f i - g i else 0 := by
    funext j
    by_cases hj : j = i
    · rw [if_pos hj, hj]; omega
    · rw [if_neg hj, h j hj]; omega
  have e2 : su n f = su n (fun j => g j + if j = i then f i - g i else 0) := congrArg (su n) e
  rw [e2, su_add, su_one hi]
theorem cv_set {zs : List Int} {i : Nat} {x : Int} (hi : i < zs.length) (h0 : co zs i = 0) (ys : List Int) (k : Nat) : cv (zs.set i x) ys k = cv zs ys k + x * sh ys i k := by
  rw [cv_rows, cv_rows, List.length_set, su_set hi (g := fun j => co zs j * sh ys j k) (fun j hj => by rw [co_set hi, if_neg hj])]
  rw [co_set hi, if_pos rfl, h0]
  omega
theorem sh_in {ys : List Int} {i k : Nat} (h : i ≤ k) : sh ys i k = co ys (k - i) := if_pos h
theorem sh_low {ys : List Int} {i k : Nat} (h : k < i) : sh ys i k = 0 := if_neg (by omega)
/-- what the division's loop keeps, places from s on done -/
structure DivAt (p : Int) (cs ds qs rs : List Int) (s : Nat) : Prop where
  lq : qs.length = cs.length
  lr : rs.length = cs.length
  bq : ∀ c ∈ qs, 0 ≤ c ∧ c < p
  br : ∀ c ∈ rs, 0 ≤ c ∧ c < p
  q0 : ∀ k, k < s → co qs k = 0
  r0 : ∀ k, s + ds.length - 1 ≤ k → co rs k = 0
  eq : ∀ k, (co cs k - (cv qs ds k + co rs k)) % p = 0
theorem mem_co {xs : List Int} {c : Int} (h : c ∈ xs) : ∃ k, k < xs.length ∧ co xs k = c := by
  obtain ⟨k, hk, e⟩ := List.mem_iff_getElem.mp h
  have := co_in hk
  rw [List.getElem?_eq_getElem hk] at this
  exact ⟨k, hk, (Option.some.inj this).symm.trans e⟩
theorem co_mem {xs : List Int} {k : Nat} (h : k < xs.length) : co xs k ∈ xs := List.mem_of_getElem? (co_in h)
/-- one row taken away -/
theorem DivAt.step {p x inv : Int} {cs ds qs rs us : List Int} {s : Nat} (hp : 2 ≤ p) (D : DivAt p cs ds qs rs (s + 1)) (hs : s + ds.length ≤ cs.length) (hd : 0 < ds.length) (hinv : (co ds (ds.length - 1) * inv) % p = 1) (hx : x = co rs (s + ds.length - 1) * inv % p)
    (hu : us.length = rs.length) (hk : ∀ k, co us k = if s ≤ k ∧ k < s + ds.length then (co rs k - x * co ds (k - s)) % p else co rs k) : DivAt p cs ds (qs.set s x) us s := by
  have x0 : 0 ≤ x ∧ x < p := by rw [hx]; exact ⟨Int.emod_nonneg _ (by omega), Int.emod_lt_of_pos _ (by omega)⟩
  have top : (co rs (s + ds.length - 1) - x * co ds (ds.length - 1)) % p = 0 := by
    have e : x * co ds (ds.length - 1) % p = co rs (s + ds.length - 1) % p := by
      rw [hx, Int.mul_emod, Int.emod_emod_of_dvd _ (Int.dvd_refl p), ← Int.mul_emod, Int.mul_assoc, Int.mul_comm inv, Int.mul_emod, hinv, Int.mul_one, Int.emod_emod_of_dvd _ (Int.dvd_refl p)]
    rw [Int.sub_emod, e, ← Int.sub_emod]
    simp
  refine ⟨by rw [List.length_set]; exact D.lq, hu.trans D.lr, fun c m => ?_, fun c m => ?_, fun k hks => ?_, fun k hks => ?_, fun k => ?_⟩
  · obtain ⟨k, h1, rfl⟩ := mem_co m
    rw [List.length_set] at h1
    rw [co_set (by rw [D.lq]; omega)]
    split
    · exact x0
    · exact D.bq _ (co_mem h1)
  · obtain ⟨k, h1, rfl⟩ := mem_co m
    rw [hk]
    split
    · exact ⟨Int.emod_nonneg _ (by omega), Int.emod_lt_of_pos _ (by omega)⟩
    · exact D.br _ (co_mem (by omega))
  · rw [co_set (by rw [D.lq]; omega), if_neg (by omega)]
    exact D.q0 k (by omega)
  · rw [hk]
    by_cases e : k = s + ds.length - 1
    · rw [if_pos (by omega), e, show s + ds.length - 1 - s = ds.length - 1 by omega]
      exact top
    · rw [if_neg (by omega)]
      exact D.r0 k (by omega)
  · have h := D.eq k
    rw [cv_set (by rw [D.lq]; omega) (D.q0 s (by omega)), hk]
    by_cases hin : s ≤ k ∧ k < s + ds.length
    · rw [if_pos hin, sh_in hin.1]
      rw [show co cs k - (cv qs ds k + x * co ds (k - s) + (co rs k - x * co ds (k - s)) % p) = (co cs k - (cv qs ds k + x * co ds (k - s))) - (co rs k - x * co ds (k - s)) % p by omega, Int.sub_emod, Int.emod_emod_of_dvd _ (Int.dvd_refl p), ← Int.sub_emod]
      rw [show co cs k - (cv qs ds k + x * co ds (k - s)) - (co rs k - x * co ds (k - s)) = co cs k - (cv qs ds k + co rs k) by omega]
      exact h
    · rw [if_neg hin]
      have z : sh ds s k = 0 := by
        by_cases hsk : s ≤ k
        · rw [sh_in hsk, co_out (by omega)]
        · exact sh_low (by omega)
      rw [z, Int.mul_zero, Int.add_zero]
      exact h
theorem DivAt.start {p : Int} {cs : List Int} (ds : List Int) (h : ∀ c ∈ cs, 0 ≤ c ∧ c < p) (hp : 2 ≤ p) (hd : 0 < ds.length) : DivAt p cs ds (List.replicate cs.length 0) cs (cs.length + 1 - ds.length) := by
  refine ⟨List.length_replicate, rfl, fun c m => ?_, h, fun k _ => co_zeros _ _, fun k hk => co_out (by omega), fun k => ?_⟩
  · rw [List.eq_of_mem_replicate m]
    omega
  · rw [cv_rows, su_congr (g := fun _ => 0) (fun i _ => by rw [co_zeros, Int.zero_mul]), su_zero]
    simp
/-- division with remainder is unique -/
theorem div_unique {p : Int} {ds q1 r1 q2 r2 : List Int} (hp : Vb.Prm p ∧ p ≤ 101) (td : trim ds = ds) (hd : ds ≠ []) (bd : ∀ k, 0 ≤ co ds k ∧ co ds k < p) (b1 : ∀ k, 0 ≤ co q1 k ∧ co q1 k < p) (b2 : ∀ k, 0 ≤ co q2 k ∧ co q2 k < p) (c1 : ∀ k, 0 ≤ co r1 k ∧ co r1 k < p) (c2 : ∀ k, 0 ≤ co r2 k ∧ co r2 k < p)
    (s1 : ∀ k, ds.length ≤ k + 1 → co r1 k = 0) (s2 : ∀ k, ds.length ≤ k + 1 → co r2 k = 0) (e : ∀ k, ((cv q1 ds k + co r1 k) - (cv q2 ds k + co r2 k)) % p = 0) : (∀ k, co q1 k = co q2 k) ∧ ∀ k, co r1 k = co r2 k := by
  have h2 := hp.1.1
  -- the difference of the quotients
  obtain ⟨n, hn1, hn2⟩ : ∃ n, q1.length ≤ n ∧ q2.length ≤ n := ⟨max q1.length q2.length, Nat.le_max_left .., Nat.le_max_right ..⟩
  obtain ⟨zs, hz⟩ : ∃ zs : List Int, ∀ k, co zs k = (co q1 k - co q2 k) % p := by
    refine ⟨(List.range n).map fun k => (co q1 k - co q2 k) % p, fun k => ?_⟩
    by_cases hk : k < n
    · have := co_in (xs := (List.range n).map fun k => (co q1 k - co q2 k) % p) (k := k) (by rw [List.length_map, List.length_range]; exact hk)
      rw [List.getElem?_map, List.getElem?_range hk] at this
      exact (Option.some.inj this).symm
    · rw [co_out (by rw [List.length_map, List.length_range]; omega), co_out (xs := q1) (by omega), co_out (xs := q2) (by omega)]
      simp
  have hcv : ∀ k, (cv zs ds k - (cv q1 ds k - cv q2 ds k)) % p = 0 := fun k => by
    have l1 : cv zs ds k = su (n + zs.length) fun i => co zs i * sh ds i k := by
      rw [cv_rows]
      exact (su_more (by omega) fun i hi => by rw [co_out hi, Int.zero_mul]).symm
    have l2 : cv q1 ds k = su (n + zs.length) fun i => co q1 i * sh ds i k := by
      rw [cv_rows]
      exact (su_more (by omega) fun i hi => by rw [co_out hi, Int.zero_mul]).symm
    have l3 : cv q2 ds k = su (n + zs.length) fun i => co q2 i * sh ds i k := by
      rw [cv_rows]
      exact (su_more (by omega) fun i hi => by rw [co_out hi, Int.zero_mul]).symm
    have l4 : cv zs ds k - (cv q1 ds k - cv q2 ds k) = su (n + zs.length) fun i => (co zs i - (co q1 i - co q2 i)) * sh ds i k := by
      rw [l1, l2, l3]
      have a1 : (fun i => (co zs i - (co q1 i - co q2 i)) * sh ds i k) = fun i => co zs i * sh ds i k + (-1 * (co q1 i * sh ds i k) + co q2 i * sh ds i k) := by
        funext i
        rw [Int.sub_mul, Int.sub_mul]
        omega
      rw [a1, su_add, su_add, su_mul]
      omega
    rw [l4, ← su_emod, su_congr (g := fun _ => 0) (fun i _ => ?_), su_zero]
    · simp
    · rw [Int.mul_emod, hz, Int.emod_sub_emod, Int.sub_self]
      simp
  have hzb : ∀ k, 0 ≤ co zs k ∧ co zs k < p := fun k => by
    rw [hz]
    exact ⟨Int.emod_nonneg _ (by omega), Int.emod_lt_of_pos _ (by omega)⟩
  have none : trim zs = [] := by
    by_cases hne : trim zs = []
    · exact hne
    exfalso
    have t := trim_last zs hne
    have l1 := List.length_pos_iff.mpr hne
    have l2 := List.length_pos_iff.mpr hd
    have top := cv_top hne hd
    rw [cv_ext (co_trim zs) (fun _ => rfl)] at top
    have t2 := trim_last ds (by rw [td]; exact hd)
    rw [td] at t2
    have bz := hzb ((trim zs).length - 1)
    rw [← co_trim] at bz
    have b2 := bd (ds.length - 1)
    have k1 := nozero hp.1 hp.2 (a := co (trim zs) ((trim zs).length - 1)) (b := co ds (ds.length - 1)) ⟨by omega, bz.2⟩ ⟨by omega, b2.2⟩
    have k2 := hcv ((trim zs).length - 1 + (ds.length - 1))
    have k3 := e ((trim zs).length - 1 + (ds.length - 1))
    rw [s1 _ (by omega), s2 _ (by omega), Int.add_zero, Int.add_zero] at k3
    rw [top] at k2
    apply k1
    have k4 := Int.add_emod (co (trim zs) ((trim zs).length - 1) * co ds (ds.length - 1) - (cv q1 ds ((trim zs).length - 1 + (ds.length - 1)) - cv q2 ds ((trim zs).length - 1 + (ds.length - 1)))) (cv q1 ds ((trim zs).length - 1 + (ds.length - 1)) - cv q2 ds ((trim zs).length - 1 + (ds.length - 1))) p
    rw [k2, k3] at k4
    rw [Int.sub_add_cancel] at k4
    exact k4
  have qs : ∀ k, co q1 k = co q2 k := fun k => by
    have h := hz k
    rw [← co_trim, none, co_nil] at h
    have a := b1 k
    have b := b2 k
    have d := Int.emod_emod_of_dvd (co q1 k - co q2 k) (Int.dvd_refl p)
    have : (co q1 k - co q2 k) % p = 0 := h.symm
    have f1 := (Int.emod_emod_of_dvd (co q1 k) (Int.dvd_refl p))
    obtain ⟨c, hc⟩ := Int.dvd_of_emod_eq_zero this
    have : c = 0 := by
      by_cases c0 : c = 0
      · exact c0
      exfalso
      rcases Int.lt_or_gt_of_ne c0 with h1 | h1
      · have := Int.mul_le_mul_of_nonneg_left (show c ≤ -1 by omega) (show 0 ≤ p by omega)
        omega
      · have := Int.mul_le_mul_of_nonneg_left (show 1 ≤ c by omega) (show 0 ≤ p by omega)
        omega
    rw [this, Int.mul_zero] at hc
    omega
  refine ⟨qs, fun k => ?_⟩
  have h := e k
  rw [cv_ext qs (fun _ => rfl)] at h
  have a := c1 k
  have b := c2 k
  obtain ⟨c, hc⟩ := Int.dvd_of_emod_eq_zero h
  have : c = 0 := by
    by_cases c0 : c = 0
    · exact c0
    exfalso
    rcases Int.lt_or_gt_of_ne c0 with h1 | h1
    · have := Int.mul_le_mul_of_nonneg_left (show c ≤ -1 by omega) (show 0 ≤ p by omega)
      omega
    · have := Int.mul_le_mul_of_nonneg_left (show 1 ≤ c by omega) (show 0 ≤ p by omega)
      omega
  rw [this, Int.mul_zero] at hc
  omega
theorem pinv_table : (List.range 102).all (fun p => !Vb.isP (p : Int) || (List.range p).all fun n => n == 0 || decide ((n : Int) * ((n : Int) ^ (p - 2) % (p : Int)) % (p : Int) = 1)) = true := by decide +kernel
theorem pinv {p n : Int} (hp : Vb.Prm p) (h1 : p ≤ 101) (h2 : 0 < n) (h3 : n < p) : n * (n ^ (p - 2).toNat % p) % p = 1 := by
  have h0 := hp.1
  have a := List.all_eq_true.mp pinv_table p.toNat (List.mem_range.mpr (by omega))
  rw [show ((p.toNat : Nat) : Int) = p by omega, (Vb.isP_iff p).mpr hp, Bool.not_true, Bool.false_or] at a
  have b := List.all_eq_true.mp a n.toNat (List.mem_range.mpr (by omega))
  rw [show ((n.toNat : Nat) : Int) = n by omega, show (n.toNat == 0) = false by rw [beq_eq_false_iff_ne]; omega, Bool.false_or, decide_eq_true_iff, show p.toNat - 2 = (p - 2).toNat by omega] at b
  exact b
end
end K
namespace K
open PySem PySem.Spec PyProof.Rows L2
section
/-- the product of X minus each number, as it is made: one number behind the other -/
inductive RP (p : Int) : List Int → List Int → Prop
  | nil : RP p [] [1]
  | snoc {ns zs us : List Int} {x : Int} : RP p ns zs → trim us = us → (∀ k, co us k = cv zs [-x % p, 1] k % p) → RP p (ns ++ [x]) us
theorem RP.len {p : Int} {ns zs : List Int} (r : RP p ns zs) : zs.length ≤ ns.length + 1 := by
  induction r with
  | nil => exact Nat.le_refl _
  | @snoc ns zs us x r t h ih =>
    rw [← t, List.length_append]
    refine trim_short fun k hk => ?_
    rw [h, cv_out (by show zs.length + 2 ≤ k + 1; have : ns.length + [x].length + 1 = ns.length + 2 := rfl; omega), Int.zero_emod]
theorem RP.tr {p : Int} {ns zs : List Int} (r : RP p ns zs) : trim zs = zs := by
  cases r with
  | nil => rfl
  | snoc r t h => exact t
theorem RP.cb {p : Int} (hp : 2 ≤ p) {ns zs : List Int} (r : RP p ns zs) (k : Nat) : 0 ≤ co zs k ∧ co zs k < p := by
  cases r with
  | nil =>
    match k with
    | 0 => exact ⟨by decide, by show (1 : Int) < p; omega⟩
    | k + 1 => rw [co_succ, co_nil]; omega
  | snoc r t h =>
    rw [h]
    exact ⟨Int.emod_nonneg _ (by omega), Int.emod_lt_of_pos _ (by omega)⟩
theorem RP.bd {p : Int} (hp : 2 ≤ p) {ns zs : List Int} (r : RP p ns zs) : ∀ c ∈ zs, 0 ≤ c ∧ c < p := fun c m => by
  obtain ⟨k, hk⟩ := List.getElem?_of_mem m
  have hk' := (List.getElem?_eq_some_iff.mp hk).1
  rw [co_in hk'] at hk
  rw [← Option.some.inj hk]
  exact r.cb hp k
theorem cv_two (zs : List Int) (a : Int) (k : Nat) : cv zs [a, 1] k = a * co zs k + (if 1 ≤ k then co zs (k - 1) else 0) := by
  rw [cv_comm, cv_rows]
  show su 2 (fun i => co [a, 1] i * sh zs i k) = _
  have e : su 2 (fun i => co [a, 1] i * sh zs i k) = 0 + a * sh zs 0 k + 1 * sh zs 1 k := rfl
  rw [e]
  unfold sh
  rw [if_pos (Nat.zero_le _), Nat.sub_zero]
  omega
/-- the highest coefficient is 1 -/
theorem RP.top {p : Int} (hp : 2 ≤ p) {ns zs : List Int} (r : RP p ns zs) : co zs ns.length = 1 := by
  induction r with
  | nil => rfl
  | @snoc ns zs us x r t h ih =>
    have l := r.len
    rw [h, List.length_append, cv_two, co_out (xs := zs) (by show zs.length ≤ ns.length + 1; omega), if_pos (by show 1 ≤ ns.length + 1; omega)]
    show (-x % p * 0 + co zs (ns.length + 1 - 1)) % p = 1
    rw [Nat.add_sub_cancel, ih, Int.mul_zero, Int.zero_add, Int.emod_eq_of_lt (by decide) (by omega)]
theorem RP.length {p : Int} (hp : 2 ≤ p) {ns zs : List Int} (r : RP p ns zs) : zs.length = ns.length + 1 := by
  have h1 := r.len
  have h2 := r.top hp
  by_cases h : zs.length ≤ ns.length
  · rw [co_out h] at h2
    cases h2
  · omega
/-- one factor, as a function -/
def rstep (p : Int) (zs : List Int) (x : Int) : List Int := trim ((List.range (zs.length + 2)).map fun k => cv zs [-x % p, 1] k % p)
theorem co_rstep (p : Int) (zs : List Int) (x : Int) (k : Nat) : co (rstep p zs x) k = cv zs [-x % p, 1] k % p := by
  unfold rstep
  rw [co_trim]
  by_cases hk : k < zs.length + 2
  · have := co_in (xs := (List.range (zs.length + 2)).map fun k => cv zs [-x % p, 1] k % p) (k := k) (by rw [List.length_map, List.length_range]; exact hk)
    rw [List.getElem?_map, List.getElem?_range hk] at this
    exact (Option.some.inj this).symm
  · rw [co_out (by rw [List.length_map, List.length_range]; omega), cv_out (by show zs.length + 2 ≤ k + 1; omega), Int.zero_emod]
theorem RP.fold {p : Int} {ns zs : List Int} (r : RP p ns zs) : zs = ns.foldl (rstep p) [1] := by
  induction r with
  | nil => rfl
  | @snoc ns zs us x r t h ih =>
    rw [List.foldl_append, ← ih]
    show us = rstep p zs x
    rw [← t, show rstep p zs x = trim (rstep p zs x) by unfold rstep; rw [trim_trim]]
    exact trim_ext _ _ fun k => by rw [h, co_rstep]
theorem rstep_comm (p : Int) (zs : List Int) (x y : Int) : rstep p (rstep p zs x) y = rstep p (rstep p zs y) x := by
  have e : ∀ us x, rstep p us x = trim (rstep p us x) := fun us x => by unfold rstep; rw [trim_trim]
  refine (e (rstep p zs x) y).trans (Eq.trans ?_ (e (rstep p zs y) x).symm)
  refine trim_ext _ _ fun k => ?_
  rw [co_rstep, co_rstep, cv_two, cv_two]
  have h : ∀ (a b : Int) (k : Nat), (-b % p * co (rstep p zs a) k + (if 1 ≤ k then co (rstep p zs a) (k - 1) else 0)) % p = (-b * (-a * co zs k + (if 1 ≤ k then co zs (k - 1) else 0)) + (if 1 ≤ k then (-a * co zs (k - 1) + (if 1 ≤ k - 1 then co zs (k - 1 - 1) else 0)) else 0)) % p := fun a b k => by
    have m1 : ∀ j, co (rstep p zs a) j % p = (-a * co zs j + (if 1 ≤ j then co zs (j - 1) else 0)) % p := fun j => by
      rw [co_rstep, Int.emod_emod_of_dvd _ (Int.dvd_refl p), cv_two, Int.add_emod, Int.mul_emod, Int.emod_emod_of_dvd _ (Int.dvd_refl p), ← Int.mul_emod, ← Int.add_emod]
    rw [Int.add_emod, Int.mul_emod, Int.emod_emod_of_dvd _ (Int.dvd_refl p), m1, ← Int.mul_emod]
    by_cases hk : 1 ≤ k
    · rw [if_pos hk, if_pos hk, if_pos hk, m1, ← Int.add_emod]
    · rw [if_neg hk, if_neg hk, if_neg hk, ← Int.add_emod]
  rw [h, h]
  congr 1
  by_cases hk : 1 ≤ k
  · rw [if_pos hk, if_pos hk, if_pos hk]
    generalize (if 1 ≤ k - 1 then co zs (k - 1 - 1) else 0) = u
    generalize co zs k = a
    generalize co zs (k - 1) = b
    have e1 : -y * (-x * a + b) = y * (x * a) - y * b := by simp only [Int.mul_add, Int.neg_mul, Int.mul_neg, Int.neg_neg]; omega
    have e2 : -x * (-y * a + b) = x * (y * a) - x * b := by simp only [Int.mul_add, Int.neg_mul, Int.mul_neg, Int.neg_neg]; omega
    rw [e1, e2, Int.mul_left_comm y x a, Int.neg_mul, Int.neg_mul]
    omega
  · rw [if_neg hk, if_neg hk, if_neg hk, Int.add_zero, Int.add_zero, Int.add_zero, Int.add_zero]
    simp only [Int.neg_mul, Int.mul_neg, Int.neg_neg]
    exact Int.mul_left_comm ..
theorem RP.perm {p : Int} {ns ms zs us : List Int} (r : RP p ns zs) (s : RP p ms us) (h : ns.Perm ms) : zs = us := by
  rw [r.fold, s.fold]
  exact h.foldl_eq' (fun x _ y _ zs => rstep_comm p zs x y) [1]
/-- its values -/
def rprod (x : Int) : List Int → Int
  | [] => 1
  | n :: ns => (x - n) * rprod x ns
theorem rprod_snoc (x n : Int) : ∀ ns : List Int, rprod x (ns ++ [n]) = rprod x ns * (x - n)
  | [] => by show (x - n) * 1 = 1 * (x - n); omega
  | m :: ns => by
    show (x - m) * rprod x (ns ++ [n]) = (x - m) * rprod x ns * (x - n)
    rw [rprod_snoc x n ns, Int.mul_assoc]
theorem ev_two (a x : Int) : ev [a, 1] x = a + x := by
  have : ev [a, 1] x = 0 + a * x ^ 0 + 1 * x ^ 1 := rfl
  rw [this, Int.pow_succ, Int.pow_zero]
  omega
theorem RP.ev_ {p : Int} {ns zs : List Int} (r : RP p ns zs) (x : Int) : ev zs x % p = rprod x ns % p := by
  induction r with
  | nil =>
    have : ev [1] x = 0 + 1 * x ^ 0 := rfl
    rw [this, Int.pow_zero]
    rfl
  | @snoc ns zs us y r t h ih =>
    have e : ev us x % p = (ev zs x * ev [-y % p, 1] x) % p := by
      have l := cv_ev zs [-y % p, 1] x (n := us.length + zs.length + 2) (by show zs.length + 2 ≤ _; omega)
      rw [← l, ev_long (n := us.length + zs.length + 2) (by omega), ← su_emod, ← su_emod (us.length + zs.length + 2) (fun k => cv zs [-y % p, 1] k * x ^ k)]
      congr 1
      refine su_congr fun k _ => ?_
      rw [h, Int.mul_emod, Int.emod_emod_of_dvd _ (Int.dvd_refl p), ← Int.mul_emod]
    rw [e, rprod_snoc, ev_two, Int.mul_emod, ih, ← Int.mul_emod]
    rw [Int.mul_emod, Int.add_emod, Int.emod_emod_of_dvd _ (Int.dvd_refl p), ← Int.add_emod, ← Int.mul_emod, show -y + x = x - y by omega]
theorem sub_mod_zero {p x y : Int} (hx : 0 ≤ x ∧ x < p) (hy : 0 ≤ y ∧ y < p) (h : (x - y) % p = 0) : x = y := by
  obtain ⟨c, hc⟩ := Int.dvd_of_emod_eq_zero h
  have : c = 0 := by
    by_cases c0 : c = 0
    · exact c0
    exfalso
    rcases Int.lt_or_gt_of_ne c0 with h1 | h1
    · have := Int.mul_le_mul_of_nonneg_left (show c ≤ -1 by omega) (show 0 ≤ p by omega)
      omega
    · have := Int.mul_le_mul_of_nonneg_left (show 1 ≤ c by omega) (show 0 ≤ p by omega)
      omega
  rw [this, Int.mul_zero] at hc
  omega
theorem mul_zero_mod {p a b : Int} (hp : Vb.Prm p ∧ p ≤ 101) (h : a * b % p = 0) : a % p = 0 ∨ b % p = 0 := by
  have h0 := hp.1.1
  by_cases ha : a % p = 0
  · exact .inl ha
  by_cases hb : b % p = 0
  · exact .inr hb
  exfalso
  have a1 := Int.emod_nonneg a (show p ≠ 0 by omega)
  have a2 := Int.emod_lt_of_pos a (show 0 < p by omega)
  have b1 := Int.emod_nonneg b (show p ≠ 0 by omega)
  have b2 := Int.emod_lt_of_pos b (show 0 < p by omega)
  refine nozero hp.1 hp.2 (a := a % p) (b := b % p) ⟨by omega, a2⟩ ⟨by omega, b2⟩ ?_
  rw [← Int.mul_emod]
  exact h
theorem rprod_zero {p x : Int} (hp : Vb.Prm p ∧ p ≤ 101) (hx : 0 ≤ x ∧ x < p) : ∀ ns : List Int, (∀ n ∈ ns, 0 ≤ n ∧ n < p) → (rprod x ns % p = 0 ↔ x ∈ ns)
  | [], _ => by
    have h0 := hp.1.1
    refine ⟨fun h => ?_, fun h => by cases h⟩
    have : (1 : Int) % p = 0 := h
    rw [Int.emod_eq_of_lt (by decide) (by omega)] at this
    cases this
  | n :: ns, hb => by
    have hn := hb n (List.mem_cons_self ..)
    have ih := rprod_zero hp hx ns fun m h => hb m (List.mem_cons_of_mem _ h)
    show (x - n) * rprod x ns % p = 0 ↔ _
    constructor
    · intro h
      rcases mul_zero_mod hp h with h | h
      · rw [sub_mod_zero hx hn h]
        exact List.mem_cons_self ..
      · exact List.mem_cons_of_mem _ (ih.mp h)
    · intro h
      rcases List.mem_cons.mp h with rfl | h
      · rw [Int.sub_self, Int.zero_mul, Int.zero_emod]
      · rw [Int.mul_emod, ih.mpr h, Int.mul_zero, Int.zero_emod]
end
end K
namespace K
open PySem PySem.Spec PyProof.Rows L2

abbrev N_Poly___mul__ : List Str := ["self", "other", "size", "sums", "power", "coefficient", "other_power", "other_coefficient", "together"]
theorem sc_Poly___mul__ : FnScope N_Poly___mul__ ["self", "other"] (defScope s_Poly___mul__) := ⟨rfl, rfl, rfl, by decide +kernel, rfl, by decide +kernel, by decide +kernel⟩
section
variable {P : Program} {w : World} {K : PySem.W.Frag} {mg : Str → Option Value} {base : Heap}
def sp_pmul (K : PySem.W.Frag) (C N L : Addr) : Sp := fun vs H Q E => ∃ (a b : Addr) (p r : Int) (cs ds : List Int), vs = [.ref a, .ref b] ∧ PolyAt K C H a p cs ∧ PolyAt K C H b r ds ∧
  (p = r → ∀ x H' es, H x = none → Same H H' → PolyAt K C H' x p es → (∀ k, co es k = cv cs ds k % p) → Q (.ref x) H') ∧
  (p = r → ∀ zs H', Same H H' → (∀ k, co zs k = cv cs ds k % p) → 128 < (trim zs).length → E (.ref L) none H') ∧ (p ≠ r → E (.ref N) none H)
theorem ok_pmul (T : Txt K mg) : FnOk P w K mg base (L2N.CX P w) 7 T.f_Poly___mul__ T.fd_Poly___mul__ ["self", "other"] (sp_pmul K T.C_Poly T.C_OtherField T.C_TooLarge) := by
  have G_check_field := ok_checkfield (P := P) (w := w) (base := base) T
  have G_Poly___init__ := ok_pinit (P := P) (w := w) (base := base) T
  have G_without_end_zeros := ok_noends (P := P) (w := w) (base := base) T
  refine Vb.okN T.d_Poly___mul__.F sc_Poly___mul__ (fun vs H Q E h => ?_) (fun cdv A outer s H vs Q E hr h => ?_)
  · obtain ⟨a, b, p, r, cs, ds, rfl, _⟩ := h
    rfl
  · obtain ⟨a, b, p, r, cs, ds, rfl, va, vb, q1, q3, q2⟩ := h
    obtain ⟨dx, t, ha, ht⟩ := va.o
    obtain ⟨dy, u, hb, hu⟩ := vb.o
    have cP := T.c_Poly
    have aP : NoAttr K T.C_Poly "prime" := T.a_Poly_prime
    have aC : NoAttr K T.C_Poly "coefficients" := T.a_Poly_coefficients
    refine ⟨_, (pss_cons (ps_expr (pe_callS G_check_field (hr.mono (by first | decide | omega)) (by rfl) T.d_check_field.g T.d_check_field.F.kp T.d_check_field.b (fun σ => L2N.passAt (L2N.takes_of rfl rfl rfl rfl) σ) (pa_cons (pe_fld (pv 0) (by rfl)) (pa_cons (pv 1) pa_nil))))
      (pss_cons (ps_set (i := 2) sc_Poly___mul__.nd rfl (by first | exact Or.inl rfl | exact Or.inr rfl) (pe_op op_add (pe_callB Vb.call_len (by rfl) T.n_len (by decide +kernel) (pa_cons (pe_fld (pv 0) (by rfl)) pa_nil)) (pe_callB Vb.call_len (by rfl) T.n_len (by decide +kernel) (pa_cons (pe_fld (pv 1) (by rfl)) pa_nil))))
      (pss_cons (ps_set (i := 3) sc_Poly___mul__.nd rfl (by first | exact Or.inl rfl | exact Or.inr rfl) (pe_op op_rep (pe_lst (pa_cons pe_int pa_nil)) (pv 2)))
      (pss_cons (ps_for (L2.passes_of rfl) rfl (Vb.pi_enumT (by rfl) T.n_enumerate (pa_cons (pe_fld (pv 0) (by rfl)) pa_nil)) (pg_tup (n := 2) rfl (pgs_cons (pg_name (i := 4) sc_Poly___mul__.nd rfl (by first | exact Or.inl rfl | exact Or.inr rfl)) (pgs_cons (pg_name (i := 5) sc_Poly___mul__.nd rfl (by first | exact Or.inl rfl | exact Or.inr rfl)) pgs_nil)))
        (pss_one (ps_for (L2.passes_of rfl) rfl (Vb.pi_enumT (by rfl) T.n_enumerate (pa_cons (pe_fld (pv 1) (by rfl)) pa_nil)) (pg_tup (n := 2) rfl (pgs_cons (pg_name (i := 6) sc_Poly___mul__.nd rfl (by first | exact Or.inl rfl | exact Or.inr rfl)) (pgs_cons (pg_name (i := 7) sc_Poly___mul__.nd rfl (by first | exact Or.inl rfl | exact Or.inr rfl)) pgs_nil)))
        (pss_cons (ps_set (i := 8) sc_Poly___mul__.nd rfl (by first | exact Or.inl rfl | exact Or.inr rfl) (pe_op op_add (pv 4) (pv 6)))
      (pss_one (ps_asg (pe_op op_mod (pe_op op_add (pe_ix ix_list (pv 3) (pv 8) (fun _ _ => rfl)) (pe_op op_mul (pv 5) (pv 7))) (pe_fld (pv 0) (by rfl))) (pg_sub (pv 3) (pv 8) set_list)))))))
      (pss_one (ps_ret (Vb.pe_makeP T.mk_Poly G_Poly___init__ (hr.mono (by first | decide | omega)) (by rfl) T.g_Poly T.d_Poly___init__.b (fun σ => L2N.passAt (L2N.takes_of rfl rfl rfl rfl) σ) (pa_cons (pe_fld (pv 0) (by rfl)) (pa_cons (pe_callS G_without_end_zeros (hr.mono (by first | decide | omega)) (by rfl) T.d_without_end_zeros.g T.d_without_end_zeros.F.kp T.d_without_end_zeros.b (fun σ => L2N.passAt (L2N.takes_of rfl rfl rfl rfl) σ) (pa_cons (pv 3) pa_nil)) pa_nil))))))))), ?_⟩
    (change (_ : L2.TS) _ ([some (.ref a), some (.ref b), none, none, none, none, none, none, none] : L2.St) _); try dsimp only [L2.cxOf, L2H.cxH]
    walk_at "rd"
    refine ⟨b, p, r, ds, rfl, vb, fun e => ?_, q2⟩
    subst e
    have hp2 := va.two
    have l1 := va.ln
    have l2 := vb.ln
    walk_at "rd"
    refine ⟨Vb.size_ok (by show 1 ≤ 16777216; decide), fun l0 n0 => ?_⟩
    walk_at "rd"
    obtain ⟨N, hN, m3⟩ : ∃ N : Nat, (((cs.map V.int).length : Int) + ((ds.map V.int).length : Int)) = (N : Int) ∧ N = cs.length + ds.length := by
      rw [List.length_map, List.length_map]
      exact ⟨cs.length + ds.length, by omega, rfl⟩
    rw [hN]
    refine Vb.r_repL upd_same ⟨by omega, by omega⟩ (Vb.size_ok (by show 1 * (N : Int).toNat ≤ 16777216; omega)) fun D nD => ?_
    have hrep : (List.replicate (N : Int).toNat [V.int 0]).flatten = (List.replicate N (0 : Int)).map V.int := by simp
    rw [hrep]
    have nDH : H D = none := (Vb.same_new n0).free nD
    have E0 : Same H (upd (upd H l0 (.lst [.int 0])) D (.lst ((List.replicate N (0 : Int)).map V.int))) := (Vb.same_new n0).trans (Vb.same_new nD)
    have hD0 : (upd (upd H l0 (.lst [.int 0])) D (.lst ((List.replicate N (0 : Int)).map V.int))) D = some (.lst ((List.replicate N (0 : Int)).map V.int)) := upd_same
    generalize upd (upd H l0 _) D _ = H0 at E0 hD0 ⊢
    have ha0 := E0 _ _ ha
    have hlc : (cs.map V.int).length = cs.length := List.length_map ..
    have hld : (ds.map V.int).length = ds.length := List.length_map ..
    walk_at "rd"
    refine ⟨t, cs.map V.int, rfl, Vb.sqT_same E0 ht, ?_⟩
    refine Vb.lp_enumT (fun i σ H' => ∃ (zs : List Int) (y4 y5 y6 y7 y8 : Option V), Same H H' ∧ H' D = some (.lst (zs.map V.int)) ∧ zs.length = N ∧ (∀ k, co zs k = pc cs ds i 0 k % p) ∧ σ = [some (.ref a), some (.ref b), some (.int N), some (.ref D), y4, y5, y6, y7, y8]) ⟨List.replicate N 0, _, _, _, _, _, E0, hD0, List.length_replicate .., fun k => by rw [co_zeros, pc_start]; rfl, rfl⟩ (fun i σ H' _ c => by obtain ⟨_, _, _, _, _, _, e, _⟩ := c; exact Vb.sqT_same e ht) ?_ ?_
    · rintro i x σ H' W hx ⟨zs, y4, y5, y6, y7, y8, e1, hD, hz, hc, rfl⟩ nW
      obtain ⟨c, hc1, rfl⟩ := Vb.getV' hx
      have hi : i < cs.length := (List.getElem?_eq_some_iff.mp hc1).1
      have hci : co cs i = c := by
        rw [co_in hi] at hc1
        exact Option.some.inj hc1
      have bc := va.cb i
      rw [hci] at bc
      refine Vb.r_gT2 (Vb.st_of upd_same) ?_
      have e2 : Same H (upd H' W (.tup [.int (i : Nat), .int c])) := e1.trans (Vb.same_new nW)
      have hD2 : (upd H' W (.tup [.int (i : Nat), .int c])) D = some (.lst (zs.map V.int)) := Vb.h_new nW hD
      generalize upd H' W _ = H1 at e2 hD2 ⊢
      have hb1 := e2 _ _ hb
      walk_at "rd"
      refine ⟨u, ds.map V.int, rfl, Vb.sqT_same e2 hu, ?_⟩
      refine Vb.lp_enumT (fun j σ H' => ∃ (zs : List Int) (y6 y7 y8 : Option V), Same H H' ∧ H' D = some (.lst (zs.map V.int)) ∧ zs.length = N ∧ (∀ k, co zs k = pc cs ds i j k % p) ∧ σ = [some (.ref a), some (.ref b), some (.int N), some (.ref D), some (.int (i : Nat)), some (.int c), y6, y7, y8]) ⟨zs, _, _, _, e2, hD2, hz, hc, rfl⟩ (fun i σ H' _ c => by obtain ⟨_, _, _, _, e, _⟩ := c; exact Vb.sqT_same e hu) ?_ ?_
      · rintro j x σ H' W hx ⟨zs, y6, y7, y8, e1, hD, hz, hc, rfl⟩ nW
        obtain ⟨d, hd1, rfl⟩ := Vb.getV' hx
        have hj : j < ds.length := (List.getElem?_eq_some_iff.mp hd1).1
        have hdj : co ds j = d := by
          rw [co_in hj] at hd1
          exact Option.some.inj hd1
        have bd := vb.cb j
        rw [hdj] at bd
        have ha1 : (upd H' W (.tup [.int (j : Nat), .int d])) a = some (.ins T.C_Poly dx [("prime", .int p), ("coefficients", .ref t)]) := Vb.h_new nW (e1 _ _ ha)
        refine Vb.r_gT2 (Vb.st_of upd_same) ?_
        walk_at "rd"
        refine Vb.r_ixL (Vb.sq_of (Vb.h_new nW hD)) (Vb.at_lit (i + j) (by omega) (co_map (by omega))) ?_
        walk_at "rd"
        refine Vb.r_setL (Vb.h_new nW hD) (Vb.ix_nat (i + j) (by omega) (by rw [List.length_map]; omega)) ?_
        refine ⟨zs.set (i + j) ((co zs (i + j) + c * d) % p), _, _, _, Vb.same_mut (e1.trans (Vb.same_new nW)) nDH, by rw [upd_same, map_set], by rw [List.length_set]; exact hz, fun k => ?_, rfl⟩
        rw [co_set (by omega), pc_step, hc k]
        by_cases e : k = i + j
        · subst e
          rw [if_pos rfl, if_pos rfl, hc, hci, hdj, Int.emod_add_emod]
        · rw [if_neg e, if_neg (Ne.symm e), Int.add_zero]
      · rintro σ H2 ⟨zs, y6, y7, y8, e3, hD, hz, hc, rfl⟩
        exact ⟨zs, _, _, _, _, _, e3, hD, hz, fun k => by rw [hc k, hld, pc_row], rfl⟩
    · rintro σ H1 ⟨zs, y4, y5, y6, y7, y8, e1, hD, hz, hc, rfl⟩
      have hc' : ∀ k, co zs k = cv cs ds k % p := fun k => by rw [hc k, hlc, pc_end]
      have ha1 := e1 _ _ ha
      walk_at "rd"
      refine ⟨D, zs, rfl, .inl (Vb.sq_of hD), fun t2 H2 e2 h2 => ?_⟩
      walk_at "rd"
      have bz : ∀ c ∈ trim zs, 0 ≤ c ∧ c < p := fun c m => by
        obtain ⟨k, hk⟩ := List.getElem?_of_mem (trim_mem m)
        have h1 := (List.getElem?_eq_some_iff.mp hk).1
        rw [co_in h1] at hk
        rw [← Option.some.inj hk, hc' k]
        exact ⟨Int.emod_nonneg _ (by omega), Int.emod_lt_of_pos _ (by omega)⟩
      refine use_mkpoly va.pr (.inr h2) bz (fun hl x H3 nx e3 vx => ?_) (fun hl H3 e3 => ?_)
      · exact q1 rfl x H3 _ ((e1.trans e2).free nx) ((e1.trans e2).trans e3) vx (fun k => by rw [co_trim, co_trim, hc' k])
      · exact q3 rfl zs H3 ((e1.trans e2).trans e3) hc' hl
end
end K
namespace K
open PySem PySem.Spec PyProof.Rows L2
abbrev N_Poly_at : List Str := ["self", "number", "value", "coefficient"]
theorem sc_Poly_at : FnScope N_Poly_at ["self", "number"] (defScope s_Poly_at) := ⟨rfl, rfl, rfl, by decide +kernel, rfl, by decide +kernel, by decide +kernel⟩
section
variable {P : Program} {w : World} {K : PySem.W.Frag} {mg : Str → Option Value} {base : Heap}
def sp_pat (K : PySem.W.Frag) (C N : Addr) : Sp := fun vs H Q E => ∃ (a : Addr) (p : Int) (cs : List Int) (v : V) (d : PyData), vs = [.ref a, v] ∧ PolyAt K C H a p cs ∧ Dp K H v d ∧ (∀ x, d = .int x → 0 ≤ x ∧ x < p → ∀ H', Same H H' → Q (.int (ev cs x % p)) H') ∧ (inField p d = false → ∀ dd : Addr, H dd = none → E (.ref N) (some dd) (upd H dd (.xd [("value", v)])))
theorem run_pat {K : PySem.W.Frag} {C N a : Addr} {p x : Int} {cs : List Int} {H : Hp} {Q : VK} {E : XK} (va : PolyAt K C H a p cs) (hx : 0 ≤ x ∧ x < p) (q : ∀ H', Same H H' → Q (.int (ev cs x % p)) H') : sp_pat K C N [.ref a, .int x] H Q E := ⟨a, p, cs, _, .int x, rfl, va, .int x, (fun y e _ => by cases e; exact q), fun f => by rw [inField_int.mpr hx] at f; cases f⟩
theorem horner_step {cs : List Int} {x p : Int} {i : Nat} (h : i < cs.length) : (hn x (cs.drop (cs.length - i)) % p * x + co cs (cs.length - 1 - i)) % p = hn x (cs.drop (cs.length - (i + 1))) % p := by
  have e : cs.drop (cs.length - (i + 1)) = co cs (cs.length - 1 - i) :: cs.drop (cs.length - i) := by
    have h1 : cs.length - (i + 1) < cs.length := by omega
    rw [List.drop_eq_getElem_cons h1, show cs.length - (i + 1) + 1 = cs.length - i by omega]
    congr 1
    have := co_in h1
    rw [List.getElem?_eq_getElem h1] at this
    rw [show cs.length - 1 - i = cs.length - (i + 1) by omega]
    exact Option.some.inj this
  rw [e]
  show _ = (co cs (cs.length - 1 - i) + x * hn x (cs.drop (cs.length - i))) % p
  rw [Int.add_emod, mul_emod_l, ← Int.add_emod, Int.add_comm, Int.mul_comm]
theorem ok_pat (T : Txt K mg) : FnOk P w K mg base (L2N.CX P w) 4 T.f_Poly_at T.fd_Poly_at ["self", "number"] (sp_pat K T.C_Poly T.C_NotInField) := by
  have G_check_number := ok_checknum (P := P) (w := w) (base := base) T
  refine Vb.okN T.d_Poly_at.F sc_Poly_at (fun vs H Q E h => ?_) (fun cdv A outer s H vs Q E hr h => ?_)
  · obtain ⟨a, p, cs, v, d, rfl, _⟩ := h
    rfl
  · obtain ⟨a, p, cs, v, d, rfl, va, hd, q, q1⟩ := h
    obtain ⟨dx, t, ha, ht⟩ := va.o
    have hp2 := va.two
    have cP := T.c_Poly
    have aP : NoAttr K T.C_Poly "prime" := T.a_Poly_prime
    have aC : NoAttr K T.C_Poly "coefficients" := T.a_Poly_coefficients
    refine ⟨_, (pss_cons (ps_expr (pe_callS G_check_number (hr.mono (by first | decide | omega)) (by rfl) T.d_check_number.g T.d_check_number.F.kp T.d_check_number.b (fun σ => L2N.passAt (L2N.takes_of rfl rfl rfl rfl) σ) (pa_cons (pe_fld (pv 0) (by rfl)) (pa_cons (pv 1) pa_nil))))
      (pss_cons (ps_set (i := 2) sc_Poly_at.nd rfl (by first | exact Or.inl rfl | exact Or.inr rfl) pe_int)
      (pss_cons (ps_for (L2.passes_of rfl) rfl (pi_tup (Vb.pe_revT (pe_fld (pv 0) (by rfl)))) (pg_name (i := 3) sc_Poly_at.nd rfl (by first | exact Or.inl rfl | exact Or.inr rfl))
        (pss_one (ps_set (i := 2) sc_Poly_at.nd rfl (by first | exact Or.inl rfl | exact Or.inr rfl) (pe_op op_mod (pe_op op_add (pe_op op_mul (pv 2) (pv 1)) (pv 3)) (pe_fld (pv 0) (by rfl))))))
      (pss_one (ps_ret (pv 2)))))), ?_⟩
    (change (_ : L2.TS) _ ([some (.ref a), some (v), none, none] : L2.St) _); try dsimp only [L2.cxOf, L2H.cxH]
    walk_at "rd"
    refine ⟨p, v, d, rfl, hd, fun f1 => ?_, fun f1 dd n => q1 f1 dd n⟩
    obtain ⟨x, rfl, x1⟩ := inField_of f1
    cases hd
    walk_at "rd"
    refine ⟨t, cs.map V.int, rfl, ht, fun D nD => ?_⟩
    walk_at "rd"
    have e0 := Vb.same_new (o := .tup (cs.map V.int).reverse) nD
    have hD : (upd H D (.tup (cs.map V.int).reverse)) D = some (.tup (cs.map V.int).reverse) := upd_same
    have hl : (cs.map V.int).reverse.length = cs.length := by rw [List.length_reverse, List.length_map]
    generalize upd H D _ = H1 at e0 hD ⊢
    refine Vb.lp_tup (xs := (cs.map V.int).reverse) (fun i σ H' => H' = H1 ∧ ∃ y, σ = [some (.ref a), some (.int x), some (.int (hn x (cs.drop (cs.length - i)) % p)), y]) ⟨rfl, _, by rw [Nat.sub_zero, List.drop_length]; rfl⟩ (fun i σ H' _ c => by rw [c.1]; exact Vb.st_of hD) ?_ ?_
    · rintro i v σ H' hi ⟨rfl, y, rfl⟩
      have hlt : i < cs.length := by rw [← hl]; exact (List.getElem?_eq_some_iff.mp hi).1
      rw [List.getElem?_reverse (by rw [List.length_map]; exact hlt), List.length_map, co_map (by omega)] at hi
      cases hi
      have ha1 := e0 _ _ ha
      have hm : 0 ≤ hn x (cs.drop (cs.length - i)) % p ∧ hn x (cs.drop (cs.length - i)) % p < p := ⟨Int.emod_nonneg _ (by omega), Int.emod_lt_of_pos _ (by omega)⟩
      walk_at "rd"
      exact ⟨rfl, _, by rw [horner_step hlt]; rfl⟩
    · rintro σ H' ⟨rfl, y, rfl⟩
      walk_at "rd"
      rw [hl, Nat.sub_self, List.drop_zero, hn_ev]
      exact q x rfl x1 _ e0
end
end K
namespace K
open PySem PySem.Spec PyProof.Rows L2
abbrev N_constant : List Str := ["prime", "number"]
theorem sc_constant : FnScope N_constant ["prime", "number"] (defScope s_constant) := ⟨rfl, rfl, rfl, by decide +kernel, rfl, by decide +kernel, by decide +kernel⟩
section
variable {P : Program} {w : World} {K : PySem.W.Frag} {mg : Str → Option Value} {base : Heap}
def sp_constant (K : PySem.W.Frag) (C : Addr) : Sp := fun vs H Q _ => ∃ (p n : Int), vs = [.int p, .int n] ∧ (Vb.Prm p ∧ p ≤ 101) ∧ (0 ≤ n ∧ n < p) ∧ ∀ x H', H x = none → Same H H' → PolyAt K C H' x p (trim [n]) → Q (.ref x) H'
theorem ok_constant (T : Txt K mg) : FnOk P w K mg base (L2N.CX P w) 7 T.f_constant T.fd_constant ["prime", "number"] (sp_constant K T.C_Poly) := by
  have G_Poly___init__ := ok_pinit (P := P) (w := w) (base := base) T
  refine Vb.okN T.d_constant.F sc_constant (fun vs H Q E h => ?_) (fun cdv A outer s H vs Q E hr h => ?_)
  · obtain ⟨p, n, rfl, _⟩ := h
    rfl
  · obtain ⟨p, n, rfl, hp, hn, q⟩ := h
    refine ⟨_, (pss_one (ps_ret (Vb.pe_makeP T.mk_Poly G_Poly___init__ (hr.mono (by first | decide | omega)) (by rfl) T.g_Poly T.d_Poly___init__.b (fun σ => L2N.passAt (L2N.takes_of rfl rfl rfl rfl) σ) (pa_cons (pv 0) (pa_cons (pe_lst (pa_cons (pv 1) pa_nil)) pa_nil))))), ?_⟩
    (change (_ : L2.TS) _ ([some (.int p), some (.int n)] : L2.St) _); try dsimp only [L2.cxOf, L2H.cxH]
    walk_at "rd"
    refine ⟨Vb.size_ok (by show 1 ≤ 16777216; decide), fun l nl => ?_⟩
    have e := Vb.same_new (o := .lst [.int n]) nl
    walk_at "rd"
    refine use_mkpoly (ns := [n]) hp (.inl (Vb.sq_of upd_same)) (fun c m => by rw [List.mem_singleton.mp m]; exact hn) (fun hl x H3 nx e3 vx => ?_) (fun hl => absurd hl (by show ¬ (128 < 1); decide))
    exact q x H3 (e.free nx) (e.trans e3) vx
end
end K
namespace K
open PySem PySem.Spec PyProof.Rows L2
abbrev N_roots_of : List Str := ["poly", "number"]
theorem sc_roots_of : FnScope N_roots_of ["poly"] (defScope s_roots_of) := ⟨rfl, rfl, rfl, by decide +kernel, rfl, by decide +kernel, by decide +kernel⟩
section
variable {P : Program} {w : World} {K : PySem.W.Frag} {mg : Str → Option Value} {base : Heap}
/-- the roots, ascending -/
def zerosOf (p : Int) (cs : List Int) (n : Nat) : List Int := ((List.range n).map fun i : Nat => (i : Int)).filter fun x => decide (ev cs x % p = 0)
theorem filt_step {n i : Nat} {g : Int → Bool} : ((List.range (i + 1)).map fun j : Nat => (j : Int)).filter g = ((List.range i).map fun j : Nat => (j : Int)).filter g ++ if g i = true then [(i : Int)] else [] := by
  rw [List.range_succ, List.map_append, List.filter_append]
  congr 1
  by_cases h : g i = true
  · rw [if_pos h]
    exact List.filter_cons_of_pos h
  · rw [if_neg h]
    exact List.filter_cons_of_neg h
theorem filt_len {n : Nat} {g : Int → Bool} : (((List.range n).map fun j : Nat => (j : Int)).filter g).length ≤ n := by
  refine Nat.le_trans (List.length_filter_le _ _) ?_
  rw [List.length_map, List.length_range]
  exact Nat.le_refl _
def sp_roots (K : PySem.W.Frag) (C : Addr) : Sp := fun vs H Q _ => ∃ (a : Addr) (p : Int) (cs : List Int), vs = [.ref a] ∧ PolyAt K C H a p cs ∧ ∀ (l : Addr) (H' : Hp), H l = none → Same H H' → H' l = some (.lst ((zerosOf p cs p.toNat).map V.int)) → Q (.ref l) H'
theorem ok_roots (T : Txt K mg) : FnOk P w K mg base (L2N.CX P w) 5 T.f_roots_of T.fd_roots_of ["poly"] (sp_roots K T.C_Poly) := by
  have G_Poly_at := ok_pat (P := P) (w := w) (base := base) T
  refine Vb.okN T.d_roots_of.F sc_roots_of (fun vs H Q E h => ?_) (fun cdv A outer s H vs Q E hr h => ?_)
  · obtain ⟨a, p, cs, rfl, _⟩ := h
    rfl
  · obtain ⟨a, p, cs, rfl, va, q⟩ := h
    obtain ⟨dx, t, ha, ht⟩ := id va.o
    have cP := T.c_Poly
    have aP : NoAttr K T.C_Poly "prime" := T.a_Poly_prime
    have hp2 := va.two
    refine ⟨_, (pss_one (ps_ret (pe_lc (own := [("number", 1)]) (g := gName 1) rfl sc_roots_of.nd (pi_range1 rfl T.n_range (pa_cons (pe_fld (pv 0) (by rfl)) pa_nil)) (blkOk_by (own := [("number", 1)]) (N := N_roots_of) (sc := defScope s_roots_of) (by decide +kernel)) (fun _ _ _ _ _ => (pg_name (i := 1) sc_roots_of.nd rfl (by first | exact Or.inl rfl | exact Or.inr rfl))) (fun _ _ _ _ _ => pts_one (pt_cmpR op_eq (Vb.pe_methP (pv 0) T.c_Poly T.m_Poly_at G_Poly_at (hr.mono (by first | decide | omega)) T.d_Poly_at.b (fun σ => Vb.pass5A σ) (pa_cons (pv 1) pa_nil)) pe_int (nomark _))) (fun _ _ _ _ _ => (pv 1))))), ?_⟩
    (change (_ : L2.TS) _ ([some (.ref a), none] : L2.St) _); try dsimp only [L2.cxOf, L2H.cxH]
    walk_at "rd"
    intro D nD
    refine Vb.lcw_range (fun i H' => Same H H' ∧ H' D = some (.lst ((zerosOf p cs i).map V.int))) ⟨Vb.same_new nD, upd_same⟩ (fun x => rfl) ?_ ?_
    · rintro i H' hi ⟨e, h⟩
      have hi' : (i : Int) < p := by omega
      have va1 := va.same e
      have ha1 := e _ _ ha
      rw [Int.zero_add]
      walk_at "rd"
      refine ⟨a, p, cs, .int i, .int i, rfl, va1, .int _, (fun x ex hx H2 e2 => ?_), fun z => by rw [inField_int.mpr ⟨by omega, hi'⟩] at z; cases z⟩
      cases ex
      have h2 := e2 _ _ h
      walk_at "rd"
      by_cases cc : ev cs i % p = 0
      · rw [if_pos (decide_eq_true cc)]
        walk_at "rd"
        refine ⟨_, h2, Vb.size_lt (by rw [List.length_map]; exact Nat.lt_of_le_of_lt filt_len (by omega)), Vb.same_mut (e.trans e2) nD, ?_⟩
        rw [upd_same]
        show _ = some (HO.lst ((((List.range (i + 1)).map fun j : Nat => (j : Int)).filter fun x => decide (ev cs x % p = 0)).map V.int))
        rw [filt_step (n := 0), if_pos (decide_eq_true cc), List.map_append]
        rfl
      · rw [if_neg (by rw [decide_eq_false cc]; decide)]
        refine ⟨e.trans e2, ?_⟩
        rw [h2]
        show _ = some (HO.lst ((((List.range (i + 1)).map fun j : Nat => (j : Int)).filter fun x => decide (ev cs x % p = 0)).map V.int))
        rw [filt_step (n := 0), if_neg (by rw [decide_eq_false cc]; decide), List.append_nil]
        rfl
    rintro H1 ⟨e1, h1⟩
    exact q D H1 nD e1 h1
end
end K
namespace K
open PySem PySem.Spec PyProof.Rows L2
section
/-- a list of numbers of the field that is filled from the store -/
structure NmS (p : Int) (st D : Addr) (k : Nat) (H H' : Hp) (ns : List Int) : Prop where
  s0 : Vb.StoreAt H st
  n0 : H D = none
  f : Vb.Fr st H H'
  S : Vb.StoreAt H' st
  h : H' D = some (.lst (ns.map V.int))
  c : ns.length = k
  a : ∀ n ∈ ns, 0 ≤ n ∧ n < p
theorem NmS.ne {p : Int} {st D : Addr} {k : Nat} {H H' : Hp} {ns : List Int} (v : NmS p st D k H H' ns) : D ≠ st := v.s0.ne v.n0
theorem NmS.fr {p : Int} {st D : Addr} {k : Nat} {H H' H2 : Hp} {ns : List Int} (v : NmS p st D k H H' ns) (f : Vb.Fr st H' H2) (s : Vb.StoreAt H2 st) : NmS p st D k H H2 ns := ⟨v.s0, v.n0, v.f.trans f, s, f.k _ _ v.ne v.h, v.c, v.a⟩
theorem NmS.app {p x : Int} {st D : Addr} {k : Nat} {H H' : Hp} {ns : List Int} (v : NmS p st D k H H' ns) (h : 0 ≤ x ∧ x < p) : NmS p st D (k + 1) H (upd H' D (.lst (ns.map V.int ++ [.int x]))) (ns ++ [x]) :=
  ⟨v.s0, v.n0, v.f.mut v.n0, v.s0.mut v.n0 v.f v.S, by rw [upd_same]; simp, by rw [List.length_append, v.c]; rfl, fun u m => by
    rcases List.mem_append.mp m with m | m
    · exact v.a u m
    · rw [List.mem_singleton.mp m]
      exact h⟩
theorem NmS.nil {p : Int} {st D : Addr} {H : Hp} (s : Vb.StoreAt H st) (h : H D = none) : NmS p st D 0 H (upd H D (.lst [])) [] := ⟨s, h, (Vb.Fr.refl _ _).mut h, s.mut h (Vb.Fr.refl _ _) s, upd_same, rfl, fun c m => by cases m⟩
theorem rep_flat (k : Nat) (x : Int) : (List.replicate k [V.int x]).flatten = (List.replicate k x).map V.int := by simp
theorem fr_none {H H' : Hp} {l st : Addr} (f : Vb.Fr st H H') (n : l ≠ st) (h : H' l = none) : H l = none := by
  cases e : H l with
  | none => rfl
  | some o => rw [f.k _ _ n e] at h; cases h
end
end K
namespace K
open PySem PySem.Spec PyProof.Rows L2
abbrev N__law_row : List Str := ["store", "row"]
theorem sc__law_row : FnScope N__law_row ["store", "row"] (defScope s__law_row) := ⟨rfl, rfl, rfl, by decide +kernel, rfl, by decide +kernel, by decide +kernel⟩
section
variable {P : Program} {w : World} {K : PySem.W.Frag} {mg : Str → Option Value} {base : Heap}
/-- a copy of a list or a tuple, as a list or a tuple -/
def sp_row (K : PySem.W.Frag) : Sp := fun vs H Q _ => ∃ (st a : Addr) (xs : List V), vs = [.ref st, .ref a] ∧ Vb.StoreAt H st ∧ a ≠ st ∧ Vb.SqA K H a xs ∧ ∀ (l : Addr) (H' : Hp), l ≠ st → Vb.SqA K H' l xs → ((H' l = some (.lst xs) ∧ H l = none) ∨ SqT K H' l xs) → Vb.Fr st H H' → Vb.StoreAt H' st → Q (.ref l) H'
theorem fr_free {H H' : Hp} {l st : Addr} (f : Vb.Fr st H H') (n : l ≠ st) (h : H' l = none) : H l = none := by
  cases e : H l with
  | none => rfl
  | some o => rw [f.k _ _ n e] at h; cases h
theorem sqA_fr {K : PySem.W.Frag} {H H' : Hp} {a st : Addr} {xs : List V} (S : Vb.StoreAt H st) (n : a ≠ st) (f : Vb.Fr st H H') (h : Vb.SqA K H a xs) : Vb.SqA K H' a xs := by
  rcases h with h | h
  · refine .inl ?_
    rcases h with h | h
    · rcases h with h | h
      · exact .inl (.inl (f.k _ _ n h))
      · obtain ⟨o, h⟩ := h
        exact .inl (.inr ⟨o, f.k _ _ n h⟩)
    · exact .inr h
  · exact .inr (Vb.sqT_fr f S h)
theorem ok_row (T : Txt K mg) : FnOk P w K mg base (L2N.CX P w) 3 T.f__law_row T.fd__law_row ["store", "row"] (sp_row K) := by
  have G__law_take := ok_take (P := P) (w := w) (base := base) T
  refine Vb.okN T.d__law_row.F sc__law_row (fun vs H Q E h => ?_) (fun cdv A outer s H vs Q E hr h => ?_)
  · obtain ⟨a, b, c, rfl, _⟩ := h
    rfl
  · obtain ⟨st, a, xs, rfl, hS, na, hw, q⟩ := h
    refine ⟨_, (pss_cons (ps_if (pt_cmpR op_eq (pe_callS G__law_take (hr.mono (by first | decide | omega)) (by rfl) T.d__law_take.g T.d__law_take.F.kp T.d__law_take.b (fun σ => L2N.passAt (L2N.takes_of rfl rfl rfl rfl) σ) (pa_cons (pv 0) (pa_cons pe_int pa_nil))) pe_int (nomark _)) (pss_one (ps_ret (pe_callTy Vb.call_list (by rfl) T.n_list (by decide +kernel) (pa_cons (pv 1) pa_nil)))) pss_nil)
      (pss_one (ps_ret (pe_callTy Vb.call_tuple (by rfl) T.n_tuple (by decide +kernel) (pa_cons (pv 1) pa_nil))))), ?_⟩
    (change (_ : L2.TS) _ ([some (.ref st), some (.ref a)] : L2.St) _); try dsimp only [L2.cxOf, L2H.cxH]
    walk_at "rd"
    refine use_take hS (by decide) fun t H1 _ _ _ f1 S1 => ?_
    have hw1 := sqA_fr hS na f1 hw
    walk_at "rd"
    refine Vb.r_ite (fun c => ?_) (fun c => ?_)
    · walk_at "rd"
      refine ⟨a, xs, rfl, hw1, fun l nl => ?_⟩
      exact q l _ (S1.ne nl) (.inl (Vb.sq_of upd_same)) (.inl ⟨upd_same, fr_free f1 (S1.ne nl) nl⟩) (f1.trans (Vb.Fr.of (Vb.same_new nl))) (S1.same (Vb.same_new nl))
    · walk_at "rd"
      rcases hw1 with hw1 | hw1
      · refine Vb.r_tupL hw1 fun l nl => ?_
        exact q l _ (S1.ne nl) (.inr (Vb.st_of upd_same)) (.inr (Vb.st_of upd_same)) (f1.trans (Vb.Fr.of (Vb.same_new nl))) (S1.same (Vb.same_new nl))
      · refine Vb.r_tupT hw1 ?_
        exact q a H1 na (.inr hw1) (.inr hw1) f1 S1
end
end K
namespace K
open PySem PySem.Spec PyProof.Rows L2

abbrev N__law_unlike : List Str := ["store", "prime", "many", "left", "numbers", "k"]
theorem sc__law_unlike : FnScope N__law_unlike ["store", "prime", "many"] (defScope s__law_unlike) := ⟨rfl, rfl, rfl, by decide +kernel, rfl, by decide +kernel, by decide +kernel⟩
section
variable {P : Program} {w : World} {K : PySem.W.Frag} {mg : Str → Option Value} {base : Heap}
theorem erase_map (xs : List Int) (j : Nat) : (xs.map V.int).eraseIdx j = (xs.eraseIdx j).map V.int := by
  rw [List.eraseIdx_eq_take_drop_succ, List.eraseIdx_eq_take_drop_succ, List.map_append, List.map_take, List.map_drop]
theorem erase_perm {xs : List Int} {j : Nat} (h : j < xs.length) : (xs[j] :: xs.eraseIdx j).Perm xs := by
  rw [List.eraseIdx_eq_take_drop_succ]
  have e : xs.take j ++ xs[j] :: xs.drop (j + 1) = xs := by rw [List.getElem_cons_drop h, List.take_append_drop]
  exact List.perm_middle.symm.trans (List.Perm.of_eq e)
theorem r_popAt {xs : List V} {l : Addr} {j : Nat} {v : V} {H : Hp} {Q : VK} (hj : j < xs.length) (hb : xs.length ≤ 1000000) (h : H l = some (.lst xs)) (hv : xs[j]? = some v) (q : Q v (upd H l (.lst (xs.eraseIdx j)))) : rPopAt (.ref l) [.int (j : Nat)] H Q := by
  refine ⟨l, xs, j, j, v, rfl, rfl, h, by omega, by omega, ?_, hv, q⟩
  exact (ixN_seq (Vb.ix_nat j rfl hj)).1
/-- different numbers of the field -/
def sp_unlike : Sp := fun vs H Q _ => ∃ (st : Addr) (p m : Int), vs = [.ref st, .int p, .int m] ∧ Vb.StoreAt H st ∧ (1 ≤ p ∧ p ≤ 101) ∧ (0 ≤ m ∧ m ≤ 1000) ∧ ∀ (l : Addr) (H' : Hp) (ns : List Int), l ≠ st → H' l = some (.lst (ns.map V.int)) → (ns.length : Int) = min m p → (∀ c ∈ ns, 0 ≤ c ∧ c < p) → ns.Nodup → Vb.Fr st H H' → Vb.StoreAt H' st → Q (.ref l) H'
theorem ok_unlike (T : Txt K mg) : FnOk P w K mg base (L2N.CX P w) 3 T.f__law_unlike T.fd__law_unlike ["store", "prime", "many"] sp_unlike := by
  have G__law_take := ok_take (P := P) (w := w) (base := base) T
  refine Vb.okN T.d__law_unlike.F sc__law_unlike (fun vs H Q E h => ?_) (fun cdv A outer s H vs Q E hr h => ?_)
  · obtain ⟨st, p, m, rfl, _⟩ := h
    rfl
  · obtain ⟨st, p, m, rfl, hS, hp, hm, q⟩ := h
    refine ⟨_, (pss_cons (ps_set (i := 3) sc__law_unlike.nd rfl (by first | exact Or.inl rfl | exact Or.inr rfl) (pe_listRg rfl (by rfl) T.n_list (prg_1 (by rfl) T.n_range (pv 1))))
      (pss_cons (ps_set (i := 4) sc__law_unlike.nd rfl (by first | exact Or.inl rfl | exact Or.inr rfl) (pe_lst pa_nil))
      (pss_cons (ps_for (L2.passes_of rfl) rfl (pi_range1 rfl T.n_range (pa_cons (pe_callB (Vb.call_min2 rfl) (by rfl) T.n_min (by decide +kernel) (pa_cons (pv 2) (pa_cons (pv 1) pa_nil))) pa_nil)) (pg_name (i := 5) sc__law_unlike.nd rfl (by first | exact Or.inl rfl | exact Or.inr rfl))
        (pss_one (ps_expr (pe_bm PySem.F.plainAttrs_list PySem.F.slot_list_append PySem.F.type_list_append mt_append (pv 4) (pa_cons (pe_bm PySem.F.plainAttrs_list PySem.F.slot_list_pop PySem.F.type_list_pop mt_popAt (pv 3) (pa_cons (pe_callS G__law_take (hr.mono (by first | decide | omega)) (by rfl) T.d__law_take.g T.d__law_take.F.kp T.d__law_take.b (fun σ => L2N.passAt (L2N.takes_of rfl rfl rfl rfl) σ) (pa_cons (pv 0) (pa_cons (pe_callB Vb.call_len (by rfl) T.n_len (by decide +kernel) (pa_cons (pv 3) pa_nil)) pa_nil))) pa_nil)) pa_nil)))))
      (pss_one (ps_ret (pv 4)))))), ?_⟩
    (change (_ : L2.TS) _ ([some (.ref st), some (.int p), some (.int m), none, none, none] : L2.St) _); try dsimp only [L2.cxOf, L2H.cxH]
    walk_at "rd"
    refine ⟨RgOk.of_le (by omega) (by omega) (by omega) (by omega), fun L nL => ?_⟩
    have eL := Vb.same_new (o := .lst (rgV 0 p)) nL
    have hL : (upd H L (.lst (rgV 0 p))) L = some (.lst ((fnums p).map V.int)) := by
      rw [upd_same]
      unfold rgV fnums
      rw [List.map_map, Int.sub_zero]
      congr 2
      refine List.map_congr_left fun i _ => ?_
      show V.int (0 + (i : Int)) = V.int (i : Int)
      rw [Int.zero_add]
    have mL := hS.ne nL
    have S1 := hS.same eL
    generalize upd H L _ = H1 at eL hL S1 ⊢
    walk_at "rd"
    refine ⟨Vb.size_ok (by show 0 ≤ 16777216; decide), fun N nN => ?_⟩
    have nNH := eL.free nN
    have eN := eL.trans (Vb.same_new (o := .lst []) nN)
    have hN : (upd H1 N (.lst [])) N = some (.lst []) := upd_same
    have hL2 := Vb.h_new (o := .lst []) nN hL
    have mN := S1.ne nN
    have neNL : L ≠ N := ne_of_none hL nN
    have S2 := S1.same (Vb.same_new (o := .lst []) nN)
    generalize upd H1 N _ = H2 at eN hN hL2 S2 ⊢
    clear hL S1 eL
    obtain ⟨k, hk, k0, k1, k2⟩ : ∃ k : Nat, (if p < m then p else m) = (k : Int) ∧ (k : Int) ≤ p ∧ (k : Int) ≤ m ∧ (k : Int) = min m p := ⟨(if p < m then p else m).toNat, by split <;> omega, by split <;> omega, by split <;> omega, by split <;> omega⟩
    walk_at "rd"
    rw [hk]
    walk_at "rd"
    rw [Int.toNat_natCast]
    refine Vb.lp_range (fun i σ H' => ∃ (us ls : List Int) (y : Option V), Vb.Fr st H H' ∧ Vb.StoreAt H' st ∧ H' L = some (.lst (ls.map V.int)) ∧ H' N = some (.lst (us.map V.int)) ∧ us.length = i ∧ (us ++ ls).Perm (fnums p) ∧ σ = [some (.ref st), some (.int p), some (.int m), some (.ref L), some (.ref N), y])
      ⟨[], fnums p, none, Vb.Fr.of eN, S2, hL2, hN, rfl, List.Perm.refl _, rfl⟩ ?_ ?_
    · rintro i σ H' hi ⟨us, ls, y, F, S, hL, hN, hu, pm, rfl⟩
      have tl := pm.length_eq
      rw [List.length_append, fnums_len] at tl
      have lx : (ls.map V.int).length = ls.length := List.length_map ..
      walk_at "rd"
      refine use_take S (by rw [lx]; omega) fun t H3 t1 t2 t3 f3 S3 => ?_
      rw [lx] at t2 t3
      have hL3 := f3.k _ _ mL hL
      have hN3 := f3.k _ _ mN hN
      obtain ⟨j, rfl⟩ : ∃ j : Nat, t = (j : Int) := ⟨t.toNat, by omega⟩
      have hj : j < ls.length := by omega
      have hv : (ls.map V.int)[j]? = some (.int ls[j]) := Vb.getV hj
      walk_at "rd"
      refine r_popAt (by rw [lx]; exact hj) (by rw [lx]; omega) hL3 hv ?_
      have e4 : (ls.map V.int).eraseIdx j = (ls.eraseIdx j).map V.int := erase_map ls j
      rw [e4]
      have F3 := F.trans f3
      have S4 := hS.mut (o := .lst ((ls.eraseIdx j).map V.int)) nL F3 S3
      have F4 := F3.mut (o := .lst ((ls.eraseIdx j).map V.int)) nL
      have hL4 : (upd H3 L (.lst ((ls.eraseIdx j).map V.int))) L = some (.lst ((ls.eraseIdx j).map V.int)) := upd_same
      have hN4 : (upd H3 L (.lst ((ls.eraseIdx j).map V.int))) N = some (.lst (us.map V.int)) := Vb.h_ne (Ne.symm neNL) hN3
      generalize upd H3 L _ = H4 at F4 S4 hL4 hN4 ⊢
      have sz : (us.map V.int).length < sizeLine := Vb.size_lt (by rw [List.length_map]; omega)
      walk_at "rd"
      refine ⟨us ++ [ls[j]], ls.eraseIdx j, _, F4.mut nNH, hS.mut nNH F4 S4, Vb.h_ne neNL hL4, by rw [upd_same, List.map_append]; rfl, by rw [List.length_append, hu]; rfl, ?_, rfl⟩
      rw [List.append_assoc]
      exact (List.Perm.append_left us (erase_perm hj)).trans pm
    · rintro σ H' ⟨us, ls, y, F, S, hL, hN, hu, pm, rfl⟩
      walk_at "rd"
      exact q N H' us mN hN (by omega) (fun c mc => fnums_mem.mp (pm.mem_iff.mp (List.mem_append_left _ mc))) ((List.nodup_append.mp (pm.nodup_iff.mpr (fnums_nodup p))).1) F S
end
end K
namespace K
open PySem PySem.Spec PyProof.Rows L2
abbrev N_root_factor : List Str := ["prime", "number"]
theorem sc_root_factor : FnScope N_root_factor ["prime", "number"] (defScope s_root_factor) := ⟨rfl, rfl, rfl, by decide +kernel, rfl, by decide +kernel, by decide +kernel⟩
section
variable {P : Program} {w : World} {K : PySem.W.Frag} {mg : Str → Option Value} {base : Heap}
def sp_rootfactor (K : PySem.W.Frag) (C : Addr) : Sp := fun vs H Q _ => ∃ (p x : Int), vs = [.int p, .int x] ∧ (Vb.Prm p ∧ p ≤ 101) ∧ ∀ (a : Addr) (H' : Hp), Same H H' → PolyAt K C H' a p [-x % p, 1] → Q (.ref a) H'
theorem ok_rootfactor (T : Txt K mg) : FnOk P w K mg base (L2N.CX P w) 7 T.f_root_factor T.fd_root_factor ["prime", "number"] (sp_rootfactor K T.C_Poly) := by
  have G_Poly___init__ := ok_pinit (P := P) (w := w) (base := base) T
  refine Vb.okN T.d_root_factor.F sc_root_factor (fun vs H Q E h => ?_) (fun cdv A outer s H vs Q E hr h => ?_)
  · obtain ⟨p, x, rfl, _⟩ := h
    rfl
  · obtain ⟨p, x, rfl, hp, q⟩ := h
    have hp2 := hp.1.1
    refine ⟨_, (pss_one (ps_ret (Vb.pe_makeP T.mk_Poly G_Poly___init__ (hr.mono (by first | decide | omega)) (by rfl) T.g_Poly T.d_Poly___init__.b (fun σ => L2N.passAt (L2N.takes_of rfl rfl rfl rfl) σ) (pa_cons (pv 0) (pa_cons (pe_tup (pa_cons (pe_op op_mod (pe_un un_neg (pv 1)) (pv 0)) (pa_cons pe_int pa_nil))) pa_nil))))), ?_⟩
    (change (_ : L2.TS) _ ([some (.int p), some (.int x)] : L2.St) _); try dsimp only [L2.cxOf, L2H.cxH]
    walk_at "rd"
    refine ⟨Vb.size_ok (by show 2 ≤ 16777216; decide), fun W nW => ?_⟩
    have eW := Vb.same_new (o := .tup [.int (-x % p), .int 1]) nW
    walk_at "rd"
    refine use_mkpoly (ns := [-x % p, 1]) hp (.inr (Vb.st_of upd_same)) (fun c m => ?_) (fun _ a H2 na e2 va => ?_) (fun hl => absurd hl (by show ¬ 128 < 2; decide))
    · rcases List.mem_cons.mp m with rfl | m
      · exact ⟨Int.emod_nonneg _ (by omega), Int.emod_lt_of_pos _ (by omega)⟩
      · rw [List.mem_singleton.mp m]; omega
    · rw [show trim [-x % p, 1] = [-x % p, 1] from trim_full [-x % p] 1 (by decide)] at va
      exact q a H2 (eW.trans e2) va
end
end K
namespace K
open PySem PySem.Spec PyProof.Rows L2
section
variable {P : Program} {w : World} {K : PySem.W.Frag} {mg : Str → Option Value} {base : Heap}
theorem r_bin {C : Addr} {sp : Sp} {E : L2.St → XK} {ta tb : TE} {σ : L2.St} {H : Hp} {Q : VK} (h : ta σ H fun x H1 => tb σ H1 fun y H2 => ∃ a b dx dy fs gs, x = .ref a ∧ y = .ref b ∧ H2 a = some (.ins C dx fs) ∧ H2 b = some (.ins C dy gs) ∧ sp [x, y] H2 (fun v H' => ∃ r, v = .ref r ∧ Q v H') (E σ)) : Vb.tBinP C sp E ta tb σ H Q := h
theorem r_binA {K : PySem.W.Frag} {C a b : Addr} {p r : Int} {cs ds : List Int} {H : Hp} {R : Prop} (va : PolyAt K C H a p cs) (vb : PolyAt K C H b r ds) (q : R) : ∃ a' b' dx dy fs gs, V.ref a = .ref a' ∧ V.ref b = .ref b' ∧ H a' = some (.ins C dx fs) ∧ H b' = some (.ins C dy gs) ∧ R := by
  obtain ⟨dx, t, ha, _⟩ := va.o
  obtain ⟨dy, u, hb, _⟩ := vb.o
  exact ⟨a, b, dx, dy, _, _, rfl, rfl, ha, hb, q⟩
theorem r_neg {C : Addr} {sp : Sp} {E : L2.St → XK} {ta : TE} {σ : L2.St} {H : Hp} {Q : VK} (h : ta σ H fun x H1 => ∃ a dx fs, x = .ref a ∧ H1 a = some (.ins C dx fs) ∧ sp [x] H1 Q (E σ)) : Vb.tNegP C sp E ta σ H Q := h
theorem r_negA {K : PySem.W.Frag} {C a : Addr} {p : Int} {cs : List Int} {H : Hp} {R : Prop} (va : PolyAt K C H a p cs) (q : R) : ∃ a' dx fs, V.ref a = .ref a' ∧ H a' = some (.ins C dx fs) ∧ R := by
  obtain ⟨dx, t, ha, _⟩ := va.o
  exact ⟨a, dx, _, rfl, ha, q⟩
end
end K
namespace K
open PySem PySem.Spec PyProof.Rows L2
abbrev N_from_roots : List Str := ["prime", "numbers", "result", "number"]
theorem sc_from_roots : FnScope N_from_roots ["prime", "numbers"] (defScope s_from_roots) := ⟨rfl, rfl, rfl, by decide +kernel, rfl, by decide +kernel, by decide +kernel⟩
section
variable {P : Program} {w : World} {K : PySem.W.Frag} {mg : Str → Option Value} {base : Heap}
/-- the product of X minus each number, or what is refused -/
def sp_fromroots (K : PySem.W.Frag) (C NP N L : Addr) : Sp := fun vs H Q E => ∃ (vp : V) (dp : PyData) (l : Addr) (xs : List V) (ds : List PyData), vs = [vp, .ref l] ∧ Dp K H vp dp ∧ Vb.SqA K H l xs ∧ DpAll K H xs ds ∧
  (field dp = false → ∀ dd : Addr, H dd = none → E (.ref NP) (some dd) (upd H dd (.xd [("value", vp)]))) ∧
  (∀ p : Int, dp = .int p → field dp = true → (127 < xs.length → E (.ref L) none H) ∧
    (xs.length ≤ 127 → ∀ (i : Nat) (v : V) (d : PyData), xs[i]? = some v → ds[i]? = some d → (∀ (j : Nat) e, j < i → ds[j]? = some e → inField p e = true) → inField p d = false → ∀ dd : Addr, H dd = none → E (.ref N) (some dd) (upd H dd (.xd [("value", v)]))) ∧
    (xs.length ≤ 127 → ∀ ns : List Int, xs = ns.map V.int → ds = ns.map PyData.int → (∀ n ∈ ns, 0 ≤ n ∧ n < p) → ∀ (x : Addr) (H' : Hp) (zs : List Int), Same H H' → PolyAt K C H' x p zs → RP p ns zs → Q (.ref x) H'))
theorem field_int {n : Int} (h : field (.int n) = true) : Vb.Prm n ∧ n ≤ 101 := by
  have h' : (decide (n ≤ 101) && Vb.isP n) = true := h
  rw [Bool.and_eq_true] at h'
  exact ⟨(Vb.isP_iff n).mp h'.2, of_decide_eq_true h'.1⟩
theorem ok_fromroots (T : Txt K mg) : FnOk P w K mg base (L2N.CX P w) 8 T.f_from_roots T.fd_from_roots ["prime", "numbers"] (sp_fromroots K T.C_Poly T.C_NotPrime T.C_NotInField T.C_TooLarge) := by
  have G_check_prime := ok_check (P := P) (w := w) (base := base) T
  have G_check_at_most := ok_atmost (P := P) (w := w) (base := base) T
  have G_check_numbers := ok_checknums (P := P) (w := w) (base := base) T
  have G_constant := ok_constant (P := P) (w := w) (base := base) T
  have G_root_factor := ok_rootfactor (P := P) (w := w) (base := base) T
  have G_Poly___mul__ := ok_pmul (P := P) (w := w) (base := base) T
  refine Vb.okN T.d_from_roots.F sc_from_roots (fun vs H Q E h => ?_) (fun cdv A outer s H vs Q E hr h => ?_)
  · obtain ⟨vp, dp, l, xs, ds, rfl, _⟩ := h
    rfl
  · obtain ⟨vp, dp, l, xs, ds, rfl, hvp, hl, hd, q1, q2⟩ := h
    refine ⟨_, (pss_cons (ps_expr (pe_callS G_check_prime (hr.mono (by first | decide | omega)) (by rfl) T.d_check_prime.g T.d_check_prime.F.kp T.d_check_prime.b (fun σ => L2N.passAt (L2N.takes_of rfl rfl rfl rfl) σ) (pa_cons (pv 0) pa_nil)))
      (pss_cons (ps_expr (pe_callS G_check_at_most (hr.mono (by first | decide | omega)) (by rfl) T.d_check_at_most.g T.d_check_at_most.F.kp T.d_check_at_most.b (fun σ => L2N.passAt (L2N.takes_of rfl rfl rfl rfl) σ) (pa_cons (pv 1) (pa_cons (pe_op op_sub (pe_glob (v := .int 128) (by rfl) T.c_MAX_COEFFICIENTS ⟨_, rfl⟩) pe_int) pa_nil))))
      (pss_cons (ps_expr (pe_callS G_check_numbers (hr.mono (by first | decide | omega)) (by rfl) T.d_check_numbers.g T.d_check_numbers.F.kp T.d_check_numbers.b (fun σ => L2N.passAt (L2N.takes_of rfl rfl rfl rfl) σ) (pa_cons (pv 0) (pa_cons (pv 1) pa_nil))))
      (pss_cons (ps_set (i := 2) sc_from_roots.nd rfl (by first | exact Or.inl rfl | exact Or.inr rfl) (pe_callS G_constant (hr.mono (by first | decide | omega)) (by rfl) T.d_constant.g T.d_constant.F.kp T.d_constant.b (fun σ => L2N.passAt (L2N.takes_of rfl rfl rfl rfl) σ) (pa_cons (pv 0) (pa_cons pe_int pa_nil))))
      (pss_cons (ps_for (L2.passes_of rfl) rfl (Vb.pi_seq (pv 1)) (pg_name (i := 3) sc_from_roots.nd rfl (by first | exact Or.inl rfl | exact Or.inr rfl))
        (pss_one (ps_set (i := 2) sc_from_roots.nd rfl (by first | exact Or.inl rfl | exact Or.inr rfl) (Vb.pe_binP T.m_Poly___mul__.at_ T.m_Poly___mul__.fn T.sf_Poly G_Poly___mul__ (hr.mono (by first | decide | omega)) T.d_Poly___mul__.b (fun σ => L2N.passAt (L2N.takes_of rfl rfl rfl rfl) σ) rfl (pv 2) (pe_callS G_root_factor (hr.mono (by first | decide | omega)) (by rfl) T.d_root_factor.g T.d_root_factor.F.kp T.d_root_factor.b (fun σ => L2N.passAt (L2N.takes_of rfl rfl rfl rfl) σ) (pa_cons (pv 0) (pa_cons (pv 3) pa_nil)))))))
      (pss_one (ps_ret (pv 2)))))))), ?_⟩
    (change (_ : L2.TS) _ ([some (vp), some (.ref l), none, none] : L2.St) _); try dsimp only [L2.cxOf, L2H.cxH]
    walk_at "rd"
    refine ⟨vp, dp, rfl, hvp, fun hf => ?_, q1⟩
    obtain ⟨p, rfl⟩ : ∃ p, dp = .int p := by
      cases dp with
      | int p => exact ⟨p, rfl⟩
      | _ => cases hf
    cases hvp
    have hp := field_int hf
    have hp2 := hp.1.1
    obtain ⟨qL, qN, qG⟩ := q2 p rfl hf
    walk_at "rd"
    refine ⟨l, xs, 127, rfl, hl, fun h8 => ?_, fun h8 => qL (by omega)⟩
    walk_at "rd"
    refine ⟨p, l, xs, ds, rfl, hl, hd, fun all => ?_, fun i v d h1 h2 h3 h4 => qN (by omega) i v d h1 h2 h3 h4⟩
    obtain ⟨ns, hx, hds, hb⟩ : ∃ ns : List Int, xs = ns.map V.int ∧ ds = ns.map PyData.int ∧ ∀ n ∈ ns, 0 ≤ n ∧ n < p := by
      clear q1 q2 qL qN qG h8 hl
      induction ds generalizing xs with
      | nil =>
        cases hd
        exact ⟨[], rfl, rfl, fun n m => by cases m⟩
      | cons d ds ih =>
        cases hd with
        | @cons v vs _ _ h1 h2 =>
          obtain ⟨ns, e1, e2, e3⟩ := ih vs h2 fun d m => all d (List.mem_cons_of_mem _ m)
          obtain ⟨x, rfl, hx⟩ := inField_of (all d (List.mem_cons_self ..))
          cases h1
          refine ⟨x :: ns, by rw [e1]; rfl, by rw [e2]; rfl, fun n m => ?_⟩
          rcases List.mem_cons.mp m with rfl | m
          · exact hx
          · exact e3 n m
    subst hx hds
    rw [List.length_map] at h8
    have goal := qG (by rw [List.length_map]; omega) ns rfl rfl hb
    clear q1 q2 qL qN qG
    walk_at "rd"
    refine ⟨p, 1, rfl, hp, ⟨by decide, by omega⟩, fun c0 H1 nc e1 vc => ?_⟩
    rw [show trim [1] = [1] from rfl] at vc
    walk_at "rd"
    refine Vb.lp_seq (xs := ns.map V.int) (fun i σ H' => ∃ (c : Addr) (zs : List Int) (y : Option V), Same H1 H' ∧ PolyAt K T.C_Poly H' c p zs ∧ RP p (ns.take i) zs ∧ σ = [some (.int p), some (.ref l), some (.ref c), y]) ⟨c0, [1], none, Same.refl _, vc, .nil, rfl⟩ (Vb.sqA_same e1 hl) (fun i σ' H' _ h => by obtain ⟨_, _, _, e, _⟩ := h; exact e) ?_ ?_
    · rintro i x σ H' hx ⟨c, zs, y, e, vc, hr, rfl⟩
      obtain ⟨x, hx1, rfl⟩ := Vb.getV' hx
      have lz := hr.len
      have lt : (ns.take i).length ≤ i := List.length_take_le _ _
      have hi := (List.getElem?_eq_some_iff.mp hx1).1
      walk_at "rd"
      refine r_bin ?_
      walk_at "rd"
      refine ⟨p, x, rfl, hp, fun b H2 e2 vb => ?_⟩
      have vc2 := vc.same e2
      refine r_binA vc2 vb ?_
      refine ⟨c, b, p, p, _, _, rfl, vc2, vb, (fun _ z H3 us _ e3 vz hco => ?_), (fun _ ws _ _ hco hbig => absurd (trim_short (zs := ws) (n := 128) fun k hk => by rw [hco, cv_out (by show zs.length + 2 ≤ k + 1; omega), Int.zero_emod]) (by omega)), fun e => absurd rfl e⟩
      refine ⟨z, rfl, ?_⟩
      refine ⟨z, us, _, e.trans (e2.trans e3), vz, ?_, rfl⟩
      rw [List.take_add_one, hx1]
      exact .snoc hr vz.tr hco
    · rintro σ H' ⟨c, zs, y, e, vc, hr, rfl⟩
      rw [List.length_map, List.take_length] at hr
      walk_at "rd"
      exact goal c H' zs (e1.trans e) vc hr
end
end K
namespace K
open PySem PySem.Spec PyProof.Rows L2
abbrev N_Poly_ends : List Str := ["self"]
theorem sc_Poly_ends : FnScope N_Poly_ends ["self"] (defScope s_Poly_ends) := ⟨rfl, rfl, rfl, by decide +kernel, rfl, by decide +kernel, by decide +kernel⟩
section
variable {P : Program} {w : World} {K : PySem.W.Frag} {mg : Str → Option Value} {base : Heap}
def sp_pends (K : PySem.W.Frag) (C : Addr) : Sp := fun vs H Q _ => ∃ (a : Addr) (p : Int) (cs : List Int), vs = [.ref a] ∧ PolyAt K C H a p cs ∧ ∀ H', Same H H' → Q (.int ((ev cs 0 % p + ev cs 1 % p) % p)) H'
theorem ok_pends (T : Txt K mg) : FnOk P w K mg base (L2N.CX P w) 5 T.f_Poly_ends T.fd_Poly_ends ["self"] (sp_pends K T.C_Poly) := by
  have G_Poly_at := ok_pat (P := P) (w := w) (base := base) T
  refine Vb.okN T.d_Poly_ends.F sc_Poly_ends (fun vs H Q E h => ?_) (fun cdv A outer s H vs Q E hr h => ?_)
  · obtain ⟨a, p, cs, rfl, _⟩ := h
    rfl
  · obtain ⟨a, p, cs, rfl, va, q⟩ := h
    obtain ⟨dx, t, ha, ht⟩ := va.o
    have hp2 := va.two
    have cP := T.c_Poly
    have aP : NoAttr K T.C_Poly "prime" := T.a_Poly_prime
    refine ⟨_, (pss_one (ps_ret (pe_op op_mod (pe_op op_add (Vb.pe_methP (pv 0) T.c_Poly T.m_Poly_at G_Poly_at (hr.mono (by first | decide | omega)) T.d_Poly_at.b (fun σ => L2N.passAt (L2N.takes_of rfl rfl rfl rfl) σ) (pa_cons pe_int pa_nil)) (Vb.pe_methP (pv 0) T.c_Poly T.m_Poly_at G_Poly_at (hr.mono (by first | decide | omega)) T.d_Poly_at.b (fun σ => L2N.passAt (L2N.takes_of rfl rfl rfl rfl) σ) (pa_cons pe_int pa_nil))) (pe_fld (pv 0) (by rfl))))), ?_⟩
    (change (_ : L2.TS) _ ([some (.ref a)] : L2.St) _); try dsimp only [L2.cxOf, L2H.cxH]
    walk_at "rd"
    refine run_pat va (by omega) fun H1 e1 => ?_
    walk_at "rd"
    refine run_pat (va.same e1) (by omega) fun H2 e2 => ?_
    have ha2 := e2 _ _ (e1 _ _ ha)
    walk_at "rd"
    exact q H2 (e1.trans e2)
end
end K
namespace K
open PySem PySem.Spec PyProof.Rows L2
section
/-- a list that is filled with numbers -/
theorem fill_snoc {cs : List Int} {i : Nat} {g : Int → Int} (h : i < cs.length) : ((cs.take i).map g).map V.int ++ [.int (g (co cs i))] = ((cs.take (i + 1)).map g).map V.int := by
  rw [List.take_add_one, co_in h]
  simp
end
end K
namespace K
open PySem PySem.Spec PyProof.Rows L2
abbrev N_Poly_scale : List Str := ["self", "number", "coefficient"]
theorem sc_Poly_scale : FnScope N_Poly_scale ["self", "number"] (defScope s_Poly_scale) := ⟨rfl, rfl, rfl, by decide +kernel, rfl, by decide +kernel, by decide +kernel⟩
section
variable {P : Program} {w : World} {K : PySem.W.Frag} {mg : Str → Option Value} {base : Heap}
def sp_pscale (K : PySem.W.Frag) (C N : Addr) : Sp := fun vs H Q E => ∃ (a : Addr) (p : Int) (cs : List Int) (v : V) (d : PyData), vs = [.ref a, v] ∧ PolyAt K C H a p cs ∧ Dp K H v d ∧ (∀ n, d = .int n → 0 ≤ n ∧ n < p → ∀ x H', H x = none → Same H H' → PolyAt K C H' x p (trim (cs.map fun c => n * c % p)) → Q (.ref x) H') ∧ (inField p d = false → ∀ dd : Addr, H dd = none → E (.ref N) (some dd) (upd H dd (.xd [("value", v)])))
theorem ok_pscale (T : Txt K mg) : FnOk P w K mg base (L2N.CX P w) 7 T.f_Poly_scale T.fd_Poly_scale ["self", "number"] (sp_pscale K T.C_Poly T.C_NotInField) := by
  have G_check_number := ok_checknum (P := P) (w := w) (base := base) T
  have G_Poly___init__ := ok_pinit (P := P) (w := w) (base := base) T
  refine Vb.okN T.d_Poly_scale.F sc_Poly_scale (fun vs H Q E h => ?_) (fun cdv A outer s H vs Q E hr h => ?_)
  · obtain ⟨a, p, cs, v, d, rfl, _⟩ := h
    rfl
  · obtain ⟨a, p, cs, v, d, rfl, va, hd, q, q1⟩ := h
    obtain ⟨dx, t, ha, ht⟩ := va.o
    have hp2 := va.two
    have l1 := va.ln
    have cP := T.c_Poly
    have aP : NoAttr K T.C_Poly "prime" := T.a_Poly_prime
    have aC : NoAttr K T.C_Poly "coefficients" := T.a_Poly_coefficients
    refine ⟨_, (pss_cons (ps_expr (pe_callS G_check_number (hr.mono (by first | decide | omega)) (by rfl) T.d_check_number.g T.d_check_number.F.kp T.d_check_number.b (fun σ => L2N.passAt (L2N.takes_of rfl rfl rfl rfl) σ) (pa_cons (pe_fld (pv 0) (by rfl)) (pa_cons (pv 1) pa_nil))))
      (pss_one (ps_ret (Vb.pe_makeP T.mk_Poly G_Poly___init__ (hr.mono (by first | decide | omega)) (by rfl) T.g_Poly T.d_Poly___init__.b (fun σ => L2N.passAt (L2N.takes_of rfl rfl rfl rfl) σ) (pa_cons (pe_fld (pv 0) (by rfl)) (pa_cons (pe_lc (own := [("coefficient", 2)]) (g := gName 2) (tt := tYes) rfl sc_Poly_scale.nd (pi_tup (pe_fld (pv 0) (by rfl))) (blkOk_by (own := [("coefficient", 2)]) (N := N_Poly_scale) (sc := defScope s_Poly_scale) (by decide +kernel)) (fun _ _ _ _ _ => (pg_name (i := 2) sc_Poly_scale.nd rfl (by first | exact Or.inl rfl | exact Or.inr rfl))) (fun _ _ _ _ _ => pts_nil) (fun _ _ _ _ _ => (pe_op op_mod (pe_op op_mul (pv 1) (pv 2)) (Vb.pe_fldK (K := K) rfl (pv 0) (by rfl))))) pa_nil)))))), ?_⟩
    (change (_ : L2.TS) _ ([some (.ref a), some (v), none] : L2.St) _); try dsimp only [L2.cxOf, L2H.cxH]
    walk_at "rd"
    refine ⟨p, v, d, rfl, hd, fun f1 => ?_, fun f1 dd n => q1 f1 dd n⟩
    obtain ⟨n, rfl, n1⟩ := inField_of f1
    cases hd
    walk_at "rd"
    intro D hD
    refine Vb.lcw_tup (xs := cs.map V.int) (fun i H' => Same H H' ∧ H' D = some (.lst (((cs.take i).map fun c => n * c % p).map V.int))) ⟨Vb.same_new hD, by rw [List.take_zero]; exact upd_same⟩ (fun x => rfl) (fun i H' _ c => Vb.sqT_same c.1 ht) ?_ ?_
    · rintro i x H' hx ⟨e, h⟩
      obtain ⟨c, hc1, rfl⟩ := Vb.getV' hx
      have hi : i < cs.length := (List.getElem?_eq_some_iff.mp hc1).1
      have hci : co cs i = c := by
        rw [co_in hi] at hc1
        exact Option.some.inj hc1
      have ha1 := e _ _ ha
      walk_at "rd"
      refine ⟨_, h, Vb.size_lt (by rw [List.length_map, List.length_map, List.length_take]; omega), Vb.same_mut e hD, ?_⟩
      rw [upd_same, ← hci, fill_snoc (g := fun c => n * c % p) hi]
    · rintro H' ⟨e, h⟩
      rw [List.length_map, List.take_length] at h
      walk_at "rd"
      refine use_mkpoly va.pr (.inl (Vb.sq_of h)) (fun c m => ?_) (fun hl x H3 nx e3 vx => ?_) (fun hl => absurd hl (by rw [List.length_map]; omega))
      · obtain ⟨c', _, rfl⟩ := List.mem_map.mp m
        exact ⟨Int.emod_nonneg _ (by omega), Int.emod_lt_of_pos _ (by omega)⟩
      · exact q n rfl n1 x H3 (e.free nx) (e.trans e3) vx
end
end K
namespace K
open PySem PySem.Spec PyProof.Rows L2
abbrev N_unit_poly : List Str := ["prime", "numbers", "product", "ends"]
theorem sc_unit_poly : FnScope N_unit_poly ["prime", "numbers"] (defScope s_unit_poly) := ⟨rfl, rfl, rfl, by decide +kernel, rfl, by decide +kernel, by decide +kernel⟩
section
variable {P : Program} {w : World} {K : PySem.W.Frag} {mg : Str → Option Value} {base : Heap}
/-- the value at 0 and the value at 1 together -/
def endsOf (p : Int) (zs : List Int) : Int := (ev zs 0 % p + ev zs 1 % p) % p
/-- the product over the roots, scaled to ends of 1, or what is refused -/
def sp_unit (K : PySem.W.Frag) (C NP N L U : Addr) : Sp := fun vs H Q E => ∃ (vp : V) (dp : PyData) (l : Addr) (xs : List V) (ds : List PyData), vs = [vp, .ref l] ∧ Dp K H vp dp ∧ Vb.SqA K H l xs ∧ DpAll K H xs ds ∧
  (field dp = false → ∀ dd : Addr, H dd = none → E (.ref NP) (some dd) (upd H dd (.xd [("value", vp)]))) ∧
  (∀ p : Int, dp = .int p → field dp = true → (127 < xs.length → E (.ref L) none H) ∧
    (xs.length ≤ 127 → ∀ (i : Nat) (v : V) (d : PyData), xs[i]? = some v → ds[i]? = some d → (∀ (j : Nat) e, j < i → ds[j]? = some e → inField p e = true) → inField p d = false → ∀ dd : Addr, H dd = none → E (.ref N) (some dd) (upd H dd (.xd [("value", v)]))) ∧
    (xs.length ≤ 127 → ∀ ns : List Int, xs = ns.map V.int → ds = ns.map PyData.int → (∀ n ∈ ns, 0 ≤ n ∧ n < p) → ∀ zs, RP p ns zs → (endsOf p zs = 0 → ∀ H', Same H H' → E (.ref U) none H') ∧
      (endsOf p zs ≠ 0 → ∀ (x : Addr) (H' : Hp), Same H H' → PolyAt K C H' x p (trim (zs.map fun c => (endsOf p zs ^ (p - 2).toNat % p) * c % p)) → Q (.ref x) H')))
theorem ok_unit (T : Txt K mg) : FnOk P w K mg base (L2N.CX P w) 9 T.f_unit_poly T.fd_unit_poly ["prime", "numbers"] (sp_unit K T.C_Poly T.C_NotPrime T.C_NotInField T.C_TooLarge T.C_NoUnit) := by
  have G_from_roots := ok_fromroots (P := P) (w := w) (base := base) T
  have G_Poly_ends := ok_pends (P := P) (w := w) (base := base) T
  have G_Poly_scale := ok_pscale (P := P) (w := w) (base := base) T
  have G_Field___init__ := ok_finit (P := P) (w := w) (base := base) T
  have G_Field_invert := ok_finv (P := P) (w := w) (base := base) T
  refine Vb.okN T.d_unit_poly.F sc_unit_poly (fun vs H Q E h => ?_) (fun cdv A outer s H vs Q E hr h => ?_)
  · obtain ⟨vp, dp, l, xs, ds, rfl, _⟩ := h
    rfl
  · obtain ⟨vp, dp, l, xs, ds, rfl, hvp, hl, hd, q1, q2⟩ := h
    refine ⟨_, (pss_cons (ps_set (i := 2) sc_unit_poly.nd rfl (by first | exact Or.inl rfl | exact Or.inr rfl) (pe_callS G_from_roots (hr.mono (by first | decide | omega)) (by rfl) T.d_from_roots.g T.d_from_roots.F.kp T.d_from_roots.b (fun σ => L2N.passAt (L2N.takes_of rfl rfl rfl rfl) σ) (pa_cons (pv 0) (pa_cons (pv 1) pa_nil))))
      (pss_cons (ps_set (i := 3) sc_unit_poly.nd rfl (by first | exact Or.inl rfl | exact Or.inr rfl) (Vb.pe_methP0 (pv 2) T.c_Poly T.m_Poly_ends G_Poly_ends (hr.mono (by first | decide | omega)) T.d_Poly_ends.b (fun σ => L2N.passAt (L2N.takes_of rfl rfl rfl rfl) σ)))
      (pss_cons (ps_if (pt_cmpR op_eq (pv 3) pe_int (nomark _)) (pss_one (L2N.ps_raise rfl (L2N.takes_of rfl rfl rfl rfl) (Vb.pmk0 T.x_NoUnit rfl))) pss_nil)
      (pss_one (ps_ret (Vb.pe_methP (pv 2) T.c_Poly T.m_Poly_scale G_Poly_scale (hr.mono (by first | decide | omega)) T.d_Poly_scale.b (fun σ => L2N.passAt (L2N.takes_of rfl rfl rfl rfl) σ) (pa_cons (Vb.pe_methP (Vb.pe_makeP T.mk_Field G_Field___init__ (hr.mono (by first | decide | omega)) (by rfl) T.g_Field T.d_Field___init__.b (fun σ => L2N.passAt (L2N.takes_of rfl rfl rfl rfl) σ) (pa_cons (pv 0) pa_nil)) T.c_Field T.m_Field_invert G_Field_invert (hr.mono (by first | decide | omega)) T.d_Field_invert.b (fun σ => L2N.passAt (L2N.takes_of rfl rfl rfl rfl) σ) (pa_cons (pv 3) pa_nil)) pa_nil))))))), ?_⟩
    (change (_ : L2.TS) _ ([some (vp), some (.ref l), none, none] : L2.St) _); try dsimp only [L2.cxOf, L2H.cxH]
    walk_at "rd"
    refine ⟨vp, dp, l, xs, ds, rfl, hvp, hl, hd, q1, fun p hp hf => ⟨(q2 p hp hf).1, (q2 p hp hf).2.1, fun hlen ns e1 e2 hb x H1 zs h1 vx R => ?_⟩⟩
    obtain ⟨qz, qg⟩ := (q2 p hp hf).2.2 hlen ns e1 e2 hb zs R
    have pp := vx.pr
    have hp2 := vx.two
    clear q1 q2
    obtain ⟨dx, t, hx, ht⟩ := id vx.o
    walk_at "rd"
    subst hp
    cases hvp
    refine ⟨x, p, zs, rfl, vx, fun H2 e2' => ?_⟩
    have eb : 0 ≤ endsOf p zs ∧ endsOf p zs < p := ⟨Int.emod_nonneg _ (by omega), Int.emod_lt_of_pos _ (by omega)⟩
    show tSeq _ _ _ (((_ : L2.St).set 2 _).set 3 (some (.int (endsOf p zs)))) H2
    generalize hE : endsOf p zs = u at *
    have hx2 := e2' _ _ hx
    walk_at "rd"
    refine Vb.r_ite (fun c => ?_) (fun c => ?_)
    · walk_at "rd"
      exact qz (by omega) _ (h1.trans e2')
    walk_at "rd"
    refine use_mkfield pp.1 pp.2 (fun F H3 nF e3 hF => ?_)
    obtain ⟨dyF, hF'⟩ := id hF
    refine ⟨F, dyF, _, rfl, hF', rfl, ?_⟩
    walk_at "rd"
    refine ⟨F, p, _, .int u, rfl, hF, hp2, .int _, (fun x ex hx => ?_), fun hf => absurd hf (by rw [inField_int.mpr eb]; decide)⟩
    cases ex
    refine ⟨fun z => absurd z c, fun _ => ?_⟩
    walk_at "rd"
    have ib : 0 ≤ u ^ (p - 2).toNat % p ∧ u ^ (p - 2).toNat % p < p := ⟨Int.emod_nonneg _ (by omega), Int.emod_lt_of_pos _ (by omega)⟩
    exact ⟨x, p, zs, _, .int _, rfl, vx.same (e2'.trans e3), .int _, (fun n en _ y H4 _ e4 vy => by cases en; exact qg c y H4 (h1.trans (e2'.trans (e3.trans e4))) vy), fun hf => absurd hf (by rw [inField_int.mpr ib]; decide)⟩
end
end K
namespace K
open PySem PySem.Spec PyProof.Rows L2

abbrev N__law_divided : List Str := ["prime", "row", "number", "quotient", "carry", "k"]
theorem sc__law_divided : FnScope N__law_divided ["prime", "row", "number"] (defScope s__law_divided) := ⟨rfl, rfl, rfl, by decide +kernel, rfl, by decide +kernel, by decide +kernel⟩
section
variable {P : Program} {w : World} {K : PySem.W.Frag} {mg : Str → Option Value} {base : Heap}
/-- the numbers of a division by X minus n, from the top -/
def hrn (p n : Int) (row : List Int) : Nat → Int
  | 0 => 0
  | j + 1 => (hrn p n row j * n + co row (row.length - 1 - j)) % p
theorem hrn_bd {p n : Int} (hp : 2 ≤ p) (row : List Int) : ∀ j, 0 ≤ hrn p n row j ∧ hrn p n row j < p
  | 0 => ⟨by show (0 : Int) ≤ 0; decide, by show (0 : Int) < p; omega⟩
  | j + 1 => ⟨Int.emod_nonneg _ (by omega), Int.emod_lt_of_pos _ (by omega)⟩
def sp_divided (K : PySem.W.Frag) : Sp := fun vs H Q _ => ∃ (p n : Int) (l : Addr) (row : List Int), vs = [.int p, .ref l, .int n] ∧ (2 ≤ p ∧ p ≤ 101) ∧ (0 ≤ n ∧ n < 1000) ∧ SqL K H l (row.map V.int) ∧ (0 < row.length ∧ row.length ≤ 1000) ∧ (∀ c ∈ row, 0 ≤ c ∧ c < 1000) ∧
  ∀ (t r : Addr) (H' : Hp), Same H H' → H' t = some (.tup [.ref r, .int (hrn p n row row.length)]) → H' r = some (.lst (((List.range (row.length - 1)).map fun j => hrn p n row (j + 1)).reverse.map V.int)) → Q (.ref t) H'
theorem ok_divided (T : Txt K mg) : FnOk P w K mg base (L2N.CX P w) 1 T.f__law_divided T.fd__law_divided ["prime", "row", "number"] (sp_divided K) := by
  refine Vb.okN T.d__law_divided.F sc__law_divided (fun vs H Q E h => ?_) (fun cdv A outer s H vs Q E hr h => ?_)
  · obtain ⟨p, n, l, row, rfl, _⟩ := h
    rfl
  · obtain ⟨p, n, l, row, rfl, hp, hn, hl, hlen, hb, q⟩ := h
    have lr : (row.map V.int).length = row.length := List.length_map ..
    refine ⟨_, (pss_cons (ps_set (i := 3) sc__law_divided.nd rfl (by first | exact Or.inl rfl | exact Or.inr rfl) (pe_lst pa_nil))
      (pss_cons (ps_set (i := 4) sc__law_divided.nd rfl (by first | exact Or.inl rfl | exact Or.inr rfl) pe_int)
      (pss_cons (ps_for (L2.passes_of rfl) rfl (pi_range1 rfl T.n_range (pa_cons (pe_callB Vb.call_len (by rfl) T.n_len (by decide +kernel) (pa_cons (pv 1) pa_nil)) pa_nil)) (pg_name (i := 5) sc__law_divided.nd rfl (by first | exact Or.inl rfl | exact Or.inr rfl))
        (pss_cons (ps_set (i := 4) sc__law_divided.nd rfl (by first | exact Or.inl rfl | exact Or.inr rfl) (pe_op op_mod (pe_callTy Vb.call_int (by rfl) T.n_int (by decide +kernel) (pa_cons (pe_op op_add (pe_op op_mul (pv 4) (pv 2)) (pe_ix ix_list (pv 1) (pe_op op_sub (pe_op op_sub (pe_callB Vb.call_len (by rfl) T.n_len (by decide +kernel) (pa_cons (pv 1) pa_nil)) pe_int) (pv 5)) (fun _ _ => rfl))) pa_nil)) (pv 0)))
      (pss_one (ps_expr (pe_bm PySem.F.plainAttrs_list PySem.F.slot_list_append PySem.F.type_list_append mt_append (pv 3) (pa_cons (pv 4) pa_nil))))))
      (pss_cons (ps_expr (pe_bm0 PySem.F.plainAttrs_list PySem.F.slot_list_pop PySem.F.type_list_pop mt_pop (pv 3)))
      (pss_cons (ps_expr (pe_bm0 PySem.F.plainAttrs_list PySem.F.slot_list_reverse PySem.F.type_list_reverse mt_reverse (pv 3)))
      (pss_one (ps_ret (pe_tup (pa_cons (pv 3) (pa_cons (pv 4) pa_nil)))))))))), ?_⟩
    (change (_ : L2.TS) _ ([some (.int p), some (.ref l), some (.int n), none, none, none] : L2.St) _); try dsimp only [L2.cxOf, L2H.cxH]
    walk_at "rd"
    refine ⟨Vb.size_ok (by show 0 ≤ 16777216; decide), fun D nD => ?_⟩
    have e1 := Vb.same_new (o := .lst []) nD
    have hD : (upd H D (.lst [])) D = some (.lst []) := upd_same
    generalize upd H D (.lst []) = H1 at e1 hD ⊢
    have hl1 := e1.seq hl
    walk_at "rd"
    rw [lr]
    refine Vb.lp_range (fun i σ H' => Same H H' ∧ H' D = some (.lst (((List.range i).map fun j => hrn p n row (j + 1)).map V.int)) ∧ ∃ y, σ = [some (.int p), some (.ref l), some (.int n), some (.ref D), some (.int (hrn p n row i)), y]) ⟨e1, hD, none, rfl⟩ ?_ ?_
    · rintro i σ H' hi ⟨e, hD', y, rfl⟩
      rw [Int.zero_add]
      have hi' : i < row.length := by omega
      have hlH := e.seq hl
      have hb1 := hrn_bd hp.1 (n := n) row i
      have hx : (row.map V.int)[row.length - 1 - i]? = some (.int (co row (row.length - 1 - i))) := by
        rw [List.getElem?_map, co_in (by omega)]
        rfl
      have bx := hb _ (co_mem (xs := row) (k := row.length - 1 - i) (by omega))
      walk_at "rd"
      refine Vb.r_ixL hlH (Vb.at_lit (row.length - 1 - i) (by rw [lr]; omega) hx) ?_
      have big : (((List.range i).map fun j => hrn p n row (j + 1)).map V.int).length < 1000000 := by rw [List.length_map, List.length_map, List.length_range]; omega
      walk_at "rd"
      refine Vb.r_app hD' (Vb.size_lt (Nat.lt_trans big (by decide))) ?_
      refine ⟨Vb.same_mut e nD, ?_, _, rfl⟩
      rw [upd_same, List.range_succ, List.map_append, List.map_append]
      rfl
    rintro σ H' ⟨e, hD', y, rfl⟩
    have hN : (row.length : Int).toNat = row.length := by omega
    rw [hN] at hD' ⊢
    obtain ⟨m, hm⟩ : ∃ m, row.length = m + 1 := ⟨row.length - 1, by omega⟩
    have hp0 : ((List.range row.length).map fun j => hrn p n row (j + 1)).map V.int = ((List.range (row.length - 1)).map fun j => hrn p n row (j + 1)).map V.int ++ [.int (hrn p n row row.length)] := by
      rw [hm, Nat.add_sub_cancel, List.range_succ, List.map_append, List.map_append]
      rfl
    rw [hp0] at hD'
    walk_at "rd"
    refine ⟨D, _, _, rfl, rfl, hD', by rw [List.length_append]; exact List.getElem?_concat_length .., ?_⟩
    rw [List.dropLast_concat]
    have e2 := Vb.same_mut (o := .lst (((List.range (row.length - 1)).map fun j => hrn p n row (j + 1)).map V.int)) e nD
    have hD2 : (upd H' D (.lst (((List.range (row.length - 1)).map fun j => hrn p n row (j + 1)).map V.int))) D = some (.lst (((List.range (row.length - 1)).map fun j => hrn p n row (j + 1)).map V.int)) := upd_same
    generalize upd H' D _ = H2 at e2 hD2 ⊢
    walk_at "rd"
    have e3 := Vb.same_mut (o := .lst (((List.range (row.length - 1)).map fun j => hrn p n row (j + 1)).map V.int).reverse) e2 nD
    have hD3 : (upd H2 D (.lst (((List.range (row.length - 1)).map fun j => hrn p n row (j + 1)).map V.int).reverse)) D = some (.lst (((List.range (row.length - 1)).map fun j => hrn p n row (j + 1)).reverse.map V.int)) := by rw [upd_same, List.map_reverse]
    generalize upd H2 D _ = H3 at e3 hD3 ⊢
    refine ⟨Vb.size_ok (by show 2 ≤ 16777216; decide), fun t nt => ?_⟩
    walk_at "rd"
    exact q t D _ (e3.trans (Vb.same_new nt)) upd_same (Vb.same_new nt _ _ hD3)
end
end K
namespace K
open PySem PySem.Spec PyProof.Rows L2
section
theorem RP.ex (p : Int) : ∀ ns : List Int, ∃ zs, RP p ns zs := fun ns => by
  have h : ∀ n (ns : List Int), ns.length = n → ∃ zs, RP p ns zs := fun n => by
    induction n with
    | zero => exact fun ns e => ⟨[1], by rw [List.eq_nil_of_length_eq_zero e]; exact .nil⟩
    | succ n ih =>
      intro ns e
      have hne : ns ≠ [] := fun z => by rw [z] at e; cases e
      obtain ⟨zs, hz⟩ := ih ns.dropLast (by rw [List.length_dropLast]; omega)
      refine ⟨rstep p zs (ns.getLast hne), ?_⟩
      have s := RP.snoc (x := ns.getLast hne) hz (us := rstep p zs (ns.getLast hne)) (by unfold rstep; rw [trim_trim]) (co_rstep p zs _)
      rw [List.dropLast_concat_getLast] at s
      exact s
  exact h ns.length ns rfl
theorem RP.step {p n : Int} {ns us zs : List Int} (U : RP p ns us) (Z : RP p (ns ++ [n]) zs) (k : Nat) : co zs k = (-n % p * co us k + (if 1 ≤ k then co us (k - 1) else 0)) % p := by
  have e := Z.fold
  rw [List.foldl_append, ← U.fold] at e
  rw [e]
  show co (rstep p us n) k = _
  rw [co_rstep, cv_two]
/-- one division by X - n of a multiple of the product -/
theorem hrn_rp {p n c : Int} {ns us zs row : List Int} (hp : 2 ≤ p) (U : RP p ns us) (Z : RP p (ns ++ [n]) zs) (hr : ∀ k, co row k = c * co zs k % p) (hl : row.length = ns.length + 2) : (∀ j, j ≤ ns.length + 1 → hrn p n row j = c * co us (ns.length + 1 - j) % p) ∧ hrn p n row (ns.length + 2) = 0 := by
  have ul := U.length hp
  have turn : ∀ k a, a % p = (-n % p * co us k + (if 1 ≤ k then co us (k - 1) else 0)) % p → (c * co us k % p * n + c * a % p) % p = c * (if 1 ≤ k then co us (k - 1) else 0) % p := fun k a ha => by
    rw [Int.add_emod, Int.emod_emod_of_dvd _ (Int.dvd_refl p), mul_emod_l, ← Int.add_emod]
    rw [Int.add_emod, Int.mul_emod c a, ha, ← Int.mul_emod, ← Int.add_emod]
    have e1 : (c * (-n % p * co us k + (if 1 ≤ k then co us (k - 1) else 0))) % p = (c * (-n * co us k + (if 1 ≤ k then co us (k - 1) else 0))) % p := by
      have h0 : (-n % p * co us k + (if 1 ≤ k then co us (k - 1) else 0)) % p = (-n * co us k + (if 1 ≤ k then co us (k - 1) else 0)) % p := by rw [Int.add_emod, mul_emod_l, ← Int.add_emod]
      rw [Int.mul_emod, h0, ← Int.mul_emod]
    rw [Int.add_emod, e1, ← Int.add_emod]
    congr 1
    rw [Int.mul_add, Int.neg_mul, Int.mul_neg, Int.mul_comm n (co us k), ← Int.mul_assoc]
    omega
  have step : ∀ j, j ≤ ns.length + 1 → hrn p n row j = c * co us (ns.length + 1 - j) % p := fun j => by
    induction j with
    | zero =>
      intro _
      show (0 : Int) = _
      rw [co_out (by omega), Int.mul_zero, Int.zero_emod]
    | succ j ih =>
      intro hj
      show (hrn p n row j * n + co row (row.length - 1 - j)) % p = _
      rw [ih (by omega), hr, hl, show ns.length + 2 - 1 - j = ns.length + 1 - j by omega, turn (ns.length + 1 - j) _ (by rw [U.step Z, Int.emod_emod_of_dvd _ (Int.dvd_refl p)]), if_pos (by omega), show ns.length + 1 - j - 1 = ns.length + 1 - (j + 1) by omega]
  refine ⟨step, ?_⟩
  show (hrn p n row (ns.length + 1) * n + co row (row.length - 1 - (ns.length + 1))) % p = 0
  rw [step _ (Nat.le_refl _), hr, hl, Nat.sub_self, show ns.length + 2 - 1 - (ns.length + 1) = 0 by omega, turn 0 _ (by rw [U.step Z, Int.emod_emod_of_dvd _ (Int.dvd_refl p)]), if_neg (by decide), Int.mul_zero, Int.zero_emod]
end
end K
namespace K
open PySem PySem.Spec PyProof.Rows L2
abbrev N__law_integer : List Str := ["actual"]
theorem sc__law_integer : FnScope N__law_integer ["actual"] (defScope s__law_integer) := ⟨rfl, rfl, rfl, by decide +kernel, rfl, by decide +kernel, by decide +kernel⟩
section
variable {P : Program} {w : World} {K : PySem.W.Frag} {mg : Str → Option Value} {base : Heap}
def sp_integer : Sp := fun vs H Q _ => ∃ n : Int, vs = [.int n] ∧ Q (.bl true) H
theorem ok_integer (T : Txt K mg) : FnOk P w K mg base (L2N.CX P w) 1 T.f__law_integer T.fd__law_integer ["actual"] sp_integer := by
  refine Vb.okN T.d__law_integer.F sc__law_integer (fun vs H Q E h => ?_) (fun cdv A outer s H vs Q E hr h => ?_)
  · obtain ⟨n, rfl, _⟩ := h
    rfl
  · obtain ⟨n, rfl, q⟩ := h
    refine ⟨_, (pss_one (ps_ret (pe_and (pe_callB call_isi (by rfl) T.n_isinstance (by decide +kernel) (pa_cons (pv 0) (pa_cons (pe_bltn (v := .ty "int") (by rfl) T.n_int (by decide +kernel) rfl) pa_nil))) (pe_one (pe_not (pe_callB call_isi (by rfl) T.n_isinstance (by decide +kernel) (pa_cons (pv 0) (pa_cons (pe_bltn (v := .ty "bool") (by rfl) T.n_bool (by decide +kernel) rfl) pa_nil)))))))), ?_⟩
    (change (_ : L2.TS) _ ([some (.int n)] : L2.St) _); try dsimp only [L2.cxOf, L2H.cxH]
    have hd : Dp K H (.int n) (.int n) := .int n
    walk_at "rd"
    exact q
end
end K
namespace K
open PySem PySem.Spec PyProof.Rows L2
abbrev N_Poly_degree : List Str := ["self"]
theorem sc_Poly_degree : FnScope N_Poly_degree ["self"] (defScope s_Poly_degree) := ⟨rfl, rfl, rfl, by decide +kernel, rfl, by decide +kernel, by decide +kernel⟩
section
variable {P : Program} {w : World} {K : PySem.W.Frag} {mg : Str → Option Value} {base : Heap}
theorem r_prop {C : Addr} {sp : Sp} {E : XK} {dvs : List V} {ta : TE} {σ : L2.St} {H : Hp} {Q : VK} (h : ta σ H fun x H1 => ∃ a dx fs, x = .ref a ∧ H1 a = some (.ins C dx fs) ∧ sp (.ref a :: dvs) H1 Q E) : tProp C sp dvs E ta σ H Q := h
/-- the highest power, 0 for zero -/
def sp_pdeg (K : PySem.W.Frag) (C : Addr) : Sp := fun vs H Q _ => ∃ (a : Addr) (p : Int) (cs : List Int), vs = [.ref a] ∧ PolyAt K C H a p cs ∧ Q (.int ((cs.length - 1 : Nat) : Int)) H
theorem ok_pdeg (T : Txt K mg) : FnOk P w K mg base (L2N.CX P w) 1 T.f_Poly_degree T.fd_Poly_degree ["self"] (sp_pdeg K T.C_Poly) := by
  refine Vb.okN T.d_Poly_degree.F sc_Poly_degree (fun vs H Q E h => ?_) (fun cdv A outer s H vs Q E hr h => ?_)
  · obtain ⟨a, p, cs, rfl, _⟩ := h
    rfl
  · obtain ⟨a, p, cs, rfl, va, q⟩ := h
    obtain ⟨dx, t, ha, ht⟩ := va.o
    have cP := T.c_Poly
    have aC : NoAttr K T.C_Poly "coefficients" := T.a_Poly_coefficients
    refine ⟨_, (pss_one (ps_ret (pe_callB (Vb.call_max2 rfl) (by rfl) T.n_max (by decide +kernel) (pa_cons pe_int (pa_cons (pe_op op_sub (pe_callB Vb.call_len (by rfl) T.n_len (by decide +kernel) (pa_cons (pe_fld (pv 0) (by rfl)) pa_nil)) pe_int) pa_nil))))), ?_⟩
    (change (_ : L2.TS) _ ([some (.ref a)] : L2.St) _); try dsimp only [L2.cxOf, L2H.cxH]
    walk_at "rd"
    rw [show (if ((cs.map V.int).length : Int) - 1 > 0 then ((cs.map V.int).length : Int) - 1 else 0) = ((cs.length - 1 : Nat) : Int) by rw [List.length_map]; split <;> omega]
    exact q
end
end K
namespace K
open PySem PySem.Spec PyProof.Rows L2
abbrev N_Poly_fits : List Str := ["self", "bound"]
theorem sc_Poly_fits : FnScope N_Poly_fits ["self", "bound"] (defScope s_Poly_fits) := ⟨rfl, rfl, rfl, by decide +kernel, rfl, by decide +kernel, by decide +kernel⟩
section
variable {P : Program} {w : World} {K : PySem.W.Frag} {mg : Str → Option Value} {base : Heap}
def sp_pfits (K : PySem.W.Frag) (C : Addr) : Sp := fun vs H Q _ => ∃ (a : Addr) (p b : Int) (cs : List Int), vs = [.ref a, .int b] ∧ PolyAt K C H a p cs ∧ Q (.bl (decide (((cs.length - 1 : Nat) : Int) ≤ b))) H
theorem ok_pfits (T : Txt K mg) : FnOk P w K mg base (L2N.CX P w) 3 T.f_Poly_fits T.fd_Poly_fits ["self", "bound"] (sp_pfits K T.C_Poly) := by
  have G_Poly_degree := ok_pdeg (P := P) (w := w) (base := base) T
  refine Vb.okN T.d_Poly_fits.F sc_Poly_fits (fun vs H Q E h => ?_) (fun cdv A outer s H vs Q E hr h => ?_)
  · obtain ⟨a, p, b, cs, rfl, _⟩ := h
    rfl
  · obtain ⟨a, p, b, cs, rfl, va, q⟩ := h
    obtain ⟨dx, t, ha, ht⟩ := va.o
    refine ⟨_, (pss_one (ps_ret (pe_cmpR op_le (pe_prop (pv 0) T.c_Poly T.pr_Poly_degree G_Poly_degree (hr.mono (by first | decide | omega)) T.d_Poly_degree.b .nil Vb.pass5 (by rfl)) (pv 1) (nomark _)))), ?_⟩
    (change (_ : L2.TS) _ ([some (.ref a), some (.int b)] : L2.St) _); try dsimp only [L2.cxOf, L2H.cxH]
    walk_at "rd"
    refine r_prop ?_
    walk_at "rd"
    refine ⟨a, _, _, rfl, ha, a, p, cs, rfl, va, ?_⟩
    walk_at "rd"
    exact q
end
end K
namespace K
open PySem PySem.Spec PyProof.Rows L2
section
/-- an int among a list's, inside a comprehension -/
theorem op_inK {X : Cx} {K : PySem.W.Frag} (h : X.K = K) : OpR X (compareOp .In) (rIn K false) := by
  subst h
  exact op_in_seq
end
end K
namespace K
open PySem PySem.Spec PyProof.Rows L2
section
theorem ev_times (c : Int) (zs : List Int) (x : Int) : ev (zs.map fun z => c * z) x = c * ev zs x := by
  unfold ev
  rw [← su_mul, List.length_map]
  refine su_congr fun i _ => ?_
  rw [co_map_g (g := fun z => c * z) (Int.mul_zero c), Int.mul_assoc]
theorem ends_scale {p c : Int} {zs cs : List Int} (h : ∀ k, co cs k = c * co zs k % p) : endsOf p cs = c * endsOf p zs % p := by
  have e : ∀ x, ev cs x % p = c * ev zs x % p := fun x => by
    rw [← ev_times]
    exact ev_mod fun k => by rw [h, co_map_g (g := fun z => c * z) (Int.mul_zero c)]
  unfold endsOf
  rw [e, e, ← Int.add_emod, ← Int.mul_add, ← Int.add_emod, Int.mul_emod c ((ev zs 0 + ev zs 1) % p), Int.emod_emod_of_dvd _ (Int.dvd_refl p), ← Int.mul_emod]
/-- the product over the roots, scaled by c -/
structure UnitOf (p : Int) (ns zs cs : List Int) (c : Int) : Prop where
  co_ : ∀ k, co cs k = c * co zs k % p
  len : cs.length = ns.length + 1
  cb : 0 < c ∧ c < p
  one : c * endsOf p zs % p = 1
  ends : endsOf p cs = 1
theorem unit_of {p : Int} {ns zs : List Int} (hp : Vb.Prm p ∧ p ≤ 101) (R : RP p ns zs) (h : endsOf p zs ≠ 0) : UnitOf p ns zs (trim (zs.map fun c => (endsOf p zs ^ (p - 2).toNat % p) * c % p)) (endsOf p zs ^ (p - 2).toNat % p) := by
  have h2 := hp.1.1
  have eb : 0 ≤ endsOf p zs ∧ endsOf p zs < p := ⟨Int.emod_nonneg _ (by omega), Int.emod_lt_of_pos _ (by omega)⟩
  have pi := pinv hp.1 hp.2 (n := endsOf p zs) (by omega) eb.2
  generalize hu : endsOf p zs = u at *
  have c0 : 0 ≤ u ^ (p - 2).toNat % p ∧ u ^ (p - 2).toNat % p < p := ⟨Int.emod_nonneg _ (by omega), Int.emod_lt_of_pos _ (by omega)⟩
  generalize u ^ (p - 2).toNat % p = c at *
  have cn : c ≠ 0 := fun z => by rw [z, Int.mul_zero, Int.zero_emod] at pi; cases pi
  have hco : ∀ k, co (trim (zs.map fun z => c * z % p)) k = c * co zs k % p := fun k => by rw [co_trim, co_map_g (g := fun z => c * z % p) (by rw [Int.mul_zero, Int.zero_emod])]
  have zl := R.length h2
  refine ⟨hco, ?_, ⟨by omega, c0.2⟩, by rw [Int.mul_comm, hu]; exact pi, ?_⟩
  · have a : (trim (zs.map fun z => c * z % p)).length ≤ ns.length + 1 := trim_short fun k hk => by
      rw [co_map_g (g := fun z => c * z % p) (by rw [Int.mul_zero, Int.zero_emod]), co_out (by omega), Int.mul_zero, Int.zero_emod]
    have b : ns.length < (trim (zs.map fun z => c * z % p)).length := trim_long (by
      rw [co_map_g (g := fun z => c * z % p) (by rw [Int.mul_zero, Int.zero_emod]), R.top h2, Int.mul_one, Int.emod_eq_of_lt c0.1 c0.2]
      exact cn)
    omega
  · rw [ends_scale hco, Int.mul_comm]
    first | exact pi | (rw [hu]; exact pi)
theorem UnitOf.roots {p c : Int} {ns zs cs : List Int} (hp : Vb.Prm p ∧ p ≤ 101) (R : RP p ns zs) (hb : ∀ n ∈ ns, 0 ≤ n ∧ n < p) (U : UnitOf p ns zs cs c) {x : Int} (hx : 0 ≤ x ∧ x < p) : ev cs x % p = 0 ↔ x ∈ ns := by
  have e : ev cs x % p = c * ev zs x % p := by
    rw [← ev_times]
    exact ev_mod fun k => by rw [U.co_, co_map_g (g := fun z => c * z) (Int.mul_zero c)]
  rw [e, ← rprod_zero hp hx ns hb, ← R.ev_]
  refine ⟨fun h => ?_, fun h => by rw [Int.mul_emod, h, Int.mul_zero, Int.zero_emod]⟩
  rcases mul_zero_mod hp h with z | z
  · have := U.cb
    rw [Int.emod_eq_of_lt (by omega) this.2] at z
    omega
  · exact z
/-- a row that is c times the product over the roots -/
structure DivInv (p c : Int) (ns row : List Int) : Prop where
  len : row.length = ns.length + 1
  cb : ∀ k, 0 ≤ co row k ∧ co row k < p
  ex : ∃ zs, RP p ns zs ∧ ∀ k, co row k = c * co zs k % p
theorem DivInv.mem {p c : Int} {ns row : List Int} (D : DivInv p c ns row) : ∀ z ∈ row, 0 ≤ z ∧ z < p := fun z m => by
  obtain ⟨k, _, rfl⟩ := mem_co m
  exact D.cb k
theorem co_rev_range {n : Nat} {f : Nat → Int} {k : Nat} (h : k < n) : co (((List.range n).map f).reverse) k = f (n - 1 - k) := by
  have e := co_in (xs := ((List.range n).map f).reverse) (k := k) (by rw [List.length_reverse, List.length_map, List.length_range]; exact h)
  rw [List.getElem?_reverse (by rw [List.length_map, List.length_range]; exact h), List.length_map, List.length_range, List.getElem?_map, List.getElem?_range (by omega)] at e
  exact (Option.some.inj e).symm
theorem DivInv.step {p c n : Int} {ms row : List Int} (hp : 2 ≤ p) (D : DivInv p c (n :: ms) row) : hrn p n row row.length = 0 ∧ DivInv p c ms (((List.range (row.length - 1)).map fun j => hrn p n row (j + 1)).reverse) := by
  obtain ⟨zs, R, hz⟩ := D.ex
  obtain ⟨us, U⟩ := RP.ex p ms
  obtain ⟨zs2, Z⟩ := RP.ex p (ms ++ [n])
  obtain rfl : zs = zs2 := R.perm Z (List.perm_append_comm (l₁ := [n]) (l₂ := ms))
  have rl : row.length = ms.length + 2 := D.len
  obtain ⟨h1, h2⟩ := hrn_rp hp U Z hz rl
  rw [rl]
  refine ⟨h2, by rw [List.length_reverse, List.length_map, List.length_range]; omega, fun k => ?_, us, U, fun k => ?_⟩
  · by_cases hk : k < ms.length + 2 - 1
    · rw [co_rev_range hk]
      exact hrn_bd hp row _
    · rw [co_out (by rw [List.length_reverse, List.length_map, List.length_range]; omega)]
      omega
  · have ul := U.length hp
    by_cases hk : k < ms.length + 2 - 1
    · rw [co_rev_range hk, h1 _ (by omega), show ms.length + 1 - (ms.length + 2 - 1 - 1 - k + 1) = k by omega]
    · rw [co_out (by rw [List.length_reverse, List.length_map, List.length_range]; omega), co_out (by omega), Int.mul_zero, Int.zero_emod]
theorem DivInv.fin {p c : Int} {row : List Int} (hc : 0 ≤ c ∧ c < p) (D : DivInv p c [] row) : row = [c] := by
  obtain ⟨zs, R, hz⟩ := D.ex
  obtain rfl := R.perm RP.nil (List.Perm.refl _)
  have l : row.length = 1 := D.len
  have h := hz 0
  rw [show co [1] 0 = 1 from rfl, Int.mul_one, Int.emod_eq_of_lt hc.1 hc.2] at h
  match row, l, h with
  | [x], _, h => rw [show co [x] 0 = x from rfl] at h; rw [h]
theorem UnitOf.start {p c : Int} {ns zs cs : List Int} (hp : 2 ≤ p) (R : RP p ns zs) (U : UnitOf p ns zs cs c) : DivInv p c ns cs := ⟨U.len, fun k => by rw [U.co_]; exact ⟨Int.emod_nonneg _ (by omega), Int.emod_lt_of_pos _ (by omega)⟩, zs, R, U.co_⟩
end
end K
namespace K
open PySem PySem.Spec PyProof.Rows L2
section
theorem ends_rp {p : Int} {ns zs : List Int} (R : RP p ns zs) : endsOf p zs = (rprod 0 ns % p + rprod 1 ns % p) % p := by
  unfold endsOf
  rw [R.ev_, R.ev_]
end
end K
namespace K
open PySem PySem.Spec PyProof.Rows L2
abbrev N_check_degree : List Str := ["degree"]
theorem sc_check_degree : FnScope N_check_degree ["degree"] (defScope s_check_degree) := ⟨rfl, rfl, rfl, by decide +kernel, rfl, by decide +kernel, by decide +kernel⟩
section
variable {P : Program} {w : World} {K : PySem.W.Frag} {mg : Str → Option Value} {base : Heap}
/-- a degree is a whole number from 0 to 127 -/
def sp_checkdegree (K : PySem.W.Frag) (C : Addr) : Sp := fun vs H Q E => ∃ (v : V) (d : PyData), vs = [v] ∧ Dp K H v d ∧ (inRange 0 127 d = true → Q .non H) ∧ (inRange 0 127 d = false → E (.ref C) none H)
theorem ok_checkdegree (T : Txt K mg) : FnOk P w K mg base (L2N.CX P w) 3 T.f_check_degree T.fd_check_degree ["degree"] (sp_checkdegree K T.C_OutOfRange) := by
  have G_check_range := ok_checkrange (P := P) (w := w) (base := base) T
  refine Vb.okN T.d_check_degree.F sc_check_degree (fun vs H Q E h => ?_) (fun cdv A outer s H vs Q E hr h => ?_)
  · obtain ⟨v, d, rfl, _⟩ := h
    rfl
  · obtain ⟨v, d, rfl, hd, q1, q2⟩ := h
    refine ⟨_, (pss_one (ps_expr (pe_callS G_check_range (hr.mono (by first | decide | omega)) (by rfl) T.d_check_range.g T.d_check_range.F.kp T.d_check_range.b (fun σ => L2N.passAt (L2N.takes_of rfl rfl rfl rfl) σ) (pa_cons (pv 0) (pa_cons pe_int (pa_cons (pe_op op_sub (pe_glob (v := .int 128) (by rfl) T.c_MAX_COEFFICIENTS ⟨_, rfl⟩) pe_int) pa_nil)))))), ?_⟩
    (change (_ : L2.TS) _ ([some (v)] : L2.St) _); try dsimp only [L2.cxOf, L2H.cxH]
    walk_at "rd"
    refine ⟨v, 0, 127, d, rfl, hd, fun f1 => ?_, fun f1 => q2 f1⟩
    walk_at "rd"
    exact q1 f1
end
end K
namespace K
open PySem PySem.Spec PyProof.Rows L2
abbrev N_round_roots : List Str := ["prime", "degree"]
theorem sc_round_roots : FnScope N_round_roots ["prime", "degree"] (defScope s_round_roots) := ⟨rfl, rfl, rfl, by decide +kernel, rfl, by decide +kernel, by decide +kernel⟩
section
variable {P : Program} {w : World} {K : PySem.W.Frag} {mg : Str → Option Value} {base : Heap}
/-- how many roots a hand-in of this degree may have -/
def sp_roundroots (K : PySem.W.Frag) (NP C : Addr) : Sp := fun vs H Q E => ∃ (vp vd : V) (dp d : PyData), vs = [vp, vd] ∧ Dp K H vp dp ∧ Dp K H vd d ∧
  (field dp = false → ∀ dd : Addr, H dd = none → E (.ref NP) (some dd) (upd H dd (.xd [("value", vp)]))) ∧ (field dp = true → inRange 0 127 d = false → E (.ref C) none H) ∧
  (∀ p n m : Int, dp = .int p → d = .int n → field dp = true → (0 ≤ n ∧ n ≤ 127) → (0 ≤ m ∧ m ≤ n ∧ m ≤ p - 1 ∧ (m = n ∨ m = p - 1)) → Q (.int m) H)
theorem ok_roundroots (T : Txt K mg) : FnOk P w K mg base (L2N.CX P w) 4 T.f_round_roots T.fd_round_roots ["prime", "degree"] (sp_roundroots K T.C_NotPrime T.C_OutOfRange) := by
  have G_check_prime := ok_check (P := P) (w := w) (base := base) T
  have G_check_degree := ok_checkdegree (P := P) (w := w) (base := base) T
  refine Vb.okN T.d_round_roots.F sc_round_roots (fun vs H Q E h => ?_) (fun cdv A outer s H vs Q E hr h => ?_)
  · obtain ⟨vp, vd, dp, d, rfl, _⟩ := h
    rfl
  · obtain ⟨vp, vd, dp, d, rfl, hvp, hvd, q1, q2, q3⟩ := h
    refine ⟨_, (pss_cons (ps_expr (pe_callS G_check_prime (hr.mono (by first | decide | omega)) (by rfl) T.d_check_prime.g T.d_check_prime.F.kp T.d_check_prime.b (fun σ => L2N.passAt (L2N.takes_of rfl rfl rfl rfl) σ) (pa_cons (pv 0) pa_nil)))
      (pss_cons (ps_expr (pe_callS G_check_degree (hr.mono (by first | decide | omega)) (by rfl) T.d_check_degree.g T.d_check_degree.F.kp T.d_check_degree.b (fun σ => L2N.passAt (L2N.takes_of rfl rfl rfl rfl) σ) (pa_cons (pv 1) pa_nil)))
      (pss_one (ps_ret (pe_callB (Vb.call_min2 rfl) (by rfl) T.n_min (by decide +kernel) (pa_cons (pv 1) (pa_cons (pe_op op_sub (pv 0) pe_int) pa_nil))))))), ?_⟩
    (change (_ : L2.TS) _ ([some (vp), some (vd)] : L2.St) _); try dsimp only [L2.cxOf, L2H.cxH]
    walk_at "rd"
    refine ⟨vp, dp, rfl, hvp, fun hf => ?_, q1⟩
    walk_at "rd"
    refine ⟨vd, d, rfl, hvd, fun f1 => ?_, fun f1 => q2 hf f1⟩
    obtain ⟨n, rfl, n1, n2⟩ := inRange_of f1
    obtain ⟨p, rfl⟩ : ∃ p, dp = .int p := by
      cases dp with
      | int p => exact ⟨p, rfl⟩
      | _ => cases hf
    have hp := field_int hf
    have hp2 := hp.1.1
    cases hvp
    cases hvd
    walk_at "rd"
    refine q3 p n _ rfl rfl hf ⟨n1, n2⟩ ?_
    split <;> omega
end
end K
namespace K
open PySem PySem.Spec PyProof.Rows L2
abbrev N_best_unit : List Str := ["prime", "degree", "many"]
theorem sc_best_unit : FnScope N_best_unit ["prime", "degree"] (defScope s_best_unit) := ⟨rfl, rfl, rfl, by decide +kernel, rfl, by decide +kernel, by decide +kernel⟩
section
variable {P : Program} {w : World} {K : PySem.W.Frag} {mg : Str → Option Value} {base : Heap}
/-- 0, 2, 3, ..: the roots of the best unit -/
def bestns (p : Int) (m : Nat) : List Int := ((0 : Int) :: (List.range (p - 2).toNat).map fun i : Nat => 2 + (i : Int)).take m
theorem bestns_len {p : Int} {m : Nat} (hp : 2 ≤ p) (h : (m : Int) ≤ p - 1) : (bestns p m).length = m := by
  unfold bestns
  rw [List.length_take, List.length_cons, List.length_map, List.length_range]
  omega
theorem bestns_bd {p : Int} {m : Nat} (hp : 2 ≤ p) : ∀ n ∈ bestns p m, (0 ≤ n ∧ n < p) ∧ n ≠ 1 := fun n h => by
  have h := List.mem_of_mem_take h
  rcases List.mem_cons.mp h with rfl | h
  · omega
  · obtain ⟨i, hi, rfl⟩ := List.mem_map.mp h
    have := List.mem_range.mp hi
    omega
theorem bestns_nodup {p : Int} {m : Nat} : (bestns p m).Nodup := by
  refine List.Nodup.sublist (List.take_sublist _ _) (List.nodup_cons.mpr ⟨fun h => ?_, ?_⟩)
  · obtain ⟨i, _, e⟩ := List.mem_map.mp h
    omega
  · refine List.pairwise_map.mpr (List.Pairwise.imp (fun {a b} h => ?_) List.nodup_range)
    intro e
    exact h (by omega)
theorem bestns_ends {p : Int} {m : Nat} {zs : List Int} (hp : Vb.Prm p ∧ p ≤ 101) (h : (m : Int) ≤ p - 1) (hz : ¬ (p = 2 ∧ m = 0)) (R : RP p (bestns p m) zs) : endsOf p zs ≠ 0 := by
  have h2 := hp.1.1
  rw [ends_rp R]
  match m, h, hz with
  | 0, _, hz =>
    have n2 : p ≠ 2 := fun e => hz ⟨e, rfl⟩
    have e1 : (1 : Int) % p = 1 := Int.emod_eq_of_lt (by decide) (by omega)
    show ((1 : Int) % p + 1 % p) % p ≠ 0
    rw [e1]
    show (2 : Int) % p ≠ 0
    rw [Int.emod_eq_of_lt (by decide) (by omega)]
    decide
  | m + 1, h, _ =>
    have b : ∀ n ∈ bestns p (m + 1), 0 ≤ n ∧ n < p := fun n hn => (bestns_bd h2 n hn).1
    have z0 : rprod 0 (bestns p (m + 1)) % p = 0 := (rprod_zero hp ⟨by decide, by omega⟩ _ b).mpr (List.mem_cons_self ..)
    have z1 : rprod 1 (bestns p (m + 1)) % p ≠ 0 := fun z => (bestns_bd h2 1 ((rprod_zero hp ⟨by decide, by omega⟩ _ b).mp z)).2 rfl
    rw [z0, Int.zero_add, Int.emod_emod_of_dvd _ (Int.dvd_refl p)]
    exact z1
theorem use_goodunit {K : PySem.W.Frag} {C NP N L U : Addr} {p : Int} {l : Addr} {ns : List Int} {H : Hp} {Q : VK} {E : XK} (hp : Vb.Prm p ∧ p ≤ 101) (hl : Vb.SqA K H l (ns.map V.int)) (hn : ns.length ≤ 127) (hb : ∀ n ∈ ns, 0 ≤ n ∧ n < p) (hz : ∀ zs, RP p ns zs → endsOf p zs ≠ 0)
    (q : ∀ (zs : List Int) (x : Addr) (H' : Hp), RP p ns zs → Same H H' → PolyAt K C H' x p (trim (zs.map fun c => (endsOf p zs ^ (p - 2).toNat % p) * c % p)) → Q (.ref x) H') : sp_unit K C NP N L U [.int p, .ref l] H Q E := by
  have hf : field (.int p) = true := field_yes hp.1 hp.2
  refine ⟨.int p, .int p, l, _, ns.map PyData.int, rfl, .int p, hl, Vb.dpa_ints ns, (fun h => by rw [hf] at h; cases h), fun p' hp' _ => ?_⟩
  cases hp'
  refine ⟨fun h => absurd h (by rw [List.length_map]; omega), fun _ i v d h1 h2 h3 h4 => ?_, fun _ ms e1 e2 e3 zs R => ⟨fun z => ?_, fun _ x H' e vx => ?_⟩⟩
  · rw [List.getElem?_map] at h2
    cases hz : ns[i]? with
    | none => rw [hz] at h2; cases h2
    | some c =>
      rw [hz] at h2
      cases h2
      rw [inField_int.mpr (hb _ (List.mem_of_getElem? hz))] at h4
      cases h4
  · obtain rfl : ns = ms := (List.map_inj_right (f := V.int) (fun a b h => by cases h; rfl)).mp e1
    exact absurd z (hz zs R)
  · obtain rfl : ns = ms := (List.map_inj_right (f := V.int) (fun a b h => by cases h; rfl)).mp e1
    exact q zs x H' R e vx
def sp_bestunit (K : PySem.W.Frag) (C NP O : Addr) : Sp := fun vs H Q E => ∃ (vp vd : V) (dp d : PyData), vs = [vp, vd] ∧ Dp K H vp dp ∧ Dp K H vd d ∧
  (field dp = false → ∀ dd : Addr, H dd = none → E (.ref NP) (some dd) (upd H dd (.xd [("value", vp)]))) ∧ (field dp = true → inRange 0 127 d = false → E (.ref O) none H) ∧
  (∀ (p n : Int) (m : Nat), dp = .int p → d = .int n → field dp = true → (0 ≤ n ∧ n ≤ 127) → (m ≤ n ∧ m ≤ p - 1 ∧ (m = n ∨ m = p - 1)) →
    (p = 2 ∧ m = 0 → Q .non H) ∧ (¬ (p = 2 ∧ m = 0) → ∀ zs, RP p (bestns p m) zs → ∀ (x : Addr) (H' : Hp), Same H H' → PolyAt K C H' x p (trim (zs.map fun c => (endsOf p zs ^ (p - 2).toNat % p) * c % p)) → Q (.ref x) H'))
theorem ok_bestunit (T : Txt K mg) : FnOk P w K mg base (L2N.CX P w) 10 T.f_best_unit T.fd_best_unit ["prime", "degree"] (sp_bestunit K T.C_Poly T.C_NotPrime T.C_OutOfRange) := by
  have G_round_roots := ok_roundroots (P := P) (w := w) (base := base) T
  have G_unit_poly := ok_unit (P := P) (w := w) (base := base) T
  refine Vb.okN T.d_best_unit.F sc_best_unit (fun vs H Q E h => ?_) (fun cdv A outer s H vs Q E hr h => ?_)
  · obtain ⟨vp, vd, dp, d, rfl, _⟩ := h
    rfl
  · obtain ⟨vp, vd, dp, d, rfl, hvp, hvd, q1, q2, q3⟩ := h
    refine ⟨_, (pss_cons (ps_set (i := 2) sc_best_unit.nd rfl (by first | exact Or.inl rfl | exact Or.inr rfl) (pe_callS G_round_roots (hr.mono (by first | decide | omega)) (by rfl) T.d_round_roots.g T.d_round_roots.F.kp T.d_round_roots.b (fun σ => L2N.passAt (L2N.takes_of rfl rfl rfl rfl) σ) (pa_cons (pv 0) (pa_cons (pv 1) pa_nil))))
      (pss_cons (ps_if (PW.pt (pw_and (pt_cmpR op_eq (pv 0) pe_int (nomark _)) (pw_and1 (pt_cmpR op_eq (pv 2) pe_int (nomark _))))) (pss_one (ps_ret pe_non)) pss_nil)
      (pss_one (ps_ret (pe_callS G_unit_poly (hr.mono (by first | decide | omega)) (by rfl) T.d_unit_poly.g T.d_unit_poly.F.kp T.d_unit_poly.b (fun σ => L2N.passAt (L2N.takes_of rfl rfl rfl rfl) σ) (pa_cons (pv 0) (pa_cons (pe_slice sl_list (pe_op op_cat (pe_lst (pa_cons pe_int pa_nil)) (pe_listRg rfl (by rfl) T.n_list (prg_2 (by rfl) T.n_range pe_int (pv 0)))) po_none (po_some (pv 2))) pa_nil))))))), ?_⟩
    (change (_ : L2.TS) _ ([some (vp), some (vd), none] : L2.St) _); try dsimp only [L2.cxOf, L2H.cxH]
    walk_at "rd"
    refine ⟨vp, vd, dp, d, rfl, hvp, hvd, q1, q2, fun p n m ep en hf hn hm => ?_⟩
    obtain ⟨m, rfl⟩ : ∃ k : Nat, m = (k : Int) := ⟨m.toNat, by omega⟩
    subst ep
    subst en
    cases hvp
    cases hvd
    have hp := field_int hf
    have hp2 := hp.1.1
    obtain ⟨qn, qx⟩ := q3 p n m rfl rfl hf hn ⟨hm.2.1, hm.2.2.1, hm.2.2.2⟩
    walk_at "rd"
    by_cases c : p = 2
    · rw [if_pos (decide_eq_true c)]
      walk_at "rd"
      refine Vb.r_ite (fun c2 => ?_) (fun c2 => ?_)
      · walk_at "rd"
        exact qn ⟨c, by omega⟩
      have ng : ¬ (p = 2 ∧ m = 0) := fun z => c2 (by omega)
      walk_at "rd"
      refine ⟨Vb.size_ok (by show 1 ≤ 16777216; decide), fun A nA => ?_⟩
      have eA := Vb.same_new (o := .lst [.int 0]) nA
      have hA : (upd H A (.lst [.int 0])) A = some (.lst [.int 0]) := upd_same
      generalize upd H A _ = H1 at eA hA ⊢
      walk_at "rd"
      refine ⟨2, p, rfl, rfl, RgOk.of_le (by omega) (by omega) (by omega) (by omega), fun B nB => ?_⟩
      have eB := Vb.same_new (o := .lst (rgV 2 p)) nB
      have hB : (upd H1 B (.lst (rgV 2 p))) B = some (.lst (rgV 2 p)) := upd_same
      have hA2 := eB _ _ hA
      have e2 := eA.trans eB
      generalize upd H1 B _ = H2 at hB hA2 e2 ⊢
      clear eA eB nA nB hA
      have rl : (rgV 2 p).length = (p - 2).toNat := by unfold rgV; rw [List.length_map, List.length_range]
      refine Vb.r_cat hA2 hB (Vb.size_ok (by rw [rl]; show 1 + (p - 2).toNat ≤ 16777216; omega)) fun D nD => ?_
      have eD := e2.trans (Vb.same_new (o := .lst ([.int 0] ++ rgV 2 p)) nD)
      have hD : (upd H2 D (.lst ([.int 0] ++ rgV 2 p))) D = some (.lst ([.int 0] ++ rgV 2 p)) := upd_same
      generalize upd H2 D _ = H3 at eD hD ⊢
      walk_at "rd"
      refine Vb.r_slL (Vb.sq_of hD) fun L nL => ?_
      have ec : cutV ([V.int 0] ++ rgV 2 p) none (some (m : Int)) = (bestns p m).map V.int := by
        rw [Vb.cut_take (by rw [List.length_append, rl]; show m ≤ 1 + _; omega)]
        unfold bestns rgV
        rw [List.map_take, List.map_cons, List.map_map]
        rfl
      rw [ec]
      have eL := eD.trans (Vb.same_new (o := .lst ((bestns p m).map V.int)) nL)
      have hL : (upd H3 L (.lst ((bestns p m).map V.int))) L = some (.lst ((bestns p m).map V.int)) := upd_same
      generalize upd H3 L _ = H4 at eL hL ⊢
      walk_at "rd"
      exact use_goodunit hp (.inl (Vb.sq_of hL)) (by rw [bestns_len hp2 hm.2.2.1]; omega) (fun n h => (bestns_bd hp2 n h).1) (fun zs R => bestns_ends hp hm.2.2.1 ng R) fun zs x H' R e vx => qx ng zs R x H' (eL.trans e) vx
    · rw [if_neg (by rw [decide_eq_false c]; decide)]
      rw [if_neg (by decide)]
      have ng : ¬ (p = 2 ∧ m = 0) := fun z => c z.1
      walk_at "rd"
      refine ⟨Vb.size_ok (by show 1 ≤ 16777216; decide), fun A nA => ?_⟩
      have eA := Vb.same_new (o := .lst [.int 0]) nA
      have hA : (upd H A (.lst [.int 0])) A = some (.lst [.int 0]) := upd_same
      generalize upd H A _ = H1 at eA hA ⊢
      walk_at "rd"
      refine ⟨2, p, rfl, rfl, RgOk.of_le (by omega) (by omega) (by omega) (by omega), fun B nB => ?_⟩
      have eB := Vb.same_new (o := .lst (rgV 2 p)) nB
      have hB : (upd H1 B (.lst (rgV 2 p))) B = some (.lst (rgV 2 p)) := upd_same
      have hA2 := eB _ _ hA
      have e2 := eA.trans eB
      generalize upd H1 B _ = H2 at hB hA2 e2 ⊢
      clear eA eB nA nB hA
      have rl : (rgV 2 p).length = (p - 2).toNat := by unfold rgV; rw [List.length_map, List.length_range]
      refine Vb.r_cat hA2 hB (Vb.size_ok (by rw [rl]; show 1 + (p - 2).toNat ≤ 16777216; omega)) fun D nD => ?_
      have eD := e2.trans (Vb.same_new (o := .lst ([.int 0] ++ rgV 2 p)) nD)
      have hD : (upd H2 D (.lst ([.int 0] ++ rgV 2 p))) D = some (.lst ([.int 0] ++ rgV 2 p)) := upd_same
      generalize upd H2 D _ = H3 at eD hD ⊢
      walk_at "rd"
      refine Vb.r_slL (Vb.sq_of hD) fun L nL => ?_
      have ec : cutV ([V.int 0] ++ rgV 2 p) none (some (m : Int)) = (bestns p m).map V.int := by
        rw [Vb.cut_take (by rw [List.length_append, rl]; show m ≤ 1 + _; omega)]
        unfold bestns rgV
        rw [List.map_take, List.map_cons, List.map_map]
        rfl
      rw [ec]
      have eL := eD.trans (Vb.same_new (o := .lst ((bestns p m).map V.int)) nL)
      have hL : (upd H3 L (.lst ((bestns p m).map V.int))) L = some (.lst ((bestns p m).map V.int)) := upd_same
      generalize upd H3 L _ = H4 at eL hL ⊢
      walk_at "rd"
      exact use_goodunit hp (.inl (Vb.sq_of hL)) (by rw [bestns_len hp2 hm.2.2.1]; omega) (fun n h => (bestns_bd hp2 n h).1) (fun zs R => bestns_ends hp hm.2.2.1 ng R) fun zs x H' R e vx => qx ng zs R x H' (eL.trans e) vx
end
end K
namespace K
open PySem PySem.Spec PyProof.Rows L2

abbrev N__law_poly_value : List Str := ["prime", "row", "number", "value", "k"]
theorem sc__law_poly_value : FnScope N__law_poly_value ["prime", "row", "number"] (defScope s__law_poly_value) := ⟨rfl, rfl, rfl, by decide +kernel, rfl, by decide +kernel, by decide +kernel⟩
section
variable {P : Program} {w : World} {K : PySem.W.Frag} {mg : Str → Option Value} {base : Heap}
theorem hrn_drop {p n : Int} (row : List Int) : ∀ j, j ≤ row.length → hrn p n row j = hn n (row.drop (row.length - j)) % p
  | 0, _ => by
    rw [Nat.sub_zero, List.drop_length]
    exact (Int.zero_emod p).symm
  | j + 1, h => by
    have ih := hrn_drop (p := p) (n := n) row j (by omega)
    have e : row.drop (row.length - (j + 1)) = co row (row.length - 1 - j) :: row.drop (row.length - j) := by
      have k : row.length - (j + 1) < row.length := by omega
      rw [List.drop_eq_getElem_cons k, show row.length - (j + 1) + 1 = row.length - j by omega]
      have := co_in k
      rw [List.getElem?_eq_getElem k] at this
      rw [Option.some.inj this, show row.length - (j + 1) = row.length - 1 - j by omega]
    show (hrn p n row j * n + co row (row.length - 1 - j)) % p = _
    rw [ih, e]
    show _ = (co row (row.length - 1 - j) + n * hn n (row.drop (row.length - j))) % p
    rw [Int.add_emod, mul_emod_l, ← Int.add_emod, Int.add_comm, Int.mul_comm]
theorem hrn_ev {p n : Int} (row : List Int) : hrn p n row row.length = ev row n % p := by
  rw [hrn_drop row _ (Nat.le_refl _), Nat.sub_self, List.drop_zero, hn_ev]
/-- a row's value at n, found from the top -/
def sp_polyvalue (K : PySem.W.Frag) : Sp := fun vs H Q _ => ∃ (p n : Int) (l : Addr) (row : List Int), vs = [.int p, .ref l, .int n] ∧ (2 ≤ p ∧ p ≤ 101) ∧ (0 ≤ n ∧ n < 1000) ∧ SqL K H l (row.map V.int) ∧ row.length ≤ 1000 ∧ (∀ c ∈ row, 0 ≤ c ∧ c < 1000) ∧ Q (.int (ev row n % p)) H
theorem ok_polyvalue (T : Txt K mg) : FnOk P w K mg base (L2N.CX P w) 1 T.f__law_poly_value T.fd__law_poly_value ["prime", "row", "number"] (sp_polyvalue K) := by
  refine Vb.okN T.d__law_poly_value.F sc__law_poly_value (fun vs H Q E h => ?_) (fun cdv A outer s H vs Q E hr h => ?_)
  · obtain ⟨p, n, l, row, rfl, _⟩ := h
    rfl
  · obtain ⟨p, n, l, row, rfl, hp, hn, hl, hlen, hb, q⟩ := h
    have lr : (row.map V.int).length = row.length := List.length_map ..
    refine ⟨_, (pss_cons (ps_set (i := 3) sc__law_poly_value.nd rfl (by first | exact Or.inl rfl | exact Or.inr rfl) pe_int)
      (pss_cons (ps_for (L2.passes_of rfl) rfl (pi_range1 rfl T.n_range (pa_cons (pe_callB Vb.call_len (by rfl) T.n_len (by decide +kernel) (pa_cons (pv 1) pa_nil)) pa_nil)) (pg_name (i := 4) sc__law_poly_value.nd rfl (by first | exact Or.inl rfl | exact Or.inr rfl))
        (pss_one (ps_set (i := 3) sc__law_poly_value.nd rfl (by first | exact Or.inl rfl | exact Or.inr rfl) (pe_op op_mod (pe_callTy Vb.call_int (by rfl) T.n_int (by decide +kernel) (pa_cons (pe_op op_add (pe_op op_mul (pv 3) (pv 2)) (pe_ix ix_list (pv 1) (pe_op op_sub (pe_op op_sub (pe_callB Vb.call_len (by rfl) T.n_len (by decide +kernel) (pa_cons (pv 1) pa_nil)) pe_int) (pv 4)) (fun _ _ => rfl))) pa_nil)) (pv 0)))))
      (pss_one (ps_ret (pv 3))))), ?_⟩
    (change (_ : L2.TS) _ ([some (.int p), some (.ref l), some (.int n), none, none] : L2.St) _); try dsimp only [L2.cxOf, L2H.cxH]
    walk_at "rd"
    rw [lr]
    refine Vb.lp_range (fun i σ H' => H' = H ∧ ∃ y, σ = [some (.int p), some (.ref l), some (.int n), some (.int (hrn p n row i)), y]) ⟨rfl, none, rfl⟩ ?_ ?_
    · rintro i σ H' hi ⟨rfl, y, rfl⟩
      rw [Int.zero_add]
      have hi' : i < row.length := by omega
      have hb1 := hrn_bd hp.1 (n := n) row i
      have hx : (row.map V.int)[row.length - 1 - i]? = some (.int (co row (row.length - 1 - i))) := by
        rw [List.getElem?_map, co_in (by omega)]
        rfl
      have bx := hb _ (co_mem (xs := row) (k := row.length - 1 - i) (by omega))
      walk_at "rd"
      refine Vb.r_ixL hl (Vb.at_lit (row.length - 1 - i) (by rw [lr]; omega) hx) ?_
      walk_at "rd"
      exact ⟨rfl, _, rfl⟩
    rintro σ H' ⟨rfl, y, rfl⟩
    walk_at "rd"
    rw [show (row.length : Int).toNat = row.length by omega, hrn_ev]
    exact q
end
end K
namespace K
open PySem PySem.Spec PyProof.Rows L2

abbrev N__law_roots : List Str := ["prime", "row", "number"]
theorem sc__law_roots : FnScope N__law_roots ["prime", "row"] (defScope s__law_roots) := ⟨rfl, rfl, rfl, by decide +kernel, rfl, by decide +kernel, by decide +kernel⟩
section
variable {P : Program} {w : World} {K : PySem.W.Frag} {mg : Str → Option Value} {base : Heap}
def sp_lawroots (K : PySem.W.Frag) : Sp := fun vs H Q _ => ∃ (p : Int) (l : Addr) (row : List Int), vs = [.int p, .ref l] ∧ (2 ≤ p ∧ p ≤ 101) ∧ SqL K H l (row.map V.int) ∧ row.length ≤ 1000 ∧ (∀ c ∈ row, 0 ≤ c ∧ c < 1000) ∧
  ∀ (r : Addr) (H' : Hp), H r = none → Same H H' → H' r = some (.lst ((zerosOf p row p.toNat).map V.int)) → Q (.ref r) H'
theorem ok_lawroots (T : Txt K mg) : FnOk P w K mg base (L2N.CX P w) 2 T.f__law_roots T.fd__law_roots ["prime", "row"] (sp_lawroots K) := by
  have G__law_poly_value := ok_polyvalue (P := P) (w := w) (base := base) T
  refine Vb.okN T.d__law_roots.F sc__law_roots (fun vs H Q E h => ?_) (fun cdv A outer s H vs Q E hr h => ?_)
  · obtain ⟨p, l, row, rfl, _⟩ := h
    rfl
  · obtain ⟨p, l, row, rfl, hp, hl, hlen, hb, q⟩ := h
    refine ⟨_, (pss_one (ps_ret (pe_lc (own := [("number", 2)]) (g := gName 2) rfl sc__law_roots.nd (pi_range1 rfl T.n_range (pa_cons (pv 0) pa_nil)) (blkOk_by (own := [("number", 2)]) (N := N__law_roots) (sc := defScope s__law_roots) (by decide +kernel)) (fun _ _ _ _ _ => (pg_name (i := 2) sc__law_roots.nd rfl (by first | exact Or.inl rfl | exact Or.inr rfl))) (fun _ _ _ _ _ => pts_one (pt_cmpR op_eq (pe_call G__law_poly_value (hr.mono (by first | decide | omega)) (by rfl) T.d__law_poly_value.g T.d__law_poly_value.F.kp T.d__law_poly_value.b .nil Vb.pass5 (pa_cons (pv 0) (pa_cons (pv 1) (pa_cons (pv 2) pa_nil)))) pe_int (nomark _))) (fun _ _ _ _ _ => (pv 2))))), ?_⟩
    (change (_ : L2.TS) _ ([some (.int p), some (.ref l), none] : L2.St) _); try dsimp only [L2.cxOf, L2H.cxH]
    walk_at "rd"
    intro D nD
    refine Vb.lcw_range (fun i H' => Same H H' ∧ H' D = some (.lst ((zerosOf p row i).map V.int))) ⟨Vb.same_new nD, upd_same⟩ (fun x => rfl) ?_ ?_
    · rintro i H' hi ⟨e, h⟩
      have hi' : (i : Int) < p := by omega
      rw [Int.zero_add]
      walk_at "rd"
      refine ⟨p, i, l, row, rfl, hp, by omega, e.seq hl, hlen, hb, ?_⟩
      walk_at "rd"
      by_cases cc : ev row i % p = 0
      · rw [if_pos (decide_eq_true cc)]
        walk_at "rd"
        refine ⟨_, h, Vb.size_lt (by rw [List.length_map]; exact Nat.lt_of_le_of_lt filt_len (by omega)), Vb.same_mut e nD, ?_⟩
        rw [upd_same]
        show _ = some (HO.lst ((((List.range (i + 1)).map fun j : Nat => (j : Int)).filter fun x => decide (ev row x % p = 0)).map V.int))
        rw [filt_step (n := 0), if_pos (decide_eq_true cc), List.map_append]
        rfl
      · rw [if_neg (by rw [decide_eq_false cc]; decide)]
        refine ⟨e, ?_⟩
        rw [h]
        show _ = some (HO.lst ((((List.range (i + 1)).map fun j : Nat => (j : Int)).filter fun x => decide (ev row x % p = 0)).map V.int))
        rw [filt_step (n := 0), if_neg (by rw [decide_eq_false cc]; decide), List.append_nil]
        rfl
    rintro H1 ⟨e1, h1⟩
    exact q D H1 nD e1 h1
end
end K
namespace K
open PySem PySem.Spec PyProof.Rows L2


abbrev N__law_poly_ends : List Str := ["prime", "row"]
theorem sc__law_poly_ends : FnScope N__law_poly_ends ["prime", "row"] (defScope s__law_poly_ends) := ⟨rfl, rfl, rfl, by decide +kernel, rfl, by decide +kernel, by decide +kernel⟩
section
variable {X : Cx}
def rSumA (K : PySem.W.Frag) : List V → Hp → VK → Prop := fun vs H Q => ∃ (a : Addr) (ns : List Int), vs = [V.ref a] ∧ Vb.SqA K H a (ns.map V.int) ∧ Q (.int ns.sum) H
/-- sum of a list or a tuple of ints -/
theorem cr_sumA (hc : X.calm = true) : CallR X (.builtin "sum") (rSumA X.K) := by
  intro pins s σ H vs us Q I r h
  obtain ⟨a, ns, rfl, hs | hs, q⟩ := h
  · exact cr_sum (X := X) hc pins s σ H _ us Q I r ⟨a, ns, rfl, hs, q⟩
  · obtain ⟨its, rv, hl, _⟩ := I.tuple hs
    rw [Vals.ref1 r]
    have hi := rv.ints
    obtain ⟨xs, e⟩ := hi.allInts.items
    have hn : numsOf (intItems xs).toList = ns := by rw [← e]; exact hi.numsOf
    rw [nums_intItems] at hn
    obtain ⟨o, ho, hc1, n, hd⟩ := hl
    rw [e] at hd
    refine PySem.W.ktm_sumG (I.ok.hd hc) ⟨o, ho, hc1, n, hd⟩ fun h' tk t' hk => ?_
    rw [preSum_eq, List.take_of_length_le (by simp), hn]
    exact ⟨.int _, H, I.kept hk, ⟨_, rfl⟩, q⟩
end
section
variable {P : Program} {w : World} {K : PySem.W.Frag} {mg : Str → Option Value} {base : Heap}
theorem ev_zero_one (row : List Int) : ev row 0 + ev row 1 = co row 0 + row.sum := by
  rw [← hn_ev, ← hn_ev]
  cases row with
  | nil => rfl
  | cons c row =>
    have h1 : ∀ r : List Int, hn 1 r = r.sum := fun r => by
      induction r with
      | nil => rfl
      | cons c r ih => rw [List.sum_cons, ← ih]; show c + 1 * hn 1 r = _; omega
    rw [h1]
    show c + 0 * hn 0 row + _ = c + _
    omega
theorem ends_sum (p : Int) (row : List Int) : endsOf p row = (co row 0 + row.sum) % p := by
  unfold endsOf
  rw [← Int.add_emod, ev_zero_one]
/-- the ends of a row, a list or a tuple -/
def sp_polyends (K : PySem.W.Frag) : Sp := fun vs H Q _ => ∃ (p : Int) (l : Addr) (row : List Int), vs = [.int p, .ref l] ∧ (2 ≤ p ∧ p ≤ 101) ∧ Vb.SqA K H l (row.map V.int) ∧ Q (.int (endsOf p row)) H
theorem ok_polyends (T : Txt K mg) : FnOk P w K mg base (L2N.CX P w) 1 T.f__law_poly_ends T.fd__law_poly_ends ["prime", "row"] (sp_polyends K) := by
  refine Vb.okN T.d__law_poly_ends.F sc__law_poly_ends (fun vs H Q E h => ?_) (fun cdv A outer s H vs Q E hr h => ?_)
  · obtain ⟨p, l, row, rfl, _⟩ := h
    rfl
  · obtain ⟨p, l, row, rfl, hp, hl, q⟩ := h
    refine ⟨_, (pss_cons (ps_if (pt_cmpR op_eq (pe_callB Vb.call_len (by rfl) T.n_len (by decide +kernel) (pa_cons (pv 1) pa_nil)) pe_int (nomark _)) (pss_one (ps_ret pe_int)) pss_nil)
      (pss_one (ps_ret (pe_op op_mod (pe_callTy Vb.call_int (by rfl) T.n_int (by decide +kernel) (pa_cons (pe_op op_add (pe_ix ix_seq (pv 1) pe_int (fun _ _ => rfl)) (pe_callB (cr_sumA rfl) (by rfl) T.n_sum (by decide +kernel) (pa_cons (pv 1) pa_nil))) pa_nil)) (pv 0))))), ?_⟩
    (change (_ : L2.TS) _ ([some (.int p), some (.ref l)] : L2.St) _); try dsimp only [L2.cxOf, L2H.cxH]
    rw [ends_sum] at q
    walk_at "rd"
    refine Vb.r_ite (fun c => ?_) (fun c => ?_)
    · have z : row = [] := List.eq_nil_of_length_eq_zero (by rw [List.length_map] at c; omega)
      walk_at "rd"
      rw [z] at q
      rw [show (co [] 0 + ([] : List Int).sum) % p = 0 from Int.zero_emod p] at q
      exact q
    · have h0 : 0 < row.length := by rw [List.length_map] at c; omega
      have hx : (row.map V.int)[0]? = some (.int (co row 0)) := by
        rw [List.getElem?_map, co_in h0]
        rfl
      rcases hl with hl | hl
      · walk_at "rd"
        refine Vb.r_ixSL hl (Vb.at_lit 0 (by rfl) hx) ?_
        walk_at "rd"
        refine ⟨l, row, rfl, .inl hl, ?_⟩
        walk_at "rd"
        exact q
      · walk_at "rd"
        refine Vb.r_ixST hl (Vb.at_lit 0 (by rfl) hx) ?_
        walk_at "rd"
        refine ⟨l, row, rfl, .inr hl, ?_⟩
        walk_at "rd"
        exact q
end
end K
namespace K
open PySem PySem.Spec PyProof.Rows L2
abbrev N__law_inverse : List Str := ["prime", "number", "other"]
theorem sc__law_inverse : FnScope N__law_inverse ["prime", "number"] (defScope s__law_inverse) := ⟨rfl, rfl, rfl, by decide +kernel, rfl, by decide +kernel, by decide +kernel⟩
section
variable {P : Program} {w : World} {K : PySem.W.Frag} {mg : Str → Option Value} {base : Heap}
/-- the least number whose product with n is 1, or 0 -/
def inv (p n : Int) : Int := match (List.range p.toNat).find? (fun k : Nat => decide (n * (k : Int) % p = 1)) with | some k => k | none => 0
theorem find_range {f : Nat → Bool} {n i : Nat} (h : ∀ k, k < i → f k = false) (hi : i < n) (e : f i = true) : (List.range n).find? f = some i := by
  rw [List.find?_eq_some_iff_append]
  refine ⟨e, List.range i, List.range' (i + 1) (n - i - 1), ?_, fun a m => by rw [h a (List.mem_range.mp m)]; rfl⟩
  have e := @List.range'_append_1 0 i (n - i - 1 + 1)
  rw [Nat.zero_add, show i + (n - i - 1 + 1) = n by omega] at e
  rw [List.range_eq_range', List.range_eq_range', show i :: List.range' (i + 1) (n - i - 1) = List.range' i (n - i - 1 + 1) from rfl]
  exact e.symm
theorem find_none {f : Nat → Bool} {n : Nat} (h : ∀ k, k < n → f k = false) : (List.range n).find? f = none := by
  rw [List.find?_eq_none]
  exact fun k m => by rw [h k (List.mem_range.mp m)]; decide
def sp_inverse (K : PySem.W.Frag) : Sp := fun vs H Q _ => ∃ (p n : Int), vs = [.int p, .int n] ∧ (1 ≤ p ∧ p ≤ 101) ∧ (0 ≤ n ∧ n < p) ∧ Q (.int (inv p n)) H
theorem use_inverse {p n : Int} {H : Hp} {Q : VK} {E : XK} (h1 : 1 ≤ p ∧ p ≤ 101) (h2 : 0 ≤ n ∧ n < p) (q : Q (.int (inv p n)) H) : sp_inverse K [.int p, .int n] H Q E := ⟨p, n, rfl, h1, h2, q⟩
theorem ok_inverse (T : Txt K mg) : FnOk P w K mg base (L2N.CX P w) 1 T.f__law_inverse T.fd__law_inverse ["prime", "number"] (sp_inverse K) := by
  refine Vb.okN T.d__law_inverse.F sc__law_inverse (fun vs H Q E h => ?_) (fun cdv A outer s H vs Q E hr h => ?_)
  · obtain ⟨a, b, rfl, _⟩ := h
    rfl
  · obtain ⟨p, n, rfl, hp, hn, q⟩ := h
    refine ⟨_, (pss_cons (ps_for (L2.passes_of rfl) rfl (pi_range1 rfl T.n_range (pa_cons (pv 0) pa_nil)) (pg_name (i := 2) sc__law_inverse.nd rfl (by first | exact Or.inl rfl | exact Or.inr rfl))
        (pss_one (ps_if (pt_cmpR op_eq (pe_op op_mod (pe_callTy Vb.call_int (by rfl) T.n_int (by decide +kernel) (pa_cons (pe_op op_mul (pv 1) (pv 2)) pa_nil)) (pv 0)) pe_int (nomark _)) (pss_one (ps_ret (pv 2))) pss_nil)))
      (pss_one (ps_ret pe_int))), ?_⟩
    (change (_ : L2.TS) _ ([some (.int p), some (.int n), none] : L2.St) _); try dsimp only [L2.cxOf, L2H.cxH]
    walk_at "rd"
    refine Vb.lp_range (fun i σ H' => H' = H ∧ (∀ k, k < i → decide (n * (k : Int) % p = 1) = false) ∧ ∃ y, σ = [some (.int p), some (.int n), y]) ⟨rfl, fun k h => by omega, none, rfl⟩ ?_ ?_
    · rintro i σ H' hi ⟨rfl, hk, y, rfl⟩
      rw [Int.zero_add]
      have hm : 0 ≤ n * (i : Int) ∧ n * (i : Int) ≤ 101 * 101 := ⟨Int.mul_nonneg hn.1 (by omega), Int.mul_le_mul (by omega) (by omega) (by omega) (by omega)⟩
      walk_at "rd"
      refine Vb.r_ite (fun c => ?_) (fun c => ?_)
      · walk_at "rd"
        have e : inv p n = i := by
          unfold inv
          rw [find_range (i := i) hk hi (decide_eq_true c)]
        rw [e] at q
        exact q
      · walk_at "rd"
        refine ⟨rfl, fun k h => ?_, _, rfl⟩
        by_cases z : k < i
        · exact hk k z
        · rw [show k = i by omega]
          exact decide_eq_false c
    · rintro σ H' ⟨rfl, hk, y, rfl⟩
      walk_at "rd"
      have e : inv p n = 0 := by
        unfold inv
        rw [find_none (fun k h => hk k h)]
      rw [e] at q
      exact q
end
theorem inv_table : (List.range 102).all (fun p => !Vb.isP (p : Int) || (List.range p).all fun n => n == 0 || (decide (inv (p : Int) (n : Int) = (n : Int) ^ (p - 2) % (p : Int)) && decide ((n : Int) * ((n : Int) ^ (p - 2) % (p : Int)) % (p : Int) = 1))) = true := by decide +kernel
theorem inv_pow {p n : Int} (hp : Vb.Prm p) (h1 : p ≤ 101) (h2 : 0 < n) (h3 : n < p) : inv p n = n ^ (p - 2).toNat % p ∧ n * (n ^ (p - 2).toNat % p) % p = 1 := by
  have h0 := hp.1
  have a := List.all_eq_true.mp inv_table p.toNat (List.mem_range.mpr (by omega))
  rw [show ((p.toNat : Nat) : Int) = p by omega, (Vb.isP_iff p).mpr hp, Bool.not_true, Bool.false_or] at a
  have b := List.all_eq_true.mp a n.toNat (List.mem_range.mpr (by omega))
  rw [show ((n.toNat : Nat) : Int) = n by omega, show (n.toNat == 0) = false by rw [beq_eq_false_iff_ne]; omega, Bool.false_or, Bool.and_eq_true, decide_eq_true_iff, decide_eq_true_iff, show p.toNat - 2 = (p - 2).toNat by omega] at b
  exact b
end K
namespace K
open PySem PySem.Spec PyProof.Rows L2
section
theorem prod_len {xs ys es : List Int} {p : Int} (hp : Vb.Prm p ∧ p ≤ 101) (t1 : trim xs = xs) (t2 : trim ys = ys) (b1 : ∀ k, 0 ≤ co xs k ∧ co xs k < p) (b2 : ∀ k, 0 ≤ co ys k ∧ co ys k < p) (n1 : xs ≠ []) (n2 : ys ≠ []) (t : trim es = es) (hz : ∀ k, co es k = cv xs ys k % p) : es.length = xs.length + ys.length - 1 := by
  have l1 := List.length_pos_iff.mpr n1
  have l2 := List.length_pos_iff.mpr n2
  have e1 := trim_last xs (by rw [t1]; exact n1)
  have e2 := trim_last ys (by rw [t2]; exact n2)
  rw [t1] at e1
  rw [t2] at e2
  have c1 := b1 (xs.length - 1)
  have c2 := b2 (ys.length - 1)
  have up : (trim es).length ≤ xs.length + ys.length - 1 := trim_short fun k hk => by rw [hz, cv_out (by omega), Int.zero_emod]
  have lo := trim_long (zs := es) (n := xs.length - 1 + (ys.length - 1)) (by
    rw [hz, cv_top n1 n2]
    exact nozero hp.1 hp.2 ⟨by omega, c1.2⟩ ⟨by omega, c2.2⟩)
  rw [t] at up lo
  omega
end
end K
namespace K
open PySem PySem.Spec PyProof.Rows L2
abbrev N__law_trim : List Str := ["row", "size"]
theorem sc__law_trim : FnScope N__law_trim ["row"] (defScope s__law_trim) := ⟨rfl, rfl, rfl, by decide +kernel, rfl, by decide +kernel, by decide +kernel⟩
section
variable {P : Program} {w : World} {K : PySem.W.Frag} {mg : Str → Option Value} {base : Heap}
theorem ok_trim (T : Txt K mg) : FnOk P w K mg base (L2N.CX P w) 1 T.f__law_trim T.fd__law_trim ["row"] (sp_noends K) := by
  refine Vb.okN T.d__law_trim.F sc__law_trim (fun vs H Q E h => ?_) (fun cdv A outer s H vs Q E hr h => ?_)
  · obtain ⟨r, ns, rfl, _⟩ := h
    rfl
  · obtain ⟨r, ns, rfl, ha, q⟩ := h
    refine ⟨_, (pss_cons (ps_set (i := 1) sc__law_trim.nd rfl (by first | exact Or.inl rfl | exact Or.inr rfl) (pe_callB Vb.call_len (by rfl) T.n_len (by decide +kernel) (pa_cons (pv 0) pa_nil)))
      (pss_cons (ps_while (L2.passes_of rfl) (PW.pt (pw_and (pt_cmpR op_gt (pv 1) pe_int (nomark _)) (pw_and1 (pt_cmpR op_eq (pe_ix ix_seq (pv 0) (pe_op op_sub (pv 1) pe_int) (fun _ _ => rfl)) pe_int (nomark _))))) (pss_one (ps_set (i := 1) sc__law_trim.nd rfl (by first | exact Or.inl rfl | exact Or.inr rfl) (pe_op op_sub (pv 1) pe_int))))
      (pss_one (ps_ret (pe_callTy Vb.call_tuple (by rfl) T.n_tuple (by decide +kernel) (pa_cons (pe_slice (SlR.or sl_list sl_tupA) (pv 0) po_none (po_some (pv 1))) pa_nil)))))), ?_⟩
    (change (_ : L2.TS) _ ([some (.ref r), none] : L2.St) _); try dsimp only [L2.cxOf, L2H.cxH]
    walk_at "rd"
    refine Vb.r_while (fun m σ H' => H' = H ∧ m ≤ ns.length ∧ trim (ns.take m) = trim ns ∧ σ = [some (.ref r), some (.int (m : Nat))]) ns.length ⟨rfl, Nat.le_refl _, by rw [List.take_length], by rw [show (ns.map V.int).length = ns.length from List.length_map ..]; rfl⟩ ?_
    rintro m σ H' ⟨rfl, hm, ht, rfl⟩
    have fin : trim (ns.take m) = ns.take m → tRet (tCB (Vb.rTup K) (tCons (tSl (fun x lo hi H Q => rSlL K x lo hi H Q ∨ rSlA K x lo hi H Q) (tVar 0) tNoPart (tPart (tVar 1))) tNil)) (Ends.mk (fun _ H' => Q V.non H') Q (fun _ H' => Q V.non H') (fun _ H' => Q V.non H')) [some (.ref r), some (.int (m : Nat))] H' := fun e => by
      walk_at "rd"
      refine Vb.r_slA ha fun t1 H1 e1 h1 => ?_
      rw [Vb.cut_take (by rw [List.length_map]; exact hm), ← List.map_take, ← e, ht] at h1
      walk_at "rd"
      refine Vb.r_tupA h1 fun t2 H2 e2 h2 => ?_
      exact q t2 H2 (e1.trans e2) h2
    walk_at "rd"
    refine Vb.r_ite (fun c => ?_) (fun c => ?_)
    · obtain ⟨k, rfl⟩ : ∃ k, m = k + 1 := ⟨m - 1, by omega⟩
      have hk : k < ns.length := by omega
      walk_at "rd"
      refine Vb.r_ixA ha (Vb.at_lit k (by omega) (co_map hk)) ?_
      walk_at "rd"
      refine Vb.r_ite (fun c2 => ?_) (fun c2 => ?_)
      · refine Vb.wh_body ?_
        walk_at "rd"
        refine ⟨k, by omega, rfl, by omega, take_trim hk c2 ht, ?_⟩
        rw [show ((k + 1 : Nat) : Int) - 1 = (k : Int) by omega]
        rfl
      · exact fin (take_full hk c2)
    · refine Vb.r_iteF ?_
      exact fin (by obtain rfl : m = 0 := by omega
                    rfl)
end
end K
namespace K
open PySem PySem.Spec PyProof.Rows L2
section
theorem len_ints (ns : List Int) : (ns.map V.int).length = ns.length := List.length_map ..
end
end K
namespace K
open PySem PySem.Spec PyProof.Rows L2

abbrev N__law_poly_times : List Str := ["prime", "one", "two", "row", "k", "j"]
theorem sc__law_poly_times : FnScope N__law_poly_times ["prime", "one", "two"] (defScope s__law_poly_times) := ⟨rfl, rfl, rfl, by decide +kernel, rfl, by decide +kernel, by decide +kernel⟩
section
variable {P : Program} {w : World} {K : PySem.W.Frag} {mg : Str → Option Value} {base : Heap}
def sp_polytimes (K : PySem.W.Frag) : Sp := fun vs H Q _ => ∃ (p : Int) (a b : Addr) (xs ys : List Int), vs = [.int p, .ref a, .ref b] ∧ (2 ≤ p ∧ p ≤ 101) ∧ Vb.SqA K H a (xs.map V.int) ∧ Vb.SqA K H b (ys.map V.int) ∧ (xs.length ≤ 1000 ∧ ys.length ≤ 1000) ∧ (∀ c ∈ xs, 0 ≤ c ∧ c < p) ∧ ∀ (t : Addr) (H' : Hp) (zs : List Int), Same H H' → SqT K H' t ((trim zs).map V.int) → (∀ k, co zs k = cv xs ys k % p) → Q (.ref t) H'
theorem ok_polytimes (T : Txt K mg) : FnOk P w K mg base (L2N.CX P w) 2 T.f__law_poly_times T.fd__law_poly_times ["prime", "one", "two"] (sp_polytimes K) := by
  have G__law_trim := ok_trim (P := P) (w := w) (base := base) T
  refine Vb.okN T.d__law_poly_times.F sc__law_poly_times (fun vs H Q E h => ?_) (fun cdv A outer s H vs Q E hr h => ?_)
  · obtain ⟨p, a, b, xs, ys, rfl, _⟩ := h
    rfl
  · obtain ⟨p, a, b, xs, ys, rfl, hp, ha, hb, hl, hcx, q⟩ := h
    refine ⟨_, (pss_cons (ps_set (i := 3) sc__law_poly_times.nd rfl (by first | exact Or.inl rfl | exact Or.inr rfl) (pe_op op_rep (pe_lst (pa_cons pe_int pa_nil)) (pe_callB (Vb.call_max2 rfl) (by rfl) T.n_max (by decide +kernel) (pa_cons pe_int (pa_cons (pe_op op_sub (pe_op op_add (pe_callB Vb.call_len (by rfl) T.n_len (by decide +kernel) (pa_cons (pv 1) pa_nil)) (pe_callB Vb.call_len (by rfl) T.n_len (by decide +kernel) (pa_cons (pv 2) pa_nil))) pe_int) pa_nil)))))
      (pss_cons (ps_for (L2.passes_of rfl) rfl (pi_range1 rfl T.n_range (pa_cons (pe_callB Vb.call_len (by rfl) T.n_len (by decide +kernel) (pa_cons (pv 1) pa_nil)) pa_nil)) (pg_name (i := 4) sc__law_poly_times.nd rfl (by first | exact Or.inl rfl | exact Or.inr rfl))
        (pss_one (ps_for (L2.passes_of rfl) rfl (pi_range1 rfl T.n_range (pa_cons (pe_callB Vb.call_len (by rfl) T.n_len (by decide +kernel) (pa_cons (pv 2) pa_nil)) pa_nil)) (pg_name (i := 5) sc__law_poly_times.nd rfl (by first | exact Or.inl rfl | exact Or.inr rfl))
        (pss_one (ps_asg (pe_op op_mod (pe_callTy Vb.call_int (by rfl) T.n_int (by decide +kernel) (pa_cons (pe_op op_add (pe_ix ix_list (pv 3) (pe_op op_add (pv 4) (pv 5)) (fun _ _ => rfl)) (pe_op op_mul (pe_ix ix_seq (pv 1) (pv 4) (fun _ _ => rfl)) (pe_ix ix_seq (pv 2) (pv 5) (fun _ _ => rfl)))) pa_nil)) (pv 0)) (pg_sub (pv 3) (pe_op op_add (pv 4) (pv 5)) set_list))))))
      (pss_one (ps_ret (pe_callS G__law_trim (hr.mono (by first | decide | omega)) (by rfl) T.d__law_trim.g T.d__law_trim.F.kp T.d__law_trim.b (fun σ => L2N.passAt (L2N.takes_of rfl rfl rfl rfl) σ) (pa_cons (pv 3) pa_nil)))))), ?_⟩
    (change (_ : L2.TS) _ ([some (.int p), some (.ref a), some (.ref b), none, none, none] : L2.St) _); try dsimp only [L2.cxOf, L2H.cxH]
    have lx := len_ints xs
    have ly := len_ints ys
    walk_at "rd"
    refine ⟨Vb.size_ok (by show 1 ≤ 16777216; decide), fun l0 n0 => ?_⟩
    have ha0 := Vb.sqA_same (Vb.same_new (o := .lst [.int 0]) n0) ha
    have hb0 := Vb.sqA_same (Vb.same_new (o := .lst [.int 0]) n0) hb
    walk_at "rd"
    obtain ⟨N, hN, hN2⟩ : ∃ N : Nat, (if ((xs.map V.int).length : Int) + ((ys.map V.int).length : Int) - 1 > 0 then ((xs.map V.int).length : Int) + ((ys.map V.int).length : Int) - 1 else 0) = (N : Int) ∧ xs.length + ys.length - 1 = N := by
      rw [lx, ly]
      exact ⟨xs.length + ys.length - 1, by split <;> omega, rfl⟩
    rw [hN]
    refine Vb.r_repL upd_same ⟨by omega, by omega⟩ (Vb.size_ok (by show 1 * (N : Int).toNat ≤ 16777216; omega)) fun D nD => ?_
    rw [rep_flat]
    have nDH : H D = none := (Vb.same_new n0).free nD
    have e0 : Same H (upd (upd H l0 (.lst [.int 0])) D (.lst ((List.replicate (N : Int).toNat (0 : Int)).map V.int))) := (Vb.same_new n0).trans (Vb.same_new nD)
    have hD0 : (upd (upd H l0 (.lst [.int 0])) D (.lst ((List.replicate (N : Int).toNat (0 : Int)).map V.int))) D = some (.lst ((List.replicate N (0 : Int)).map V.int)) := upd_same
    generalize upd (upd H l0 _) D _ = H0 at e0 hD0 ⊢
    have ha1 := Vb.sqA_same e0 ha
    clear ha0 hb0
    walk_at "rd"
    rw [lx]
    refine Vb.lp_range (fun i σ H' => ∃ (zs : List Int) (y4 y5 : Option V), Same H H' ∧ H' D = some (.lst (zs.map V.int)) ∧ zs.length = N ∧ (∀ k, co zs k = pc xs ys i 0 k % p) ∧ σ = [some (.int p), some (.ref a), some (.ref b), some (.ref D), y4, y5]) ⟨List.replicate N 0, _, _, e0, hD0, List.length_replicate .., fun k => by rw [co_zeros, pc_start]; rfl, rfl⟩ ?_ ?_
    · rintro i σ H' hi ⟨zs, y4, y5, e1, hD, hz, hc, rfl⟩
      have hi' : i < xs.length := by omega
      have hb2 := Vb.sqA_same e1 hb
      walk_at "rd"
      rw [ly]
      refine Vb.lp_range (fun j σ H' => ∃ (zs : List Int) (y5 : Option V), Same H H' ∧ H' D = some (.lst (zs.map V.int)) ∧ zs.length = N ∧ (∀ k, co zs k = pc xs ys i j k % p) ∧ σ = [some (.int p), some (.ref a), some (.ref b), some (.ref D), some (.int (0 + (i : Int))), y5]) ⟨zs, _, e1, hD, hz, hc, rfl⟩ ?_ ?_
      · rintro j σ H' hj ⟨zs, y5, e1, hD, hz, hc, rfl⟩
        have hj' : j < ys.length := by omega
        have ha2 := Vb.sqA_same e1 ha
        have hb2 := Vb.sqA_same e1 hb
        have bx := hcx _ (List.mem_of_getElem? (co_in hi'))
        walk_at "rd"
        refine Vb.r_ixL (Vb.sq_of hD) (Vb.at_lit (i + j) (by omega) (co_map (by omega))) ?_
        walk_at "rd"
        refine Vb.r_ixA ha2 (Vb.at_lit i (by omega) (co_map hi')) ?_
        walk_at "rd"
        refine Vb.r_ixA hb2 (Vb.at_lit j (by omega) (co_map hj')) ?_
        walk_at "rd"
        refine Vb.r_setL hD (Vb.ix_nat (i + j) (by omega) (by rw [List.length_map]; omega)) ?_
        refine ⟨zs.set (i + j) ((co zs (i + j) + co xs i * co ys j) % p), _, Vb.same_mut e1 nDH, by rw [upd_same, map_set], by rw [List.length_set]; exact hz, fun k => ?_, rfl⟩
        rw [co_set (by omega), pc_step, hc k]
        by_cases e : k = i + j
        · subst e
          rw [if_pos rfl, if_pos rfl, hc, Int.emod_add_emod]
        · rw [if_neg e, if_neg (Ne.symm e), Int.add_zero]
      · rintro σ H2 ⟨zs, y5, e3, hD, hz, hc, rfl⟩
        exact ⟨zs, _, _, e3, hD, hz, fun k => by rw [hc k, ← pc_row]; rfl, rfl⟩
    · rintro σ H1 ⟨zs, y4, y5, e1, hD, hz, hc, rfl⟩
      walk_at "rd"
      refine ⟨D, zs, rfl, .inl (Vb.sq_of hD), fun t H2 e2 h2 => ?_⟩
      exact q t H2 zs (e1.trans e2) h2 fun k => by rw [hc k, ← pc_end]; rfl
end
end K
namespace K
open PySem PySem.Spec PyProof.Rows L2
abbrev N__law_root_poly : List Str := ["prime", "numbers", "row", "number"]
theorem sc__law_root_poly : FnScope N__law_root_poly ["prime", "numbers"] (defScope s__law_root_poly) := ⟨rfl, rfl, rfl, by decide +kernel, rfl, by decide +kernel, by decide +kernel⟩
section
variable {P : Program} {w : World} {K : PySem.W.Frag} {mg : Str → Option Value} {base : Heap}
def sp_rootpoly (K : PySem.W.Frag) : Sp := fun vs H Q _ => ∃ (p : Int) (l : Addr) (ns : List Int), vs = [.int p, .ref l] ∧ (2 ≤ p ∧ p ≤ 101) ∧ SqL K H l (ns.map V.int) ∧ ns.length ≤ 500 ∧ ∀ (r : Addr) (H' : Hp) (zs : List Int), H r = none → Same H H' → H' r = some (.lst (zs.map V.int)) → RP p ns zs → Q (.ref r) H'
theorem ok_rootpoly (T : Txt K mg) : FnOk P w K mg base (L2N.CX P w) 3 T.f__law_root_poly T.fd__law_root_poly ["prime", "numbers"] (sp_rootpoly K) := by
  have G__law_poly_times := ok_polytimes (P := P) (w := w) (base := base) T
  refine Vb.okN T.d__law_root_poly.F sc__law_root_poly (fun vs H Q E h => ?_) (fun cdv A outer s H vs Q E hr h => ?_)
  · obtain ⟨p, l, ns, rfl, _⟩ := h
    rfl
  · obtain ⟨p, l, ns, rfl, hp, hl, hn, q⟩ := h
    refine ⟨_, (pss_cons (ps_set (i := 2) sc__law_root_poly.nd rfl (by first | exact Or.inl rfl | exact Or.inr rfl) (pe_tup (pa_cons pe_int pa_nil)))
      (pss_cons (ps_for (L2.passes_of rfl) rfl (pi_list (pv 1)) (pg_name (i := 3) sc__law_root_poly.nd rfl (by first | exact Or.inl rfl | exact Or.inr rfl))
        (pss_one (ps_set (i := 2) sc__law_root_poly.nd rfl (by first | exact Or.inl rfl | exact Or.inr rfl) (pe_callS G__law_poly_times (hr.mono (by first | decide | omega)) (by rfl) T.d__law_poly_times.g T.d__law_poly_times.F.kp T.d__law_poly_times.b (fun σ => L2N.passAt (L2N.takes_of rfl rfl rfl rfl) σ) (pa_cons (pv 0) (pa_cons (pv 2) (pa_cons (pe_tup (pa_cons (pe_op op_mod (pe_callTy Vb.call_int (by rfl) T.n_int (by decide +kernel) (pa_cons (pe_un un_neg (pv 3)) pa_nil)) (pv 0)) (pa_cons pe_int pa_nil))) pa_nil)))))))
      (pss_one (ps_ret (pe_callTy Vb.call_list (by rfl) T.n_list (by decide +kernel) (pa_cons (pv 2) pa_nil)))))), ?_⟩
    (change (_ : L2.TS) _ ([some (.int p), some (.ref l), none, none] : L2.St) _); try dsimp only [L2.cxOf, L2H.cxH]
    walk_at "rd"
    refine ⟨Vb.size_ok (by show 1 ≤ 16777216; decide), fun t0 n0 => ?_⟩
    have e0 := Vb.same_new (o := .tup [.int 1]) n0
    have h0 : SqT K (upd H t0 (.tup [.int 1])) t0 (([1] : List Int).map V.int) := Vb.st_of upd_same
    have hl0 := e0.seq hl
    generalize upd H t0 _ = H0 at e0 h0 hl0 ⊢
    walk_at "rd"
    refine Vb.lp_list (xs := ns.map V.int) (fun i σ H' => ∃ (t : Addr) (zs : List Int) (y : Option V), Same H H' ∧ SqT K H' t (zs.map V.int) ∧ RP p (ns.take i) zs ∧ σ = [some (.int p), some (.ref l), some (.ref t), y]) ⟨t0, [1], none, e0, h0, .nil, rfl⟩ (fun i σ' H' _ h => by obtain ⟨_, _, _, e, _⟩ := h; exact e.seq hl) ?_ ?_
    · rintro i x σ H' hx ⟨t, zs, y, e, ht, hr, rfl⟩
      obtain ⟨x, hx1, rfl⟩ := Vb.getV' hx
      have len := hr.len
      have lt : (ns.take i).length ≤ ns.length := by rw [List.length_take]; omega
      walk_at "rd"
      refine ⟨Vb.size_ok (by show 2 ≤ 16777216; decide), fun W nW => ?_⟩
      have eW := Vb.same_new (o := .tup (([-x % p, 1] : List Int).map V.int)) nW
      have hW : SqT K (upd H' W (.tup (([-x % p, 1] : List Int).map V.int))) W (([-x % p, 1] : List Int).map V.int) := Vb.st_of upd_same
      walk_at "rd"
      refine ⟨p, t, W, zs, [-x % p, 1], rfl, hp, .inr (Vb.sqT_same eW ht), .inr hW, ⟨by omega, by show 2 ≤ 1000; decide⟩, hr.bd hp.1, fun t2 H2 us e2 ht2 hz => ?_⟩
      refine ⟨t2, trim us, _, e.trans (eW.trans e2), ht2, ?_, rfl⟩
      rw [List.take_add_one, hx1]
      exact .snoc hr (trim_trim us) fun k => by rw [co_trim, hz]
    · rintro σ H' ⟨t, zs, y, e, ht, hr, rfl⟩
      rw [List.length_map, List.take_length] at hr
      walk_at "rd"
      refine ⟨t, _, rfl, .inr ht, fun R nR => ?_⟩
      exact q R _ zs (e.free nR) (e.trans (Vb.same_new nR)) upd_same hr
end
end K
namespace K
open PySem PySem.Spec PyProof.Rows L2
section
theorem zerosOf_mem {p x : Int} {ns : List Int} (h : x ∈ zerosOf p ns p.toNat) : (0 ≤ x ∧ x < p) ∧ ev ns x % p = 0 := by
  unfold zerosOf at h
  have h2 := List.mem_filter.mp h
  exact ⟨fnums_mem.mp h2.1, of_decide_eq_true h2.2⟩
theorem zerosOf_nodup (p : Int) (ns : List Int) : (zerosOf p ns p.toNat).Nodup := (fnums_nodup p).filter _
theorem zerosOf_trim (p : Int) (ns : List Int) (n : Nat) : zerosOf p (trim ns) n = zerosOf p ns n := by
  unfold zerosOf
  congr 1
  funext x
  rw [ev_ext (co_trim ns)]
theorem zerosOf_zero {p : Int} {ns : List Int} (h : trim ns = []) : zerosOf p ns p.toNat = fnums p := by
  rw [← zerosOf_trim, h]
  unfold zerosOf fnums
  exact List.filter_eq_self.mpr fun x _ => decide_eq_true (Int.zero_emod p)
/-- all coefficients are zero where there are as many different zeros -/
theorem nil_of_zeros {p : Int} {rs S : List Int} (hp : Vb.Prm p ∧ p ≤ 101) (t : trim rs = rs) (b : ∀ c ∈ rs, 0 ≤ c ∧ c < p) (hl : rs.length ≤ S.length) (nd : S.Nodup) (hb : ∀ x ∈ S, 0 ≤ x ∧ x < p) (hz : ∀ x ∈ S, ev rs x % p = 0) : rs = [] := by
  have h := roots_zero hp rs.length rs S rfl hl nd hb fun x m => by rw [hn_ev]; exact hz x m
  rw [← t]
  refine trim_nil_of rs fun k => ?_
  by_cases hk : k < rs.length
  · have m := co_mem hk
    have h1 := h _ m
    have h2 := b _ m
    rw [Int.emod_eq_of_lt h2.1 h2.2] at h1
    exact h1
  · exact co_out (by omega)
theorem zeros_few {p : Int} {ns : List Int} (hp : Vb.Prm p ∧ p ≤ 101) (b : ∀ c ∈ ns, 0 ≤ c ∧ c < p) (h : trim ns ≠ []) : (zerosOf p ns p.toNat).length < (trim ns).length := by
  by_cases hl : (trim ns).length ≤ (zerosOf p ns p.toNat).length
  · refine absurd (nil_of_zeros hp (trim_trim ns) (fun c m => b c (trim_mem m)) hl (zerosOf_nodup p ns) (fun x m => (zerosOf_mem m).1) fun x m => ?_) h
    rw [ev_ext (co_trim ns)]
    exact (zerosOf_mem m).2
  · omega
theorem div_ev {p x : Int} {cs qs gs rs : List Int} (h : ∀ k, (co cs k - (cv qs gs k + co rs k)) % p = 0) : ev cs x % p = (ev qs x * ev gs x + ev rs x) % p := by
  generalize hN : cs.length + qs.length + gs.length + rs.length = N
  rw [← cv_ev qs gs x (n := N) (by omega), ev_long (xs := cs) (n := N) (by omega), ev_long (xs := rs) (n := N) (by omega), ← su_add, ← su_emod, ← su_emod N (fun i => cv qs gs i * x ^ i + co rs i * x ^ i)]
  congr 1
  refine su_congr fun k _ => ?_
  rw [← Int.add_mul, Int.mul_emod, Int.emod_eq_emod_iff_emod_sub_eq_zero.mpr (h k), ← Int.mul_emod]
/-- division by the product over all the zeros: no remainder, and the quotient's length -/
theorem root_div {p : Int} {ns gs qs rs : List Int} (hp : Vb.Prm p ∧ p ≤ 101) (b : ∀ c ∈ ns, 0 ≤ c ∧ c < p) (hn : trim ns ≠ []) (r : RP p (zerosOf p ns p.toNat) gs) (tq : trim qs = qs) (bq : ∀ c ∈ qs, 0 ≤ c ∧ c < p) (tr : trim rs = rs) (br : ∀ c ∈ rs, 0 ≤ c ∧ c < p) (hl : rs.length < gs.length) (h : ∀ k, (co (trim ns) k - (cv qs gs k + co rs k)) % p = 0) : rs = [] ∧ qs.length = (trim ns).length - (zerosOf p ns p.toNat).length := by
  have h0 := hp.1.1
  have gl := r.length h0
  have rz : rs = [] := by
    refine nil_of_zeros (S := zerosOf p ns p.toNat) hp tr br (by omega) (zerosOf_nodup p ns) (fun x m => (zerosOf_mem m).1) fun x m => ?_
    have hx := zerosOf_mem m
    have e := div_ev (x := x) h
    have g0 : ev gs x % p = 0 := by
      rw [r.ev_]
      exact (rprod_zero hp hx.1 _ fun n hn => (zerosOf_mem hn).1).mpr m
    rw [ev_ext (co_trim ns), hx.2, Int.add_emod, Int.mul_emod, g0, Int.mul_zero, Int.zero_emod, Int.zero_add, Int.emod_emod_of_dvd _ (Int.dvd_refl p)] at e
    exact e.symm
  refine ⟨rz, ?_⟩
  have cs : ∀ k, co (trim ns) k = cv qs gs k % p := fun k => by
    have hk := h k
    rw [rz, co_nil, Int.add_zero] at hk
    rw [← Int.emod_eq_emod_iff_emod_sub_eq_zero.mpr hk]
    have bk : 0 ≤ co (trim ns) k ∧ co (trim ns) k < p := by
      by_cases hk : k < (trim ns).length
      · exact b _ (trim_mem (co_mem hk))
      · rw [co_out (by omega)]; omega
    exact (Int.emod_eq_of_lt bk.1 bk.2).symm
  have qn : qs ≠ [] := fun z => hn (by
    rw [← trim_trim]
    refine trim_nil_of _ fun k => ?_
    rw [cs, z]
    show su 0 _ % p = 0
    exact Int.zero_emod p)
  have cb : ∀ {xs : List Int}, (∀ c ∈ xs, 0 ≤ c ∧ c < p) → ∀ k, 0 ≤ co xs k ∧ co xs k < p := fun {xs} bx k => by
    by_cases hk : k < xs.length
    · exact bx _ (co_mem hk)
    · rw [co_out (by omega)]; omega
  have := prod_len hp tq r.tr (cb bq) (cb (r.bd h0)) qn (fun z => by rw [z] at gl; simp at gl) (trim_trim ns) cs
  omega
end
end K
namespace K
open PySem PySem.Spec PyProof.Rows L2


abbrev N__law_with_ends : List Str := ["store", "prime", "degree", "wanted", "row", "k"]
theorem sc__law_with_ends : FnScope N__law_with_ends ["store", "prime", "degree", "wanted"] (defScope s__law_with_ends) := ⟨rfl, rfl, rfl, by decide +kernel, rfl, by decide +kernel, by decide +kernel⟩
section
variable {P : Program} {w : World} {K : PySem.W.Frag} {mg : Str → Option Value} {base : Heap}
theorem sum_set : ∀ {xs : List Int} {k : Nat} {c : Int}, k < xs.length → (xs.set k c).sum = xs.sum - co xs k + c
  | [], k, c, h => absurd h (Nat.not_lt_zero k)
  | x :: xs, 0, c, _ => by rw [List.set_cons_zero, List.sum_cons, List.sum_cons, co_zero]; omega
  | x :: xs, k + 1, c, h => by rw [List.set_cons_succ, List.sum_cons, List.sum_cons, co_succ, sum_set (Nat.lt_of_succ_lt_succ h)]; omega
/-- a row whose ends are as wanted; none where there is none -/
def sp_withends : Sp := fun vs H Q _ => ∃ (st : Addr) (p n u : Int), vs = [.ref st, .int p, .int n, .int u] ∧ Vb.StoreAt H st ∧ (Vb.Prm p ∧ p ≤ 101) ∧ (0 ≤ n ∧ n ≤ 1000) ∧ (0 ≤ u ∧ u < 1000) ∧
  (∀ H', p = 2 → n = 0 → u % 2 = 1 → Vb.Fr st H H' → Vb.StoreAt H' st → Q .non H') ∧
  (∀ (l : Addr) (H' : Hp) (ns : List Int), l ≠ st → H l = none → H' l = some (.lst (ns.map V.int)) → (ns.length : Int) = n + 1 → (∀ c ∈ ns, 0 ≤ c ∧ c < p) → endsOf p ns = u % p → Vb.Fr st H H' → Vb.StoreAt H' st → Q (.ref l) H')
theorem ok_withends (T : Txt K mg) : FnOk P w K mg base (L2N.CX P w) 3 T.f__law_with_ends T.fd__law_with_ends ["store", "prime", "degree", "wanted"] sp_withends := by
  have G__law_take := ok_take (P := P) (w := w) (base := base) T
  refine Vb.okN T.d__law_with_ends.F sc__law_with_ends (fun vs H Q E h => ?_) (fun cdv A outer s H vs Q E hr h => ?_)
  · obtain ⟨st, p, n, u, rfl, _⟩ := h
    rfl
  · obtain ⟨st, p, n, u, rfl, hS, hp, hn, hu, q1, q2⟩ := h
    have hp2 := hp.1.1
    refine ⟨_, (pss_cons (ps_setLc (i := 4) (own := [("k", 5)]) (g := gName 5) (tt := tYes) rfl sc__law_with_ends.nd rfl rfl (sw_true rfl rfl rfl (by decide +kernel)) (pi_range1 rfl T.n_range (pa_cons (pe_op op_add (pv 2) pe_int) pa_nil)) (blkOk_by (own := [("k", 5)]) (N := N__law_with_ends) (sc := defScope s__law_with_ends) (by decide +kernel)) (fun _ _ _ _ _ => (pg_name (i := 5) sc__law_with_ends.nd rfl (by first | exact Or.inl rfl | exact Or.inr rfl))) (fun _ _ _ _ _ => pts_nil) (fun _ _ _ _ _ => (pe_call G__law_take (hr.mono (by first | decide | omega)) (by rfl) T.d__law_take.g T.d__law_take.F.kp T.d__law_take.b .nil Vb.pass5 (pa_cons (pv 0) (pa_cons (pv 1) pa_nil)))))
      (pss_cons (ps_if (pt_cmpR op_eq (pv 2) pe_int (nomark _)) (pss_cons (ps_if (pt_cmpR op_gt (pv 1) pe_int (nomark _)) (pss_one (ps_ret (pe_lst (pa_cons (pe_op op_mod (pe_callTy Vb.call_int (by rfl) T.n_int (by decide +kernel) (pa_cons (pe_op op_fdiv (pe_op op_mul (pv 3) (pe_op op_add (pv 1) pe_int)) pe_int) pa_nil)) (pv 1)) pa_nil)))) pss_nil)
      (pss_cons (ps_if (pt_cmpR op_eq (pe_op op_mod (pe_callTy Vb.call_int (by rfl) T.n_int (by decide +kernel) (pa_cons (pv 3) pa_nil)) pe_int) pe_int (nomark _)) (pss_one (ps_ret pe_non)) pss_nil)
      (pss_one (ps_ret (pv 4))))) pss_nil)
      (pss_cons (ps_asg (pe_op op_mod (pe_callTy Vb.call_int (by rfl) T.n_int (by decide +kernel) (pa_cons (pe_op op_sub (pe_op op_sub (pv 3) (pe_ix ix_list (pv 4) pe_int (fun _ _ => rfl))) (pe_op op_sub (pe_callB (cr_sum rfl) (by rfl) T.n_sum (by decide +kernel) (pa_cons (pv 4) pa_nil)) (pe_ix ix_list (pv 4) pe_int (fun _ _ => rfl)))) pa_nil)) (pv 1)) (pg_sub (pv 4) pe_int set_list))
      (pss_one (ps_ret (pv 4)))))), ?_⟩
    (change (_ : L2.TS) _ ([some (.ref st), some (.int p), some (.int n), some (.int u), none, none] : L2.St) _); try dsimp only [L2.cxOf, L2H.cxH]
    walk_at "rd"
    intro D hD
    refine Vb.lcw_range (fun i H' => ∃ ns, NmS p st D i H H' ns) ⟨[], NmS.nil hS hD⟩ (fun x => rfl) ?_ ?_
    · rintro i H' hi ⟨ns, v⟩
      walk_at "rd"
      refine use_take v.S (by omega) fun x H2 x1 x2 _ f2 S2 => ?_
      have x3 := x2 (by omega)
      replace v := v.fr f2 S2
      exact ⟨_, v.h, Vb.size_lt (by rw [List.length_map, v.c]; show _ < 16777216; omega), _, v.app ⟨x1, x3⟩⟩
    rintro H1 ⟨ns, v⟩
    have vc := v.c
    have vl : (ns.length : Int) = n + 1 := by omega
    have vh := v.h
    walk_at "rd"
    refine Vb.r_ite (fun c => ?_) (fun c => ?_)
    · walk_at "rd"
      refine Vb.r_ite (fun c2 => ?_) (fun c2 => ?_)
      · walk_at "rd"
        refine ⟨Vb.size_ok (by show 1 ≤ 16777216; decide), fun l nl => ?_⟩
        have b : 0 ≤ u * (p + 1) / 2 % p ∧ u * (p + 1) / 2 % p < p := ⟨Int.emod_nonneg _ (by omega), Int.emod_lt_of_pos _ (by omega)⟩
        refine q2 l _ [u * (p + 1) / 2 % p] (v.S.ne nl) (fr_none v.f (v.S.ne nl) nl) upd_same (by rw [c]; rfl) (fun z m => by rw [List.mem_singleton.mp m]; exact b) ?_ (v.f.trans (Vb.Fr.of (Vb.same_new nl))) (v.S.same (Vb.same_new nl))
        rw [ends_sum]
        show (u * (p + 1) / 2 % p + (u * (p + 1) / 2 % p + 0)) % p = u % p
        rw [Int.add_zero, ← Int.add_emod]
        have od : p % 2 = 1 := by
          have := hp.1.2 2 (by decide) c2
          omega
        obtain ⟨k, hk⟩ : ∃ k, p + 1 = k * 2 := ⟨(p + 1) / 2, by omega⟩
        have e1 : u * (p + 1) / 2 = u * k := by
          rw [hk, ← Int.mul_assoc, Int.mul_ediv_cancel _ (by decide)]
        have e2 : u * k + u * k = u + u * p := by
          have : u * (p + 1) = u * (k * 2) := by rw [hk]
          rw [Int.mul_add, Int.mul_one, ← Int.mul_assoc] at this
          omega
        rw [e1, e2, Int.add_mul_emod_self_right]
      · have p2 : p = 2 := by omega
        walk_at "rd"
        refine Vb.r_ite (fun c3 => ?_) (fun c3 => ?_)
        · walk_at "rd"
          exact q1 _ p2 c c3 v.f v.S
        · walk_at "rd"
          refine q2 D H1 ns v.ne v.n0 vh vl v.a ?_ v.f v.S
          rw [ends_sum]
          match ns, vl with
          | [x], _ =>
            show (x + (x + 0)) % p = u % p
            subst p2
            omega
          | [], vl => rw [c] at vl; cases vl
          | _ :: _ :: _, vl => rw [c] at vl; simp at vl; omega
    · have h0 : (ns.map V.int)[0]? = some (.int (co ns 0)) := by
        rw [List.getElem?_map, co_in (by omega)]
        rfl
      have h1 : (ns.map V.int)[1]? = some (.int (co ns 1)) := by
        rw [List.getElem?_map, co_in (by omega)]
        rfl
      walk_at "rd"
      refine Vb.r_ixL (Vb.sq_of vh) (Vb.at_lit 0 rfl h0) ?_
      walk_at "rd"
      refine ⟨D, ns, rfl, Vb.sq_of vh, ?_⟩
      walk_at "rd"
      refine Vb.r_ixL (Vb.sq_of vh) (Vb.at_lit 1 rfl h1) ?_
      walk_at "rd"
      refine Vb.r_setL vh (Vb.ix_nat 1 rfl (by rw [List.length_map]; omega)) ?_
      walk_at "rd"
      obtain ⟨c1, hc1⟩ : ∃ c1, c1 = (u - co ns 0 - (ns.sum - co ns 1)) % p := ⟨_, rfl⟩
      rw [← hc1]
      have b : 0 ≤ c1 ∧ c1 < p := by rw [hc1]; exact ⟨Int.emod_nonneg _ (by omega), Int.emod_lt_of_pos _ (by omega)⟩
      refine q2 D _ (ns.set 1 c1) v.ne v.n0 (by rw [upd_same, List.map_set]) (by rw [List.length_set]; exact vl) (fun z m => ?_) ?_ (v.f.mut v.n0) (hS.mut v.n0 v.f v.S)
      · rcases List.mem_or_eq_of_mem_set m with m | rfl
        · exact v.a z m
        · exact b
      · rw [ends_sum, sum_set (by omega)]
        have e0 : co (ns.set 1 c1) 0 = co ns 0 := by
          unfold co
          rw [List.getD_eq_getElem?_getD, List.getD_eq_getElem?_getD, List.getElem?_set_ne (by decide)]
        rw [e0, hc1, Int.add_comm (ns.sum - co ns 1), ← Int.add_assoc, Int.add_comm (co ns 0), Int.add_assoc, Int.emod_add_emod]
        congr 1
        omega
end
end K
namespace K
open PySem PySem.Spec PyProof.Rows L2

abbrev N__law_unit : List Str := ["store", "prime", "degree", "way", "numbers", "row", "factor", "k", "number"]
theorem sc__law_unit : FnScope N__law_unit ["store", "prime", "degree"] (defScope s__law_unit) := ⟨rfl, rfl, rfl, by decide +kernel, rfl, by decide +kernel, by decide +kernel⟩
section
variable {P : Program} {w : World} {K : PySem.W.Frag} {mg : Str → Option Value} {base : Heap}
theorem inv_zero (p : Int) : inv p 0 = 0 := by
  unfold inv
  rw [find_none (fun k _ => by rw [Int.zero_mul, Int.zero_emod]; rfl)]
/-- a row with ends of 1, of this degree at most -/
def sp_unitrow : Sp := fun vs H Q _ => ∃ (st : Addr) (p n : Int), vs = [.ref st, .int p, .int n] ∧ Vb.StoreAt H st ∧ (Vb.Prm p ∧ p ≤ 101) ∧ (0 ≤ n ∧ n ≤ 127) ∧
  (∀ H', p = 2 → n = 0 → Vb.Fr st H H' → Vb.StoreAt H' st → Q .non H') ∧
  (∀ (l : Addr) (H' : Hp) (ns : List Int), l ≠ st → H' l = some (.lst (ns.map V.int)) → (ns.length : Int) ≤ n + 1 → (∀ c ∈ ns, 0 ≤ c ∧ c < p) → endsOf p ns = 1 → Vb.Fr st H H' → Vb.StoreAt H' st → Q (.ref l) H')
theorem ok_unitrow (T : Txt K mg) : FnOk P w K mg base (L2N.CX P w) 4 T.f__law_unit T.fd__law_unit ["store", "prime", "degree"] sp_unitrow := by
  have G__law_take := ok_take (P := P) (w := w) (base := base) T
  have G__law_unlike := ok_unlike (P := P) (w := w) (base := base) T
  have G__law_root_poly := ok_rootpoly (P := P) (w := w) (base := base) T
  have G__law_inverse := ok_inverse (P := P) (w := w) (base := base) T
  have G__law_poly_ends := ok_polyends (P := P) (w := w) (base := base) T
  have G__law_with_ends := ok_withends (P := P) (w := w) (base := base) T
  refine Vb.okN T.d__law_unit.F sc__law_unit (fun vs H Q E h => ?_) (fun cdv A outer s H vs Q E hr h => ?_)
  · obtain ⟨st, p, n, rfl, _⟩ := h
    rfl
  · obtain ⟨st, p, n, rfl, hS, hp, hn, q1, q2⟩ := h
    have hp2 : 2 ≤ p ∧ p ≤ 101 := ⟨hp.1.1, hp.2⟩
    have fin : ∀ {G : Hp} {E : XK}, Vb.Fr st H G → Vb.StoreAt G st → sp_withends [.ref st, .int p, .int n, .int 1] G Q E := fun {G E} F S =>
      ⟨st, p, n, 1, rfl, S, hp, by omega, by decide, fun H' e1 e2 _ f s => q1 H' e1 e2 (F.trans f) s, fun l H' ns l1 _ l3 l4 l5 l6 f s => q2 l H' ns l1 l3 (by omega) l5 (by rw [l6]; exact Int.emod_eq_of_lt (by decide) (by omega)) (F.trans f) s⟩
    refine ⟨_, (pss_cons (ps_set (i := 3) sc__law_unit.nd rfl (by first | exact Or.inl rfl | exact Or.inr rfl) (pe_callS G__law_take (hr.mono (by first | decide | omega)) (by rfl) T.d__law_take.g T.d__law_take.F.kp T.d__law_take.b (fun σ => L2N.passAt (L2N.takes_of rfl rfl rfl rfl) σ) (pa_cons (pv 0) (pa_cons pe_int pa_nil))))
      (pss_cons (ps_if (pt_cmpR op_gt (pv 3) pe_int (nomark _)) (pss_cons (ps_set (i := 4) sc__law_unit.nd rfl (by first | exact Or.inl rfl | exact Or.inr rfl) (pe_callS G__law_unlike (hr.mono (by first | decide | omega)) (by rfl) T.d__law_unlike.g T.d__law_unlike.F.kp T.d__law_unlike.b (fun σ => L2N.passAt (L2N.takes_of rfl rfl rfl rfl) σ) (pa_cons (pv 0) (pa_cons (pv 1) (pa_cons (pv 2) pa_nil)))))
      (pss_cons (ps_if (pt_cmpR op_eq (pv 3) pe_int (nomark _)) (pss_one (ps_setLc (i := 4) (own := [("k", 7)]) (g := gName 7) (tt := tYes) rfl sc__law_unit.nd rfl rfl (sw_true rfl rfl rfl (by decide +kernel)) (pi_range1 rfl T.n_range (pa_cons (pe_callS G__law_take (hr.mono (by first | decide | omega)) (by rfl) T.d__law_take.g T.d__law_take.F.kp T.d__law_take.b (fun σ => L2N.passAt (L2N.takes_of rfl rfl rfl rfl) σ) (pa_cons (pv 0) (pa_cons (pe_op op_add (pv 2) pe_int) pa_nil))) pa_nil)) (blkOk_by (own := [("k", 7)]) (N := N__law_unit) (sc := defScope s__law_unit) (by decide +kernel)) (fun _ _ _ _ _ => (pg_name (i := 7) sc__law_unit.nd rfl (by first | exact Or.inl rfl | exact Or.inr rfl))) (fun _ _ _ _ _ => pts_nil) (fun _ _ _ _ _ => (pe_call G__law_take (hr.mono (by first | decide | omega)) (by rfl) T.d__law_take.g T.d__law_take.F.kp T.d__law_take.b .nil Vb.pass5 (pa_cons (pv 0) (pa_cons (pv 1) pa_nil)))))) pss_nil)
      (pss_cons (ps_set (i := 5) sc__law_unit.nd rfl (by first | exact Or.inl rfl | exact Or.inr rfl) (pe_callS G__law_root_poly (hr.mono (by first | decide | omega)) (by rfl) T.d__law_root_poly.g T.d__law_root_poly.F.kp T.d__law_root_poly.b (fun σ => L2N.passAt (L2N.takes_of rfl rfl rfl rfl) σ) (pa_cons (pv 1) (pa_cons (pv 4) pa_nil))))
      (pss_cons (ps_set (i := 6) sc__law_unit.nd rfl (by first | exact Or.inl rfl | exact Or.inr rfl) (pe_callS G__law_inverse (hr.mono (by first | decide | omega)) (by rfl) T.d__law_inverse.g T.d__law_inverse.F.kp T.d__law_inverse.b (fun σ => L2N.passAt (L2N.takes_of rfl rfl rfl rfl) σ) (pa_cons (pv 1) (pa_cons (pe_callS G__law_poly_ends (hr.mono (by first | decide | omega)) (by rfl) T.d__law_poly_ends.g T.d__law_poly_ends.F.kp T.d__law_poly_ends.b (fun σ => L2N.passAt (L2N.takes_of rfl rfl rfl rfl) σ) (pa_cons (pv 1) (pa_cons (pv 5) pa_nil))) pa_nil))))
      (pss_one (ps_if (pt_cmpR op_gt (pv 6) pe_int (nomark _)) (pss_one (ps_ret (pe_lc (own := [("number", 8)]) (g := gName 8) (tt := tYes) rfl sc__law_unit.nd (pi_list (pv 5)) (blkOk_by (own := [("number", 8)]) (N := N__law_unit) (sc := defScope s__law_unit) (by decide +kernel)) (fun _ _ _ _ _ => (pg_name (i := 8) sc__law_unit.nd rfl (by first | exact Or.inl rfl | exact Or.inr rfl))) (fun _ _ _ _ _ => pts_nil) (fun _ _ _ _ _ => (pe_op op_mod (pe_callTy Vb.call_int (by rfl) T.n_int (by decide +kernel) (pa_cons (pe_op op_mul (pv 6) (pv 8)) pa_nil)) (pv 1)))))) pss_nil)))))) pss_nil)
      (pss_one (ps_ret (pe_callS G__law_with_ends (hr.mono (by first | decide | omega)) (by rfl) T.d__law_with_ends.g T.d__law_with_ends.F.kp T.d__law_with_ends.b (fun σ => L2N.passAt (L2N.takes_of rfl rfl rfl rfl) σ) (pa_cons (pv 0) (pa_cons (pv 1) (pa_cons (pv 2) (pa_cons pe_int pa_nil))))))))), ?_⟩
    (change (_ : L2.TS) _ ([some (.ref st), some (.int p), some (.int n), none, none, none, none, none, none] : L2.St) _); try dsimp only [L2.cxOf, L2H.cxH]
    walk_at "rd"
    refine use_take hS (by decide) fun way H1 w1 w2 _ f1 S1 => ?_
    walk_at "rd"
    refine Vb.r_ite (fun c => ?_) (fun c => ?_)
    · walk_at "rd"
      refine ⟨st, p, n, rfl, S1, ⟨by omega, hp.2⟩, ⟨hn.1, by omega⟩, fun N H3 ns mN hN lN bN _ f2 S3 => ?_⟩
      have F3 := f1.trans f2
      walk_at "rd"
      refine Vb.r_ite (fun c2 => ?_) (fun c2 => ?_)
      · walk_at "rd"
        refine use_take S3 (by omega) fun k H4 k1 k2 k3 f4 S4 => ?_
        have k4 : k ≤ n := by
          by_cases z : 1 < n + 1
          · have := k2 z; omega
          · have := k3 (by omega); omega
        walk_at "rd"
        intro D hD
        refine Vb.lcw_range (fun i H' => ∃ ns, NmS p st D i H4 H' ns) ⟨[], NmS.nil S4 hD⟩ (fun x => rfl) ?_ ?_
        · rintro i H' hi ⟨ns, v⟩
          walk_at "rd"
          refine use_take v.S (by omega) fun x H2 x1 x2 _ f2 S2 => ?_
          have x3 := x2 (by omega)
          replace v := v.fr f2 S2
          exact ⟨_, v.h, Vb.size_lt (by rw [List.length_map, v.c]; show _ < 16777216; omega), _, v.app ⟨x1, x3⟩⟩
        rintro H5 ⟨ms, v⟩
        have F5 := (F3.trans f4).trans v.f
        have S5 := v.S
        have hD5 := v.h
        have lD : (ms.length : Int) ≤ n := by have := v.c; omega
        clear hN lN bN F3 S3 f2
        obtain ⟨N, rfl⟩ : ∃ N', N' = D := ⟨_, rfl⟩
        obtain ⟨ns, rfl⟩ : ∃ ns', ns' = ms := ⟨_, rfl⟩
        obtain ⟨H3, rfl⟩ : ∃ H', H' = H5 := ⟨_, rfl⟩
        have hN := hD5
        have S3 := S5
        have F3 := F5
        walk_at "rd"
        refine ⟨p, N, ns, rfl, hp2, Vb.sq_of hN, by omega, fun R H4 zs nR e4 hR RPz => ?_⟩
        have S4 := S3.same e4
        have F4 := F3.trans (Vb.Fr.of e4)
        have zl := RPz.length hp2.1
        walk_at "rd"
        refine ⟨p, R, zs, rfl, hp2, .inl (Vb.sq_of hR), ?_⟩
        walk_at "rd"
        have eb : 0 ≤ endsOf p zs ∧ endsOf p zs < p := ⟨Int.emod_nonneg _ (by omega), Int.emod_lt_of_pos _ (by omega)⟩
        refine use_inverse ⟨by omega, hp.2⟩ eb ?_
        walk_at "rd"
        refine Vb.r_ite (fun k1 => ?_) (fun k1 => ?_)
        · have e0 : endsOf p zs ≠ 0 := fun z => by
            rw [z, inv_zero] at k1
            exact absurd k1 (by decide)
          obtain ⟨i1, i2⟩ := inv_pow hp.1 hp.2 (n := endsOf p zs) (by omega) eb.2
          rw [← i1] at i2
          have ib : 0 ≤ inv p (endsOf p zs) ∧ inv p (endsOf p zs) < p := by rw [i1]; exact ⟨Int.emod_nonneg _ (by omega), Int.emod_lt_of_pos _ (by omega)⟩
          generalize inv p (endsOf p zs) = f at i1 i2 ib k1 ⊢
          walk_at "rd"
          intro D hD
          refine Vb.lcw_list (xs := zs.map V.int) (fun i H' => Same H4 H' ∧ H' D = some (.lst (((zs.take i).map fun z => f * z % p).map V.int))) ⟨Vb.same_new hD, upd_same⟩ (fun x => rfl) (fun i H' _ h => h.1.seq (Vb.sq_of hR)) ?_ ?_
          · rintro i x H' hi ⟨e, h⟩
            obtain ⟨z, hz, rfl⟩ := Vb.getV' hi
            have bz := RPz.bd hp2.1 z (List.mem_of_getElem? hz)
            have li := (List.getElem?_eq_some_iff.mp hz).1
            walk_at "rd"
            refine ⟨_, h, Vb.size_lt (by rw [List.length_map, List.length_map, List.length_take]; omega), Vb.same_mut e hD, ?_⟩
            rw [upd_same, List.take_add_one, hz, List.map_append, List.map_append]
            rfl
          rintro H5 ⟨e5, hD5⟩
          rw [List.length_map, List.take_length] at hD5
          have hco : ∀ k, co (zs.map fun z => f * z % p) k = f * co zs k % p := fun k => co_map_g (g := fun z => f * z % p) (by rw [Int.mul_zero, Int.zero_emod]) k
          refine q2 D H5 _ (S4.ne hD) hD5 (by rw [List.length_map]; omega) (fun z m => ?_) ?_ (F4.trans (Vb.Fr.of e5)) (S4.same e5)
          · obtain ⟨y, _, rfl⟩ := List.mem_map.mp m
            exact ⟨Int.emod_nonneg _ (by omega), Int.emod_lt_of_pos _ (by omega)⟩
          · rw [ends_scale hco, Int.mul_comm]
            exact i2
        · walk_at "rd"
          exact fin F4 S4
      · have lN : (ns.length : Int) ≤ n := by omega
        walk_at "rd"
        refine ⟨p, N, ns, rfl, hp2, Vb.sq_of hN, by omega, fun R H4 zs nR e4 hR RPz => ?_⟩
        have S4 := S3.same e4
        have F4 := F3.trans (Vb.Fr.of e4)
        have zl := RPz.length hp2.1
        walk_at "rd"
        refine ⟨p, R, zs, rfl, hp2, .inl (Vb.sq_of hR), ?_⟩
        walk_at "rd"
        have eb : 0 ≤ endsOf p zs ∧ endsOf p zs < p := ⟨Int.emod_nonneg _ (by omega), Int.emod_lt_of_pos _ (by omega)⟩
        refine use_inverse ⟨by omega, hp.2⟩ eb ?_
        walk_at "rd"
        refine Vb.r_ite (fun k1 => ?_) (fun k1 => ?_)
        · have e0 : endsOf p zs ≠ 0 := fun z => by
            rw [z, inv_zero] at k1
            exact absurd k1 (by decide)
          obtain ⟨i1, i2⟩ := inv_pow hp.1 hp.2 (n := endsOf p zs) (by omega) eb.2
          rw [← i1] at i2
          have ib : 0 ≤ inv p (endsOf p zs) ∧ inv p (endsOf p zs) < p := by rw [i1]; exact ⟨Int.emod_nonneg _ (by omega), Int.emod_lt_of_pos _ (by omega)⟩
          generalize inv p (endsOf p zs) = f at i1 i2 ib k1 ⊢
          walk_at "rd"
          intro D hD
          refine Vb.lcw_list (xs := zs.map V.int) (fun i H' => Same H4 H' ∧ H' D = some (.lst (((zs.take i).map fun z => f * z % p).map V.int))) ⟨Vb.same_new hD, upd_same⟩ (fun x => rfl) (fun i H' _ h => h.1.seq (Vb.sq_of hR)) ?_ ?_
          · rintro i x H' hi ⟨e, h⟩
            obtain ⟨z, hz, rfl⟩ := Vb.getV' hi
            have bz := RPz.bd hp2.1 z (List.mem_of_getElem? hz)
            have li := (List.getElem?_eq_some_iff.mp hz).1
            walk_at "rd"
            refine ⟨_, h, Vb.size_lt (by rw [List.length_map, List.length_map, List.length_take]; omega), Vb.same_mut e hD, ?_⟩
            rw [upd_same, List.take_add_one, hz, List.map_append, List.map_append]
            rfl
          rintro H5 ⟨e5, hD5⟩
          rw [List.length_map, List.take_length] at hD5
          have hco : ∀ k, co (zs.map fun z => f * z % p) k = f * co zs k % p := fun k => co_map_g (g := fun z => f * z % p) (by rw [Int.mul_zero, Int.zero_emod]) k
          refine q2 D H5 _ (S4.ne hD) hD5 (by rw [List.length_map]; omega) (fun z m => ?_) ?_ (F4.trans (Vb.Fr.of e5)) (S4.same e5)
          · obtain ⟨y, _, rfl⟩ := List.mem_map.mp m
            exact ⟨Int.emod_nonneg _ (by omega), Int.emod_lt_of_pos _ (by omega)⟩
          · rw [ends_scale hco, Int.mul_comm]
            exact i2
        · walk_at "rd"
          exact fin F4 S4
    · walk_at "rd"
      exact fin f1 S1
end
end K
namespace K
open PySem PySem.Spec PyProof.Rows L2


abbrev N__law_best_told : List Str := ["prime", "degree", "poly", "many", "numbers", "row", "number", "rest"]
theorem sc__law_best_told : FnScope N__law_best_told ["prime", "degree", "poly"] (defScope s__law_best_told) := ⟨rfl, rfl, rfl, by decide +kernel, rfl, by decide +kernel, by decide +kernel⟩
section
variable {P : Program} {w : World} {K : PySem.W.Frag} {mg : Str → Option Value} {base : Heap}
theorem dok_two {n : Nat} {a b : PyData} (h : Vb.DOk (n + 1) a) (g : Vb.DOk (n + 1) b) : Vb.DOk (n + 2) (.tuple [a, b]) := ⟨by show 2 ≤ 1000000; decide, fun e m => by
  simp only [List.mem_cons, List.not_mem_nil, or_false] at m
  rcases m with rfl | rfl
  · exact h
  · exact g⟩
theorem sorted_ext : ∀ {xs ys : List Int}, xs.Pairwise (· < ·) → ys.Pairwise (· < ·) → (∀ x, x ∈ xs ↔ x ∈ ys) → xs = ys
  | [], [], _, _, _ => rfl
  | [], y :: ys, _, _, h => absurd ((h y).mpr (List.mem_cons_self ..)) (by simp)
  | x :: xs, [], _, _, h => absurd ((h x).mp (List.mem_cons_self ..)) (by simp)
  | x :: xs, y :: ys, h1, h2, h => by
    have ⟨a1, b1⟩ := List.pairwise_cons.mp h1
    have ⟨a2, b2⟩ := List.pairwise_cons.mp h2
    have e : x = y := by
      rcases List.mem_cons.mp ((h x).mp (List.mem_cons_self ..)) with e | m
      · exact e
      · rcases List.mem_cons.mp ((h y).mpr (List.mem_cons_self ..)) with e | m2
        · exact e.symm
        · have := a2 x m
          have := a1 y m2
          omega
    subst e
    congr 1
    refine sorted_ext b1 b2 fun z => ⟨fun m => ?_, fun m => ?_⟩
    · rcases List.mem_cons.mp ((h z).mp (List.mem_cons_of_mem _ m)) with e | m2
      · have := a1 z m; omega
      · exact m2
    · rcases List.mem_cons.mp ((h z).mpr (List.mem_cons_of_mem _ m)) with e | m2
      · have := a2 z m; omega
      · exact m2
theorem bestns_sorted {p : Int} {m : Nat} : (bestns p m).Pairwise (· < ·) := by
  refine List.Pairwise.sublist (List.take_sublist _ _) (List.pairwise_cons.mpr ⟨fun z h => ?_, ?_⟩)
  · obtain ⟨i, _, e⟩ := List.mem_map.mp h
    omega
  · refine List.pairwise_map.mpr (List.Pairwise.imp (fun {a b} h => ?_) List.pairwise_lt_range)
    omega
theorem fnums_sorted (p : Int) : (fnums p).Pairwise (· < ·) := by
  unfold fnums
  refine List.pairwise_map.mpr (List.Pairwise.imp (fun {a b} h => ?_) List.pairwise_lt_range)
  omega
theorem zerosOf_sorted (p : Int) (cs : List Int) : (zerosOf p cs p.toNat).Pairwise (· < ·) := (fnums_sorted p).filter _
theorem r_asgG {te : TE} {g : V → L2.St → Hp → (L2.St → Hp → Prop) → Prop} {C : Ends} {σ : L2.St} {H : Hp} (h : te σ H fun x H1 => g x σ H1 C.nx) : tAsg te g C σ H := h
/-- the best unit is told, or none for 2 and 0 -/
def sp_besttold (K : PySem.W.Frag) (C : Addr) : Sp := fun vs H Q _ => ∃ (v : V) (p n : Int) (m : Nat), vs = [.int p, .int n, v] ∧ (Vb.Prm p ∧ p ≤ 101) ∧ (0 ≤ n ∧ n ≤ 127) ∧ (m ≤ n ∧ m ≤ p - 1 ∧ (m = n ∨ m = p - 1)) ∧
  ((p = 2 ∧ m = 0) → v = .non) ∧ (¬ (p = 2 ∧ m = 0) → ∃ (a : Addr) (zs : List Int), v = .ref a ∧ RP p (bestns p m) zs ∧ PolyAt K C H a p (trim (zs.map fun c => (endsOf p zs ^ (p - 2).toNat % p) * c % p))) ∧ ∀ H', Same H H' → Q (.bl true) H'
theorem ok_besttold (T : Txt K mg) : FnOk P w K mg base (L2N.CX P w) 8 T.f__law_best_told T.fd__law_best_told ["prime", "degree", "poly"] (sp_besttold K T.C_Poly) := by
  have G__law_same := ok_same (P := P) (w := w) (base := base) T 6
  have G_Poly_degree := ok_pdeg (P := P) (w := w) (base := base) T
  have G_Poly_ends := ok_pends (P := P) (w := w) (base := base) T
  have G_Poly_fits := ok_pfits (P := P) (w := w) (base := base) T
  have G__law_integer := ok_integer (P := P) (w := w) (base := base) T
  have G__law_poly_ends := ok_polyends (P := P) (w := w) (base := base) T
  have G_roots_of := ok_roots (P := P) (w := w) (base := base) T
  have G__law_divided := ok_divided (P := P) (w := w) (base := base) T
  refine Vb.okN T.d__law_best_told.F sc__law_best_told (fun vs H Q E h => ?_) (fun cdv A outer s H vs Q E hr h => ?_)
  · obtain ⟨v, p, n, m, rfl, _⟩ := h
    rfl
  · obtain ⟨v, p, n, m, rfl, hp, hn, hm, h1, h2, q⟩ := h
    have hp2 : 2 ≤ p ∧ p ≤ 101 := ⟨hp.1.1, hp.2⟩
    refine ⟨_, (pss_cons (ps_if (PW.pt (pw_and (pt_cmpR op_eq (pv 0) pe_int (nomark _)) (pw_and1 (pt_cmpR op_eq (pv 1) pe_int (nomark _))))) (pss_one (ps_ret (pe_cmpR Vb.op_isN (pv 2) pe_non (nomark _)))) pss_nil)
      (pss_cons (ps_set (i := 3) sc__law_best_told.nd rfl (by first | exact Or.inl rfl | exact Or.inr rfl) (pe_callB (Vb.call_min2 rfl) (by rfl) T.n_min (by decide +kernel) (pa_cons (pv 1) (pa_cons (pe_op op_sub (pv 0) pe_int) pa_nil))))
      (pss_cons (ps_set (i := 4) sc__law_best_told.nd rfl (by first | exact Or.inl rfl | exact Or.inr rfl) (pe_slice sl_list (pe_op op_cat (pe_lst (pa_cons pe_int pa_nil)) (pe_listRg rfl (by rfl) T.n_list (prg_2 (by rfl) T.n_range pe_int (pv 0)))) po_none (po_some (pv 3))))
      (pss_cons (ps_if (PW.pt (pw_or (pt_not (pt_val (pe_callB call_isi (by rfl) T.n_isinstance (by decide +kernel) (pa_cons (pv 2) (pa_cons (pe_glob (v := .ref T.C_Poly) (by rfl) T.g_Poly rfl) pa_nil))))) (pw_or1 (pt_not (pt_val (pe_callS G__law_same (hr.mono (by first | decide | omega)) (by rfl) T.d__law_same.g T.d__law_same.F.kp T.d__law_same.b (fun σ => L2N.passAt (L2N.takes_of rfl rfl rfl rfl) σ) (pa_cons (pe_tup (pa_cons (pe_fld (pv 2) (by rfl)) (pa_cons (pe_prop (pv 2) T.c_Poly T.pr_Poly_degree G_Poly_degree (hr.mono (by first | decide | omega)) T.d_Poly_degree.b .nil Vb.pass5 (by rfl)) pa_nil))) (pa_cons (pe_tup (pa_cons (pv 0) (pa_cons (pv 3) pa_nil))) pa_nil)))))))) (pss_one (ps_ret pe_bl)) pss_nil)
      (pss_cons (ps_set (i := 5) sc__law_best_told.nd rfl (by first | exact Or.inl rfl | exact Or.inr rfl) (pe_fld (pv 2) (by rfl)))
      (pss_cons (ps_if (PW.pt (pw_or (pt_not (pt_val (pe_callB call_isi (by rfl) T.n_isinstance (by decide +kernel) (pa_cons (pv 5) (pa_cons (pe_bltn (v := .ty "tuple") (by rfl) T.n_tuple (by decide +kernel) rfl) pa_nil))))) (pw_or1 (pt_cmpR op_ne (pe_callB Vb.call_len (by rfl) T.n_len (by decide +kernel) (pa_cons (pv 5) pa_nil)) (pe_op op_add (pv 3) pe_int) (nomark _))))) (pss_one (ps_ret pe_bl)) pss_nil)
      (pss_cons (ps_if (pt_not (pt_val (pe_callB (Vb.call_all rfl) (by rfl) T.n_all (by decide +kernel) (pa_cons (pe_lc (own := [("number", 6)]) (g := gName 6) (tt := tYes) rfl sc__law_best_told.nd (pi_tup (pv 5)) (blkOk_by (own := [("number", 6)]) (N := N__law_best_told) (sc := defScope s__law_best_told) (by decide +kernel)) (fun _ _ _ _ _ => (pg_name (i := 6) sc__law_best_told.nd rfl (by first | exact Or.inl rfl | exact Or.inr rfl))) (fun _ _ _ _ _ => pts_nil) (fun _ _ _ _ _ => (pe_and (pe_call G__law_integer (hr.mono (by first | decide | omega)) (by rfl) T.d__law_integer.g T.d__law_integer.F.kp T.d__law_integer.b .nil Vb.pass5 (pa_cons (pv 6) pa_nil)) (pe_one (pe_chain op_le op_lt pe_int (pv 6) (pv 0)))))) pa_nil)))) (pss_one (ps_ret pe_bl)) pss_nil)
      (pss_cons (ps_if (PW.pt (pw_or (pt_cmpR op_ne (pe_callS G__law_poly_ends (hr.mono (by first | decide | omega)) (by rfl) T.d__law_poly_ends.g T.d__law_poly_ends.F.kp T.d__law_poly_ends.b (fun σ => L2N.passAt (L2N.takes_of rfl rfl rfl rfl) σ) (pa_cons (pv 0) (pa_cons (pv 5) pa_nil))) pe_int (nomark _)) (pw_or1 (pt_not (pt_val (pe_callS G__law_same (hr.mono (by first | decide | omega)) (by rfl) T.d__law_same.g T.d__law_same.F.kp T.d__law_same.b (fun σ => L2N.passAt (L2N.takes_of rfl rfl rfl rfl) σ) (pa_cons (pe_tup (pa_cons (Vb.pe_methP0 (pv 2) T.c_Poly T.m_Poly_ends G_Poly_ends (hr.mono (by first | decide | omega)) T.d_Poly_ends.b (fun σ => L2N.passAt (L2N.takes_of rfl rfl rfl rfl) σ)) (pa_cons (Vb.pe_methP (pv 2) T.c_Poly T.m_Poly_fits G_Poly_fits (hr.mono (by first | decide | omega)) T.d_Poly_fits.b (fun σ => L2N.passAt (L2N.takes_of rfl rfl rfl rfl) σ) (pa_cons (pv 1) pa_nil)) pa_nil))) (pa_cons (pe_tup (pa_cons pe_int (pa_cons pe_bl pa_nil))) pa_nil)))))))) (pss_one (ps_ret pe_bl)) pss_nil)
      (pss_cons (ps_if (PW.pt (pw_or (pt_not (pt_val (pe_callS G__law_same (hr.mono (by first | decide | omega)) (by rfl) T.d__law_same.g T.d__law_same.F.kp T.d__law_same.b (fun σ => L2N.passAt (L2N.takes_of rfl rfl rfl rfl) σ) (pa_cons (pe_callS G_roots_of (hr.mono (by first | decide | omega)) (by rfl) T.d_roots_of.g T.d_roots_of.F.kp T.d_roots_of.b (fun σ => L2N.passAt (L2N.takes_of rfl rfl rfl rfl) σ) (pa_cons (pv 2) pa_nil)) (pa_cons (pv 4) pa_nil))))) (pw_or1 (pt_not (pt_val (pe_callS G__law_same (hr.mono (by first | decide | omega)) (by rfl) T.d__law_same.g T.d__law_same.F.kp T.d__law_same.b (fun σ => L2N.passAt (L2N.takes_of rfl rfl rfl rfl) σ) (pa_cons (Vb.pe_methP (pv 2) T.c_Poly T.m_Poly_fits G_Poly_fits (hr.mono (by first | decide | omega)) T.d_Poly_fits.b (fun σ => L2N.passAt (L2N.takes_of rfl rfl rfl rfl) σ) (pa_cons (pe_op op_sub (pv 3) pe_int) pa_nil)) (pa_cons pe_bl pa_nil)))))))) (pss_one (ps_ret pe_bl)) pss_nil)
      (pss_cons (ps_set (i := 5) sc__law_best_told.nd rfl (by first | exact Or.inl rfl | exact Or.inr rfl) (pe_callTy Vb.call_list (by rfl) T.n_list (by decide +kernel) (pa_cons (pv 5) pa_nil)))
      (pss_cons (ps_for (L2.passes_of rfl) rfl (pi_list (pv 4)) (pg_name (i := 6) sc__law_best_told.nd rfl (by first | exact Or.inl rfl | exact Or.inr rfl))
        (pss_cons (ps_asg (pe_callS G__law_divided (hr.mono (by first | decide | omega)) (by rfl) T.d__law_divided.g T.d__law_divided.F.kp T.d__law_divided.b (fun σ => L2N.passAt (L2N.takes_of rfl rfl rfl rfl) σ) (pa_cons (pv 0) (pa_cons (pv 5) (pa_cons (pv 6) pa_nil)))) (pg_tup (n := 2) rfl (pgs_cons (pg_name (i := 5) sc__law_best_told.nd rfl (by first | exact Or.inl rfl | exact Or.inr rfl)) (pgs_cons (pg_name (i := 7) sc__law_best_told.nd rfl (by first | exact Or.inl rfl | exact Or.inr rfl)) pgs_nil))))
      (pss_one (ps_if (pt_cmpR op_ne (pv 7) pe_int (nomark _)) (pss_one (ps_ret pe_bl)) pss_nil))))
      (pss_one (ps_ret (pe_and (pe_cmpR op_eq (pe_callB Vb.call_len (by rfl) T.n_len (by decide +kernel) (pa_cons (pv 5) pa_nil)) pe_int (nomark _)) (pe_one (pe_cmpR op_gt (pe_ix ix_list (pv 5) pe_int (fun _ _ => rfl)) pe_int (nomark _))))))))))))))))), ?_⟩
    (change (_ : L2.TS) _ ([some (.int p), some (.int n), some (v), none, none, none, none, none] : L2.St) _); try dsimp only [L2.cxOf, L2H.cxH]
    walk_at "rd"
    by_cases c : p = 2
    · rw [if_pos (decide_eq_true c)]
      walk_at "rd"
      refine Vb.r_ite (fun c2 => ?_) (fun c2 => ?_)
      · obtain rfl := h1 ⟨c, by omega⟩
        walk_at "rd"
        rw [decide_eq_true rfl]
        exact q _ (Same.refl _)
      have ng : ¬ (p = 2 ∧ m = 0) := fun z => c2 (by omega)
      obtain ⟨a, zs, rfl, R, va⟩ := h2 ng
      have U := unit_of hp R (bestns_ends hp hm.2.1 ng R)
      clear h1 h2
      have nb : ∀ z ∈ bestns p m, 0 ≤ z ∧ z < p := fun z h => (bestns_bd hp2.1 z h).1
      have nl : (bestns p m).length = m := bestns_len hp2.1 hm.2.1
      generalize trim (zs.map fun c => (endsOf p zs ^ (p - 2).toNat % p) * c % p) = cs at *
      generalize endsOf p zs ^ (p - 2).toNat % p = c at *
      have cb := U.cb
      have cl := U.len
      rw [nl] at cl
      obtain ⟨dx, t, ha, ht⟩ := id va.o
      have cP := T.c_Poly
      have aP : NoAttr K T.C_Poly "prime" := T.a_Poly_prime
      have aC : NoAttr K T.C_Poly "coefficients" := T.a_Poly_coefficients
      have ll : ((bestns p m).map V.int).length = m := by rw [List.length_map, nl]
      have lc : (cs.map V.int).length = cs.length := List.length_map ..
      walk_at "rd"
      rw [show (if p - 1 < n then p - 1 else n) = (m : Int) by split <;> omega]
      walk_at "rd"
      refine ⟨Vb.size_ok (by show 1 ≤ 16777216; decide), fun A nA => ?_⟩
      have eA := Vb.same_new (o := .lst [.int 0]) nA
      have hA : (upd H A (.lst [.int 0])) A = some (.lst [.int 0]) := upd_same
      generalize upd H A _ = H1 at eA hA ⊢
      walk_at "rd"
      refine ⟨2, p, rfl, rfl, RgOk.of_le (by omega) (by omega) (by omega) (by omega), fun B nB => ?_⟩
      have eB := Vb.same_new (o := .lst (rgV 2 p)) nB
      have hB : (upd H1 B (.lst (rgV 2 p))) B = some (.lst (rgV 2 p)) := upd_same
      have hA2 := eB _ _ hA
      have e2 := eA.trans eB
      generalize upd H1 B _ = H2 at hB hA2 e2 ⊢
      clear eA eB nA nB hA
      have rl : (rgV 2 p).length = (p - 2).toNat := by unfold rgV; rw [List.length_map, List.length_range]
      refine Vb.r_cat hA2 hB (Vb.size_ok (by rw [rl]; show 1 + (p - 2).toNat ≤ 16777216; omega)) fun D nD => ?_
      have eD := e2.trans (Vb.same_new (o := .lst ([.int 0] ++ rgV 2 p)) nD)
      have hD : (upd H2 D (.lst ([.int 0] ++ rgV 2 p))) D = some (.lst ([.int 0] ++ rgV 2 p)) := upd_same
      generalize upd H2 D _ = H3 at eD hD ⊢
      walk_at "rd"
      refine Vb.r_slL (Vb.sq_of hD) fun l nL => ?_
      have ec : cutV ([V.int 0] ++ rgV 2 p) none (some (m : Int)) = (bestns p m).map V.int := by
        rw [Vb.cut_take (by rw [List.length_append, rl]; show m ≤ 1 + _; omega)]
        unfold bestns rgV
        rw [List.map_take, List.map_cons, List.map_map]
        rfl
      rw [ec]
      have eL := eD.trans (Vb.same_new (o := .lst ((bestns p m).map V.int)) nL)
      have hl4 : (upd H3 l (.lst ((bestns p m).map V.int))) l = some (.lst ((bestns p m).map V.int)) := upd_same
      generalize upd H3 l _ = H4 at eL hl4 ⊢
      have va := va.same eL
      have ha := eL _ _ ha
      have ht := Vb.sqT_same eL ht
      have hl : SqL K H4 l ((bestns p m).map V.int) := Vb.sq_of hl4
      walk_at "rd"
      refine ⟨_, _, _, _, _, rfl, .own _, T.ki_Poly.tyx T.c_Poly ha, T.ki_Poly.me, ?_⟩
      walk_at "rd"
      refine r_prop ?_
      walk_at "rd"
      refine ⟨a, _, _, rfl, ha, a, p, cs, rfl, va, ?_⟩
      walk_at "rd"
      have dg : ((cs.length - 1 : Nat) : Int) = (m : Int) := by rw [cl]; rfl
      rw [dg]
      have q' : ∀ H', Same H4 H' → Q (.bl true) H' := fun H' e => q H' (eL.trans e)
      clear eL hl4 nL hD eD nD hA2 hB e2
      refine ⟨Vb.size_ok (by show 2 ≤ 16777216; decide), fun A nA => ?_⟩
      have eA := Vb.same_new (o := .tup [.int p, .int (m : Int)]) nA
      have hA : (upd H4 A (.tup [.int p, .int (m : Int)])) A = some (.tup [.int p, .int (m : Int)]) := upd_same
      generalize upd H4 A _ = H5 at eA hA ⊢
      walk_at "rd"
      refine ⟨Vb.size_ok (by show 2 ≤ 16777216; decide), fun B nB => ?_⟩
      have eB := Vb.same_new (o := .tup [.int p, .int (m : Int)]) nB
      have hA2 := eB _ _ hA
      have hB : (upd H5 B (.tup [.int p, .int (m : Int)])) B = some (.tup [.int p, .int (m : Int)]) := upd_same
      have e2 := eA.trans eB
      generalize upd H5 B _ = H6 at eB hA2 hB e2 ⊢
      walk_at "rd"
      refine use_same (.tuple [.int p, .int (m : Int)]) (.tup (Vb.st_of hA2) (.cons (.int _) (.cons (.int _) .nil))) (.tup (Vb.st_of hB) (.cons (.int _) (.cons (.int _) .nil))) (dok_two trivial trivial) ?_
      have va2 := va.same e2
      have ha2 := e2 _ _ ha
      have ht2 := Vb.sqT_same e2 ht
      have hl2 := e2.seq hl
      have hd2 : Dp K H6 (.ref t) (.tuple (cs.map PyData.int)) := .tup ht2 (Vb.dpa_ints cs)
      clear hA hA2 hB eA eB nA nB
      walk_at "rd"
      rw [lc]
      refine Vb.r_iteN (fun k => absurd (by omega) k) (fun _ => ?_)
      walk_at "rd"
      intro D hD
      refine Vb.lcw_tup (xs := cs.map V.int) (fun i H' => Same H6 H' ∧ H' D = some (.lst ((List.replicate i true).map V.bl))) ⟨Vb.same_new hD, upd_same⟩ (fun _ => rfl) (fun i H' _ c => Vb.sqT_same c.1 ht2) ?_ ?_
      · rintro i x H' hi ⟨e, h⟩
        obtain ⟨z, hz, rfl⟩ := Vb.getV' hi
        have bz := va.bd z (List.mem_of_getElem? hz)
        have li := (List.getElem?_eq_some_iff.mp hz).1
        walk_at "rd"
        refine ⟨z, rfl, true, rfl, ?_⟩
        rw [if_pos rfl]
        walk_at "rd"
        rw [if_pos (decide_eq_true bz.1)]
        walk_at "rd"
        rw [decide_eq_true bz.2]
        refine ⟨_, h, Vb.size_lt (by rw [List.length_map, List.length_replicate]; show _ < 16777216; omega), Vb.same_mut e hD, ?_⟩
        rw [upd_same, List.replicate_succ', List.map_append]
        rfl
      rintro H3 ⟨e3, h3⟩
      walk_at "rd"
      refine Vb.r_all (bs := List.replicate (cs.map V.int).length true) (Vb.sq_of h3) ?_
      rw [show (List.replicate (cs.map V.int).length true).all id = true from List.all_eq_true.mpr fun x m => List.eq_of_mem_replicate m]
      have e23 := e2.trans e3
      have va3 := va.same e23
      have ha3 := e23 _ _ ha
      have ht3 := Vb.sqT_same e23 ht
      have hl3 := e23.seq hl
      walk_at "rd"
      refine ⟨p, t, cs, rfl, hp2, .inr ht3, ?_⟩
      rw [U.ends]
      walk_at "rd"
      refine Vb.r_iteN (fun k => absurd rfl k) (fun _ => ?_)
      walk_at "rd"
      refine ⟨a, p, cs, rfl, va3, fun G4 e4 => ?_⟩
      rw [show (ev cs 0 % p + ev cs 1 % p) % p = 1 from U.ends]
      have va4 := va3.same e4
      have ha4 := e4 _ _ ha3
      walk_at "rd"
      refine ⟨a, p, n, cs, rfl, va4, ?_⟩
      rw [decide_eq_true (show ((cs.length - 1 : Nat) : Int) ≤ n by omega)]
      walk_at "rd"
      refine ⟨Vb.size_ok (by show 2 ≤ 16777216; decide), fun A nA => ?_⟩
      have eA := Vb.same_new (o := .tup [.int 1, .bl true]) nA
      have hA : (upd G4 A (.tup [.int 1, .bl true])) A = some (.tup [.int 1, .bl true]) := upd_same
      generalize upd G4 A _ = G5 at eA hA ⊢
      walk_at "rd"
      refine ⟨Vb.size_ok (by show 2 ≤ 16777216; decide), fun B nB => ?_⟩
      have eB := Vb.same_new (o := .tup [.int 1, .bl true]) nB
      have hA2 := eB _ _ hA
      have hB : (upd G5 B (.tup [.int 1, .bl true])) B = some (.tup [.int 1, .bl true]) := upd_same
      have e46 := e4.trans (eA.trans eB)
      generalize upd G5 B _ = G6 at hA2 hB e46 ⊢
      walk_at "rd"
      refine use_same (.tuple [.int 1, .bool true]) (.tup (Vb.st_of hA2) (.cons (.int _) (.cons (.bl _) .nil))) (.tup (Vb.st_of hB) (.cons (.int _) (.cons (.bl _) .nil))) (dok_two trivial trivial) ?_
      have e24 := e23.trans e46
      have va5 := va3.same e46
      have ha5 := e46 _ _ ha3
      have dz : zerosOf p cs p.toNat = bestns p m := sorted_ext (zerosOf_sorted p cs) bestns_sorted fun x => by
        refine ⟨fun h => ?_, fun h => ?_⟩
        · have ⟨b, z⟩ := zerosOf_mem h
          exact (U.roots hp R nb b).mp z
        · unfold zerosOf
          exact List.mem_filter.mpr ⟨fnums_mem.mpr (nb x h), decide_eq_true ((U.roots hp R nb (nb x h)).mpr h)⟩
      walk_at "rd"
      refine ⟨a, p, cs, rfl, va5, fun Z G7 nZ e7 hZ => ?_⟩
      rw [dz] at hZ
      have e27 := e24.trans e7
      have va7 := va5.same e7
      have ha7 := e7 _ _ ha5
      have hl7 := e27.seq hl
      walk_at "rd"
      refine use_same _ (Vb.dp_ints (Vb.sq_of hZ)) (Vb.dp_ints hl7) (Vb.dok_ints (by omega)) ?_
      walk_at "rd"
      refine ⟨a, p, (m : Int) - 1, cs, rfl, va7, ?_⟩
      rw [decide_eq_false (show ¬ ((cs.length - 1 : Nat) : Int) ≤ (m : Int) - 1 by omega)]
      walk_at "rd"
      refine use_same (.bool false) (.bl _) (.bl _) trivial ?_
      have ht7 := Vb.sqT_same e27 ht
      walk_at "rd"
      refine ⟨t, _, rfl, .inr ht7, fun W nW => ?_⟩
      have eW := Vb.same_new (o := .lst (cs.map V.int)) nW
      have hW : (upd G7 W (.lst (cs.map V.int))) W = some (.lst (cs.map V.int)) := upd_same
      have e28 := e27.trans eW
      generalize upd G7 W _ = G8 at hW e28 ⊢
      have hl8 := e28.seq hl
      walk_at "rd"
      refine Vb.lp_list (xs := (bestns p m).map V.int) (fun i σ H' => Same H4 H' ∧ ∃ (W : Addr) (row : List Int) (y6 y7 : Option V), H' W = some (.lst (row.map V.int)) ∧ DivInv p c ((bestns p m).drop i) row ∧ σ = [some (.int p), some (.int n), some (.ref a), some (.int m), some (.ref l), some (.ref W), y6, y7]) ⟨e28, W, cs, _, _, hW, U.start hp.1.1 R, rfl⟩ (fun i σ' H' _ h => h.1.seq hl) ?_ ?_
      · rintro i x σ H' hi ⟨e, W, row, y6, y7, hW, D, rfl⟩
        obtain ⟨n1, hn1, rfl⟩ := Vb.getV' hi
        have li := (List.getElem?_eq_some_iff.mp hn1).1
        have dn : (bestns p m).drop i = n1 :: (bestns p m).drop (i + 1) := by
          rw [List.drop_eq_getElem_cons li]
          rw [List.getElem?_eq_getElem li] at hn1
          rw [Option.some.inj hn1]
        rw [dn] at D
        have bn := nb n1 (List.mem_of_getElem? hn1)
        obtain ⟨z0, D2⟩ := D.step hp.1.1
        have rl := D.len
        rw [List.length_cons, List.length_drop] at rl
        walk_at "rd"
        refine r_asgG ?_
        walk_at "rd"
        refine ⟨p, n1, W, row, rfl, hp2, by omega, Vb.sq_of hW, by omega, fun z m => by have := D.mem z m; omega, fun t2 W2 H2 e2 ht2 hW2 => ?_⟩
        rw [z0] at ht2
        refine Vb.r_gT2 (Vb.st_of ht2) ?_
        walk_at "rd"
        exact ⟨e.trans e2, W2, _, _, _, hW2, D2, rfl⟩
      rintro σ H8 ⟨e8, W, row, y6, y7, hW, D, rfl⟩
      rw [ll, show (bestns p m).drop m = [] from List.drop_eq_nil_of_le (by omega)] at D
      obtain rfl := D.fin ⟨by omega, cb.2⟩
      walk_at "rd"
      rw [if_pos (by rfl)]
      walk_at "rd"
      rw [decide_eq_true (show 0 < c by omega)]
      exact q' _ e8
    · rw [if_neg (by rw [decide_eq_false c]; decide)]
      rw [if_neg (by decide)]
      have ng : ¬ (p = 2 ∧ m = 0) := fun z => c z.1
      obtain ⟨a, zs, rfl, R, va⟩ := h2 ng
      have U := unit_of hp R (bestns_ends hp hm.2.1 ng R)
      clear h1 h2
      have nb : ∀ z ∈ bestns p m, 0 ≤ z ∧ z < p := fun z h => (bestns_bd hp2.1 z h).1
      have nl : (bestns p m).length = m := bestns_len hp2.1 hm.2.1
      generalize trim (zs.map fun c => (endsOf p zs ^ (p - 2).toNat % p) * c % p) = cs at *
      generalize endsOf p zs ^ (p - 2).toNat % p = c at *
      have cb := U.cb
      have cl := U.len
      rw [nl] at cl
      obtain ⟨dx, t, ha, ht⟩ := id va.o
      have cP := T.c_Poly
      have aP : NoAttr K T.C_Poly "prime" := T.a_Poly_prime
      have aC : NoAttr K T.C_Poly "coefficients" := T.a_Poly_coefficients
      have ll : ((bestns p m).map V.int).length = m := by rw [List.length_map, nl]
      have lc : (cs.map V.int).length = cs.length := List.length_map ..
      walk_at "rd"
      rw [show (if p - 1 < n then p - 1 else n) = (m : Int) by split <;> omega]
      walk_at "rd"
      refine ⟨Vb.size_ok (by show 1 ≤ 16777216; decide), fun A nA => ?_⟩
      have eA := Vb.same_new (o := .lst [.int 0]) nA
      have hA : (upd H A (.lst [.int 0])) A = some (.lst [.int 0]) := upd_same
      generalize upd H A _ = H1 at eA hA ⊢
      walk_at "rd"
      refine ⟨2, p, rfl, rfl, RgOk.of_le (by omega) (by omega) (by omega) (by omega), fun B nB => ?_⟩
      have eB := Vb.same_new (o := .lst (rgV 2 p)) nB
      have hB : (upd H1 B (.lst (rgV 2 p))) B = some (.lst (rgV 2 p)) := upd_same
      have hA2 := eB _ _ hA
      have e2 := eA.trans eB
      generalize upd H1 B _ = H2 at hB hA2 e2 ⊢
      clear eA eB nA nB hA
      have rl : (rgV 2 p).length = (p - 2).toNat := by unfold rgV; rw [List.length_map, List.length_range]
      refine Vb.r_cat hA2 hB (Vb.size_ok (by rw [rl]; show 1 + (p - 2).toNat ≤ 16777216; omega)) fun D nD => ?_
      have eD := e2.trans (Vb.same_new (o := .lst ([.int 0] ++ rgV 2 p)) nD)
      have hD : (upd H2 D (.lst ([.int 0] ++ rgV 2 p))) D = some (.lst ([.int 0] ++ rgV 2 p)) := upd_same
      generalize upd H2 D _ = H3 at eD hD ⊢
      walk_at "rd"
      refine Vb.r_slL (Vb.sq_of hD) fun l nL => ?_
      have ec : cutV ([V.int 0] ++ rgV 2 p) none (some (m : Int)) = (bestns p m).map V.int := by
        rw [Vb.cut_take (by rw [List.length_append, rl]; show m ≤ 1 + _; omega)]
        unfold bestns rgV
        rw [List.map_take, List.map_cons, List.map_map]
        rfl
      rw [ec]
      have eL := eD.trans (Vb.same_new (o := .lst ((bestns p m).map V.int)) nL)
      have hl4 : (upd H3 l (.lst ((bestns p m).map V.int))) l = some (.lst ((bestns p m).map V.int)) := upd_same
      generalize upd H3 l _ = H4 at eL hl4 ⊢
      have va := va.same eL
      have ha := eL _ _ ha
      have ht := Vb.sqT_same eL ht
      have hl : SqL K H4 l ((bestns p m).map V.int) := Vb.sq_of hl4
      walk_at "rd"
      refine ⟨_, _, _, _, _, rfl, .own _, T.ki_Poly.tyx T.c_Poly ha, T.ki_Poly.me, ?_⟩
      walk_at "rd"
      refine r_prop ?_
      walk_at "rd"
      refine ⟨a, _, _, rfl, ha, a, p, cs, rfl, va, ?_⟩
      walk_at "rd"
      have dg : ((cs.length - 1 : Nat) : Int) = (m : Int) := by rw [cl]; rfl
      rw [dg]
      have q' : ∀ H', Same H4 H' → Q (.bl true) H' := fun H' e => q H' (eL.trans e)
      clear eL hl4 nL hD eD nD hA2 hB e2
      refine ⟨Vb.size_ok (by show 2 ≤ 16777216; decide), fun A nA => ?_⟩
      have eA := Vb.same_new (o := .tup [.int p, .int (m : Int)]) nA
      have hA : (upd H4 A (.tup [.int p, .int (m : Int)])) A = some (.tup [.int p, .int (m : Int)]) := upd_same
      generalize upd H4 A _ = H5 at eA hA ⊢
      walk_at "rd"
      refine ⟨Vb.size_ok (by show 2 ≤ 16777216; decide), fun B nB => ?_⟩
      have eB := Vb.same_new (o := .tup [.int p, .int (m : Int)]) nB
      have hA2 := eB _ _ hA
      have hB : (upd H5 B (.tup [.int p, .int (m : Int)])) B = some (.tup [.int p, .int (m : Int)]) := upd_same
      have e2 := eA.trans eB
      generalize upd H5 B _ = H6 at eB hA2 hB e2 ⊢
      walk_at "rd"
      refine use_same (.tuple [.int p, .int (m : Int)]) (.tup (Vb.st_of hA2) (.cons (.int _) (.cons (.int _) .nil))) (.tup (Vb.st_of hB) (.cons (.int _) (.cons (.int _) .nil))) (dok_two trivial trivial) ?_
      have va2 := va.same e2
      have ha2 := e2 _ _ ha
      have ht2 := Vb.sqT_same e2 ht
      have hl2 := e2.seq hl
      have hd2 : Dp K H6 (.ref t) (.tuple (cs.map PyData.int)) := .tup ht2 (Vb.dpa_ints cs)
      clear hA hA2 hB eA eB nA nB
      walk_at "rd"
      rw [lc]
      refine Vb.r_iteN (fun k => absurd (by omega) k) (fun _ => ?_)
      walk_at "rd"
      intro D hD
      refine Vb.lcw_tup (xs := cs.map V.int) (fun i H' => Same H6 H' ∧ H' D = some (.lst ((List.replicate i true).map V.bl))) ⟨Vb.same_new hD, upd_same⟩ (fun _ => rfl) (fun i H' _ c => Vb.sqT_same c.1 ht2) ?_ ?_
      · rintro i x H' hi ⟨e, h⟩
        obtain ⟨z, hz, rfl⟩ := Vb.getV' hi
        have bz := va.bd z (List.mem_of_getElem? hz)
        have li := (List.getElem?_eq_some_iff.mp hz).1
        walk_at "rd"
        refine ⟨z, rfl, true, rfl, ?_⟩
        rw [if_pos rfl]
        walk_at "rd"
        rw [if_pos (decide_eq_true bz.1)]
        walk_at "rd"
        rw [decide_eq_true bz.2]
        refine ⟨_, h, Vb.size_lt (by rw [List.length_map, List.length_replicate]; show _ < 16777216; omega), Vb.same_mut e hD, ?_⟩
        rw [upd_same, List.replicate_succ', List.map_append]
        rfl
      rintro H3 ⟨e3, h3⟩
      walk_at "rd"
      refine Vb.r_all (bs := List.replicate (cs.map V.int).length true) (Vb.sq_of h3) ?_
      rw [show (List.replicate (cs.map V.int).length true).all id = true from List.all_eq_true.mpr fun x m => List.eq_of_mem_replicate m]
      have e23 := e2.trans e3
      have va3 := va.same e23
      have ha3 := e23 _ _ ha
      have ht3 := Vb.sqT_same e23 ht
      have hl3 := e23.seq hl
      walk_at "rd"
      refine ⟨p, t, cs, rfl, hp2, .inr ht3, ?_⟩
      rw [U.ends]
      walk_at "rd"
      refine Vb.r_iteN (fun k => absurd rfl k) (fun _ => ?_)
      walk_at "rd"
      refine ⟨a, p, cs, rfl, va3, fun G4 e4 => ?_⟩
      rw [show (ev cs 0 % p + ev cs 1 % p) % p = 1 from U.ends]
      have va4 := va3.same e4
      have ha4 := e4 _ _ ha3
      walk_at "rd"
      refine ⟨a, p, n, cs, rfl, va4, ?_⟩
      rw [decide_eq_true (show ((cs.length - 1 : Nat) : Int) ≤ n by omega)]
      walk_at "rd"
      refine ⟨Vb.size_ok (by show 2 ≤ 16777216; decide), fun A nA => ?_⟩
      have eA := Vb.same_new (o := .tup [.int 1, .bl true]) nA
      have hA : (upd G4 A (.tup [.int 1, .bl true])) A = some (.tup [.int 1, .bl true]) := upd_same
      generalize upd G4 A _ = G5 at eA hA ⊢
      walk_at "rd"
      refine ⟨Vb.size_ok (by show 2 ≤ 16777216; decide), fun B nB => ?_⟩
      have eB := Vb.same_new (o := .tup [.int 1, .bl true]) nB
      have hA2 := eB _ _ hA
      have hB : (upd G5 B (.tup [.int 1, .bl true])) B = some (.tup [.int 1, .bl true]) := upd_same
      have e46 := e4.trans (eA.trans eB)
      generalize upd G5 B _ = G6 at hA2 hB e46 ⊢
      walk_at "rd"
      refine use_same (.tuple [.int 1, .bool true]) (.tup (Vb.st_of hA2) (.cons (.int _) (.cons (.bl _) .nil))) (.tup (Vb.st_of hB) (.cons (.int _) (.cons (.bl _) .nil))) (dok_two trivial trivial) ?_
      have e24 := e23.trans e46
      have va5 := va3.same e46
      have ha5 := e46 _ _ ha3
      have dz : zerosOf p cs p.toNat = bestns p m := sorted_ext (zerosOf_sorted p cs) bestns_sorted fun x => by
        refine ⟨fun h => ?_, fun h => ?_⟩
        · have ⟨b, z⟩ := zerosOf_mem h
          exact (U.roots hp R nb b).mp z
        · unfold zerosOf
          exact List.mem_filter.mpr ⟨fnums_mem.mpr (nb x h), decide_eq_true ((U.roots hp R nb (nb x h)).mpr h)⟩
      walk_at "rd"
      refine ⟨a, p, cs, rfl, va5, fun Z G7 nZ e7 hZ => ?_⟩
      rw [dz] at hZ
      have e27 := e24.trans e7
      have va7 := va5.same e7
      have ha7 := e7 _ _ ha5
      have hl7 := e27.seq hl
      walk_at "rd"
      refine use_same _ (Vb.dp_ints (Vb.sq_of hZ)) (Vb.dp_ints hl7) (Vb.dok_ints (by omega)) ?_
      walk_at "rd"
      refine ⟨a, p, (m : Int) - 1, cs, rfl, va7, ?_⟩
      rw [decide_eq_false (show ¬ ((cs.length - 1 : Nat) : Int) ≤ (m : Int) - 1 by omega)]
      walk_at "rd"
      refine use_same (.bool false) (.bl _) (.bl _) trivial ?_
      have ht7 := Vb.sqT_same e27 ht
      walk_at "rd"
      refine ⟨t, _, rfl, .inr ht7, fun W nW => ?_⟩
      have eW := Vb.same_new (o := .lst (cs.map V.int)) nW
      have hW : (upd G7 W (.lst (cs.map V.int))) W = some (.lst (cs.map V.int)) := upd_same
      have e28 := e27.trans eW
      generalize upd G7 W _ = G8 at hW e28 ⊢
      have hl8 := e28.seq hl
      walk_at "rd"
      refine Vb.lp_list (xs := (bestns p m).map V.int) (fun i σ H' => Same H4 H' ∧ ∃ (W : Addr) (row : List Int) (y6 y7 : Option V), H' W = some (.lst (row.map V.int)) ∧ DivInv p c ((bestns p m).drop i) row ∧ σ = [some (.int p), some (.int n), some (.ref a), some (.int m), some (.ref l), some (.ref W), y6, y7]) ⟨e28, W, cs, _, _, hW, U.start hp.1.1 R, rfl⟩ (fun i σ' H' _ h => h.1.seq hl) ?_ ?_
      · rintro i x σ H' hi ⟨e, W, row, y6, y7, hW, D, rfl⟩
        obtain ⟨n1, hn1, rfl⟩ := Vb.getV' hi
        have li := (List.getElem?_eq_some_iff.mp hn1).1
        have dn : (bestns p m).drop i = n1 :: (bestns p m).drop (i + 1) := by
          rw [List.drop_eq_getElem_cons li]
          rw [List.getElem?_eq_getElem li] at hn1
          rw [Option.some.inj hn1]
        rw [dn] at D
        have bn := nb n1 (List.mem_of_getElem? hn1)
        obtain ⟨z0, D2⟩ := D.step hp.1.1
        have rl := D.len
        rw [List.length_cons, List.length_drop] at rl
        walk_at "rd"
        refine r_asgG ?_
        walk_at "rd"
        refine ⟨p, n1, W, row, rfl, hp2, by omega, Vb.sq_of hW, by omega, fun z m => by have := D.mem z m; omega, fun t2 W2 H2 e2 ht2 hW2 => ?_⟩
        rw [z0] at ht2
        refine Vb.r_gT2 (Vb.st_of ht2) ?_
        walk_at "rd"
        exact ⟨e.trans e2, W2, _, _, _, hW2, D2, rfl⟩
      rintro σ H8 ⟨e8, W, row, y6, y7, hW, D, rfl⟩
      rw [ll, show (bestns p m).drop m = [] from List.drop_eq_nil_of_le (by omega)] at D
      obtain rfl := D.fin ⟨by omega, cb.2⟩
      walk_at "rd"
      rw [if_pos (by rfl)]
      walk_at "rd"
      rw [decide_eq_true (show 0 < c by omega)]
      exact q' _ e8
end
end K
namespace K
open PySem PySem.Spec PyProof.Rows L2

abbrev N__law_other_unit : List Str := ["store", "prime", "degree", "row", "poly", "due"]
theorem sc__law_other_unit : FnScope N__law_other_unit ["store", "prime", "degree"] (defScope s__law_other_unit) := ⟨rfl, rfl, rfl, by decide +kernel, rfl, by decide +kernel, by decide +kernel⟩
section
variable {P : Program} {w : World} {K : PySem.W.Frag} {mg : Str → Option Value} {base : Heap}
def sp_otherunit (K : PySem.W.Frag) : Sp := fun vs H Q _ => ∃ (st : Addr) (p n : Int), vs = [.ref st, .int p, .int n] ∧ Vb.StoreAt H st ∧ (Vb.Prm p ∧ p ≤ 101) ∧ (0 ≤ n ∧ n ≤ 127) ∧ ∀ H', Vb.Fr st H H' → Vb.StoreAt H' st → Q (.bl true) H'
theorem ok_otherunit (T : Txt K mg) : FnOk P w K mg base (L2N.CX P w) 8 T.f__law_other_unit T.fd__law_other_unit ["store", "prime", "degree"] (sp_otherunit K) := by
  have G__law_unit := ok_unitrow (P := P) (w := w) (base := base) T
  have G__law_row := ok_row (P := P) (w := w) (base := base) T
  have G_Poly___init__ := ok_pinit (P := P) (w := w) (base := base) T
  have G__law_roots := ok_lawroots (P := P) (w := w) (base := base) T
  have G__law_same := ok_same (P := P) (w := w) (base := base) T 6
  have G_Poly_ends := ok_pends (P := P) (w := w) (base := base) T
  have G_Poly_fits := ok_pfits (P := P) (w := w) (base := base) T
  have G_roots_of := ok_roots (P := P) (w := w) (base := base) T
  refine Vb.okN T.d__law_other_unit.F sc__law_other_unit (fun vs H Q E h => ?_) (fun cdv A outer s H vs Q E hr h => ?_)
  · obtain ⟨st, p, n, rfl, _⟩ := h
    rfl
  · obtain ⟨st, p, n, rfl, hS, hp, hn, q⟩ := h
    have hp2 : 2 ≤ p ∧ p ≤ 101 := ⟨hp.1.1, hp.2⟩
    refine ⟨_, (pss_cons (ps_set (i := 3) sc__law_other_unit.nd rfl (by first | exact Or.inl rfl | exact Or.inr rfl) (pe_callS G__law_unit (hr.mono (by first | decide | omega)) (by rfl) T.d__law_unit.g T.d__law_unit.F.kp T.d__law_unit.b (fun σ => L2N.passAt (L2N.takes_of rfl rfl rfl rfl) σ) (pa_cons (pv 0) (pa_cons (pv 1) (pa_cons (pv 2) pa_nil)))))
      (pss_cons (ps_if (pt_cmpR Vb.op_isN (pv 3) pe_non (nomark _)) (pss_one (ps_ret (pe_and (pe_cmpR op_eq (pv 1) pe_int (nomark _)) (pe_one (pe_cmpR op_eq (pv 2) pe_int (nomark _)))))) pss_nil)
      (pss_cons (ps_set (i := 4) sc__law_other_unit.nd rfl (by first | exact Or.inl rfl | exact Or.inr rfl) (Vb.pe_makeP T.mk_Poly G_Poly___init__ (hr.mono (by first | decide | omega)) (by rfl) T.g_Poly T.d_Poly___init__.b (fun σ => L2N.passAt (L2N.takes_of rfl rfl rfl rfl) σ) (pa_cons (pv 1) (pa_cons (pe_callS G__law_row (hr.mono (by first | decide | omega)) (by rfl) T.d__law_row.g T.d__law_row.F.kp T.d__law_row.b (fun σ => L2N.passAt (L2N.takes_of rfl rfl rfl rfl) σ) (pa_cons (pv 0) (pa_cons (pv 3) pa_nil))) pa_nil))))
      (pss_cons (ps_set (i := 5) sc__law_other_unit.nd rfl (by first | exact Or.inl rfl | exact Or.inr rfl) (pe_callS G__law_roots (hr.mono (by first | decide | omega)) (by rfl) T.d__law_roots.g T.d__law_roots.F.kp T.d__law_roots.b (fun σ => L2N.passAt (L2N.takes_of rfl rfl rfl rfl) σ) (pa_cons (pv 1) (pa_cons (pv 3) pa_nil))))
      (pss_cons (ps_if (PW.pt (pw_or (pt_not (pt_val (pe_callS G__law_same (hr.mono (by first | decide | omega)) (by rfl) T.d__law_same.g T.d__law_same.F.kp T.d__law_same.b (fun σ => L2N.passAt (L2N.takes_of rfl rfl rfl rfl) σ) (pa_cons (pe_tup (pa_cons (Vb.pe_methP0 (pv 4) T.c_Poly T.m_Poly_ends G_Poly_ends (hr.mono (by first | decide | omega)) T.d_Poly_ends.b (fun σ => L2N.passAt (L2N.takes_of rfl rfl rfl rfl) σ)) (pa_cons (Vb.pe_methP (pv 4) T.c_Poly T.m_Poly_fits G_Poly_fits (hr.mono (by first | decide | omega)) T.d_Poly_fits.b (fun σ => L2N.passAt (L2N.takes_of rfl rfl rfl rfl) σ) (pa_cons (pv 2) pa_nil)) pa_nil))) (pa_cons (pe_tup (pa_cons pe_int (pa_cons pe_bl pa_nil))) pa_nil))))) (pw_or1 (pt_not (pt_val (pe_callS G__law_same (hr.mono (by first | decide | omega)) (by rfl) T.d__law_same.g T.d__law_same.F.kp T.d__law_same.b (fun σ => L2N.passAt (L2N.takes_of rfl rfl rfl rfl) σ) (pa_cons (pe_callS G_roots_of (hr.mono (by first | decide | omega)) (by rfl) T.d_roots_of.g T.d_roots_of.F.kp T.d_roots_of.b (fun σ => L2N.passAt (L2N.takes_of rfl rfl rfl rfl) σ) (pa_cons (pv 4) pa_nil)) (pa_cons (pv 5) pa_nil)))))))) (pss_one (ps_ret pe_bl)) pss_nil)
      (pss_one (ps_ret (pe_cmpR op_le (pe_callB Vb.call_len (by rfl) T.n_len (by decide +kernel) (pa_cons (pv 5) pa_nil)) (pe_callB (Vb.call_min2 rfl) (by rfl) T.n_min (by decide +kernel) (pa_cons (pv 2) (pa_cons (pe_op op_sub (pv 1) pe_int) pa_nil))) (nomark _))))))))), ?_⟩
    (change (_ : L2.TS) _ ([some (.ref st), some (.int p), some (.int n), none, none, none] : L2.St) _); try dsimp only [L2.cxOf, L2H.cxH]
    walk_at "rd"
    refine ⟨st, p, n, rfl, hS, hp, hn, fun H1 e1 e2 f1 S1 => ?_, fun l H1 ns ml hl ln bn en f1 S1 => ?_⟩
    · walk_at "rd"
      rw [if_pos (decide_eq_true rfl)]
      walk_at "rd"
      rw [if_pos (decide_eq_true e1)]
      walk_at "rd"
      rw [decide_eq_true e2]
      exact q _ f1 S1
    · walk_at "rd"
      rw [if_neg (by simp)]
      have tn : trim ns ≠ [] := fun z => by
        have e0 : endsOf p ns = endsOf p (trim ns) := by unfold endsOf; rw [ev_ext (co_trim ns), ev_ext (co_trim ns)]
        rw [z] at e0
        rw [en, show endsOf p [] = 0 from by unfold endsOf; rw [show ev [] 0 = 0 from rfl, show ev [] 1 = 0 from rfl, Int.zero_emod]; exact Int.zero_emod p] at e0
        cases e0
      have few := zeros_few hp bn tn
      have tl := trim_len ns
      have few2 : ((zerosOf p ns p.toNat).length : Int) ≤ p - 1 := by
        by_cases z : (zerosOf p ns p.toNat).length < p.toNat
        · omega
        exfalso
        have all : zerosOf p ns p.toNat = fnums p := by
          unfold zerosOf
          refine List.filter_eq_self.mpr fun x mx => ?_
          refine Classical.byContradiction fun nx => z ?_
          unfold zerosOf
          have := (List.length_filter_lt_length_iff_exists (p := fun x => decide (ev ns x % p = 0)) (l := fnums p)).mpr ⟨x, mx, nx⟩
          rw [fnums_len] at this
          exact this
        have z0 := (zerosOf_mem (all ▸ fnums_mem.mpr ⟨by decide, by omega⟩ : (0 : Int) ∈ zerosOf p ns p.toNat)).2
        have z1 := (zerosOf_mem (all ▸ fnums_mem.mpr ⟨by decide, by omega⟩ : (1 : Int) ∈ zerosOf p ns p.toNat)).2
        unfold endsOf at en
        rw [z0, z1] at en
        rw [show (0 + 0 : Int) % p = 0 from Int.zero_emod p] at en
        cases en
      walk_at "rd"
      refine ⟨st, l, ns.map V.int, rfl, S1, ml, .inl (Vb.sq_of hl), fun h H2 mh hh hrow f2 S2 => ?_⟩
      have hl2 := f2.k _ _ ml hl
      walk_at "rd"
      refine use_mkpoly hp hh bn (fun _ x H3 nx e3 vx => ?_) (fun hl => absurd hl (by omega))
      have hl3 := e3 _ _ hl2
      walk_at "rd"
      refine ⟨p, l, ns, rfl, hp2, Vb.sq_of hl3, by omega, fun z m => ⟨(bn z m).1, by have := (bn z m).2; omega⟩, fun D H4 nD e4 hD => ?_⟩
      have vx4 := vx.same e4
      obtain ⟨dx, t, hx4, _⟩ := id vx4.o
      walk_at "rd"
      refine ⟨x, p, trim ns, rfl, vx4, fun H5 e5 => ?_⟩
      have ee : (ev (trim ns) 0 % p + ev (trim ns) 1 % p) % p = 1 := by
        rw [ev_ext (co_trim ns), ev_ext (co_trim ns)]
        exact en
      rw [ee]
      have vx5 := vx4.same e5
      have hx5 := e5 _ _ hx4
      walk_at "rd"
      refine ⟨x, p, n, trim ns, rfl, vx5, ?_⟩
      rw [decide_eq_true (show (((trim ns).length - 1 : Nat) : Int) ≤ n by omega)]
      walk_at "rd"
      refine ⟨Vb.size_ok (by show 2 ≤ 16777216; decide), fun A nA => ?_⟩
      have eA := Vb.same_new (o := .tup [.int 1, .bl true]) nA
      have hA : (upd H5 A (.tup [.int 1, .bl true])) A = some (.tup [.int 1, .bl true]) := upd_same
      generalize upd H5 A _ = H6 at eA hA ⊢
      walk_at "rd"
      refine ⟨Vb.size_ok (by show 2 ≤ 16777216; decide), fun B nB => ?_⟩
      have eB := Vb.same_new (o := .tup [.int 1, .bl true]) nB
      have hA2 := eB _ _ hA
      have hB : (upd H6 B (.tup [.int 1, .bl true])) B = some (.tup [.int 1, .bl true]) := upd_same
      have e57 := e5.trans (eA.trans eB)
      generalize upd H6 B _ = H7 at hA2 hB e57 ⊢
      walk_at "rd"
      refine use_same (.tuple [.int 1, .bool true]) (.tup (Vb.st_of hA2) (.cons (.int _) (.cons (.bl _) .nil))) (.tup (Vb.st_of hB) (.cons (.int _) (.cons (.bl _) .nil))) (dok_two trivial trivial) ?_
      have vx7 := vx4.same e57
      have hD7 := e57 _ _ hD
      walk_at "rd"
      refine ⟨x, p, trim ns, rfl, vx7, fun Z H8 nZ e8 hZ => ?_⟩
      rw [zerosOf_trim] at hZ
      have hD8 := e8 _ _ hD7
      have zl : (zerosOf p ns p.toNat).length ≤ p.toNat := by unfold zerosOf; exact filt_len
      walk_at "rd"
      refine use_same _ (Vb.dp_ints (Vb.sq_of hZ)) (Vb.dp_ints (Vb.sq_of hD8)) (Vb.dok_ints (by omega)) ?_
      have lz : ((zerosOf p ns p.toNat).map V.int).length = (zerosOf p ns p.toNat).length := List.length_map ..
      have F8 := f1.trans (f2.trans (Vb.Fr.of (e3.trans (e4.trans (e57.trans e8)))))
      have S8 := S2.same (e3.trans (e4.trans (e57.trans e8)))
      walk_at "rd"
      rw [decide_eq_true (by rw [lz]; split <;> omega)]
      exact q _ F8 S8
end
end K
namespace K
open PySem PySem.Spec PyProof.Rows L2
abbrev N__law_refused : List Str := ["prime", "degree", "e"]
theorem sc__law_refused : FnScope N__law_refused ["prime", "degree"] (defScope s__law_refused) := ⟨rfl, rfl, rfl, by decide +kernel, rfl, by decide +kernel, by decide +kernel⟩
section
variable {P : Program} {w : World} {K : PySem.W.Frag} {mg : Str → Option Value} {base : Heap}
/-- what is refused, told as a row -/
def sp_refused (K : PySem.W.Frag) : Sp := fun vs H Q _ => ∃ (vp vd : V) (dp d : PyData) (nm : Str) (o : V), vs = [vp, vd] ∧ Dp K H vp dp ∧ Dp K H vd d ∧
  ((field dp = false ∧ nm = "NotPrime" ∧ o = vp) ∨ (field dp = true ∧ inRange 0 127 d = false ∧ nm = "OutOfRange" ∧ o = .non)) ∧ ∀ (H' : Hp) (t : Addr), Same H H' → H' t = some (.tup [.str nm, o, .bl true]) → Q (.ref t) H'
theorem ok_refused (T : Txt K mg) : FnOk P w K mg base (L2N.CX P w) 11 T.f__law_refused T.fd__law_refused ["prime", "degree"] (sp_refused K) := by
  have G_best_unit := ok_bestunit (P := P) (w := w) (base := base) T
  refine Vb.okN T.d__law_refused.F sc__law_refused (fun vs H Q E h => ?_) (fun cdv A outer s H vs Q E hr h => ?_)
  · obtain ⟨vp, vd, dp, d, nm, o, rfl, _⟩ := h
    rfl
  · obtain ⟨vp, vd, dp, d, nm, o, rfl, hvp, hvd, hc, q⟩ := h
    have k_NotPrime_TalkError := T.k_NotPrime_TalkError
    have k_NotPrime_OutOfRange := T.k_NotPrime_OutOfRange
    have k_OutOfRange_ValueError := T.k_OutOfRange_ValueError
    have k_OutOfRange_NotPrime := T.k_OutOfRange_NotPrime
    refine ⟨_, (pss_cons (Vb.ps_try_all (Wo := (fun cls d _ H => E cls d H)) rfl rfl sc__law_refused.nd (L2N.takes_of rfl rfl rfl rfl) (fun W pn xe tk po => (pss_one (ps_expr (pe_callS G_best_unit (hr.mono (by first | decide | omega)) (by rfl) T.d_best_unit.g T.d_best_unit.F.kp T.d_best_unit.b (fun σ => L2N.passAt tk σ) (pa_cons (pv 0) (pa_cons (pv 1) pa_nil))))))
        (Vb.Clauses.cons (i := 2) rfl rfl ⟨rfl, by decide, Or.inl T.i_NotPrime.g⟩
        (fun a oe cls d pn hz hf => (pss_one (ps_ret (pe_tup (pa_cons pe_str (pa_cons (pe_xf T.xk_NotPrime.xf T.i_NotPrime.noN hz.zc hf (pv 2)) (pa_cons (pe_and (pe_callB (Vb.call_isX T.xk_NotPrime hz hf) (by rfl) T.n_isinstance (by decide +kernel) (pa_cons (pv 2) (pa_cons (pe_glob (v := .ref T.C_TalkError) (by rfl) T.x_TalkError.g rfl) pa_nil))) (pe_one (pe_not (pe_callB (Vb.call_isX T.xk_NotPrime hz hf) (by rfl) T.n_isinstance (by decide +kernel) (pa_cons (pv 2) (pa_cons (pe_glob (v := .ref T.C_OutOfRange) (by rfl) T.x_OutOfRange.g rfl) pa_nil)))))) pa_nil))))))) (Vb.Clauses.cons (i := 2) rfl rfl ⟨rfl, by decide, Or.inl T.x_OutOfRange.g⟩
        (fun a oe cls d pn hz hf => (pss_one (ps_ret (pe_tup (pa_cons pe_str (pa_cons pe_non (pa_cons (pe_and (pe_callB (Vb.call_isX T.xk_OutOfRange hz hf) (by rfl) T.n_isinstance (by decide +kernel) (pa_cons (pv 2) (pa_cons (pe_bltn (v := .ty "ValueError") (by rfl) T.n_ValueError (by decide +kernel) rfl) pa_nil))) (pe_one (pe_not (pe_callB (Vb.call_isX T.xk_OutOfRange hz hf) (by rfl) T.n_isinstance (by decide +kernel) (pa_cons (pv 2) (pa_cons (pe_glob (v := .ref T.C_NotPrime) (by rfl) T.i_NotPrime.g rfl) pa_nil)))))) pa_nil))))))) Vb.Clauses.nil)))
      (pss_one (ps_ret (pe_tup (pa_cons pe_str (pa_cons pe_non (pa_cons pe_bl pa_nil))))))), ?_⟩
    (change (_ : L2.TS) _ ([some (vp), some (vd), none] : L2.St) _); try dsimp only [L2.cxOf, L2H.cxH]
    have fin : ∀ {H1 : Hp} {nm : Str} {o : V} {t : Addr}, H1 t = none → Same H H1 → (∀ (H' : Hp) (t : Addr), Same H H' → H' t = some (.tup [.str nm, o, .bl true]) → Q (.ref t) H') → Q (.ref t) (upd H1 t (.tup [.str nm, o, .bl true])) := fun {H1 nm o t} n e q => q _ _ (e.trans (Vb.same_new n)) upd_same
    walk_at "rd"
    refine ⟨vp, vd, dp, d, rfl, hvp, hvd, fun hf dd nd => ?_, fun hf hi => ?_, fun p n m e1 e2 hf hn hm => ?_⟩
    · rcases hc with ⟨_, rfl, rfl⟩ | ⟨hf', _⟩
      · refine Vb.r_as T.xk_NotPrime fun ea hea => ?_
        walk_at "rd"
        refine Vb.r_xfv upd_same rfl ?_
        walk_at "rd"
        refine ⟨Vb.size_ok (by show 3 ≤ 16777216; decide), fun t nt => ?_⟩
        walk_at "rd"
        exact fin nt (Vb.same_new nd) q
      · rw [hf] at hf'; cases hf'
    · rcases hc with ⟨hf', _⟩ | ⟨_, _, rfl, rfl⟩
      · rw [hf] at hf'; cases hf'
      · refine Vb.r_pass (T.xk_NotPrime.no T.xs_OutOfRange_NotPrime) (Vb.r_as T.xk_OutOfRange fun ea hea => ?_)
        walk_at "rd"
        refine ⟨Vb.size_ok (by show 3 ≤ 16777216; decide), fun t nt => ?_⟩
        walk_at "rd"
        exact fin nt (Same.refl _) q
    · exfalso
      rcases hc with ⟨hf', _⟩ | ⟨_, hi, _⟩
      · rw [hf] at hf'; cases hf'
      · rw [e2, inRange_int.mpr hn] at hi
        cases hi
end
end K
namespace K
open PySem PySem.Spec PyProof.Rows L2
abbrev N__law_refusals : List Str := ["store", "prime", "degree", "wrong", "value"]
theorem sc__law_refusals : FnScope N__law_refusals ["store", "prime", "degree"] (defScope s__law_refusals) := ⟨rfl, rfl, rfl, by decide +kernel, rfl, by decide +kernel, by decide +kernel⟩
section
variable {P : Program} {w : World} {K : PySem.W.Frag} {mg : Str → Option Value} {base : Heap}
theorem dp_three {H : Hp} {t : Addr} {nm : Str} {v : V} {d : PyData} (h : H t = some (.tup [.str nm, v, .bl true])) (g : Dp K H v d) : Dp K H (.ref t) (.tuple [.str nm, d, .bool true]) := .tup (Vb.st_of h) (.cons (.str _) (.cons g (.cons (.bl true) .nil)))
theorem dok_three {n : Nat} {nm : Str} {d : PyData} (h : Vb.DOk (n + 1) d) : Vb.DOk (n + 2) (.tuple [.str nm, d, .bool true]) := ⟨by show 3 ≤ 1000000; decide, fun e m => by
  simp only [List.mem_cons, List.not_mem_nil, or_false] at m
  rcases m with rfl | rfl | rfl
  · trivial
  · exact h
  · trivial⟩
def sp_refusals (K : PySem.W.Frag) : Sp := fun vs H Q _ => ∃ (st : Addr) (p n : Int), vs = [.ref st, .int p, .int n] ∧ Vb.StoreAt H st ∧ (Vb.Prm p ∧ p ≤ 101) ∧ (0 ≤ n ∧ n ≤ 127) ∧ ∀ H', Q (.bl true) H'
theorem ok_refusals (T : Txt K mg) : FnOk P w K mg base (L2N.CX P w) 12 T.f__law_refusals T.fd__law_refusals ["store", "prime", "degree"] (sp_refusals K) := by
  have G__law_bad_integer := ok_badinteger (P := P) (w := w) (base := base) T
  have G__law_bad_prime := ok_badprime (P := P) (w := w) (base := base) T
  have G__law_same := ok_same (P := P) (w := w) (base := base) T 6
  have G__law_refused := ok_refused (P := P) (w := w) (base := base) T
  have G__law_pick := ok_pick (P := P) (w := w) (base := base) T
  refine Vb.okN T.d__law_refusals.F sc__law_refusals (fun vs H Q E h => ?_) (fun cdv A outer s H vs Q E hr h => ?_)
  · obtain ⟨st, p, n, rfl, _⟩ := h
    rfl
  · obtain ⟨st, p, n, rfl, hS, hp, hn, q⟩ := h
    have hf : field (.int p) = true := field_yes hp.1 hp.2
    refine ⟨_, (pss_cons (ps_set (i := 3) sc__law_refusals.nd rfl (by first | exact Or.inl rfl | exact Or.inr rfl) (pe_callS G__law_bad_integer (hr.mono (by first | decide | omega)) (by rfl) T.d__law_bad_integer.g T.d__law_bad_integer.F.kp T.d__law_bad_integer.b (fun σ => L2N.passAt (L2N.takes_of rfl rfl rfl rfl) σ) (pa_cons (pv 0) (pa_cons pe_int (pa_cons pe_int pa_nil)))))
      (pss_cons (ps_set (i := 4) sc__law_refusals.nd rfl (by first | exact Or.inl rfl | exact Or.inr rfl) (pe_callS G__law_bad_prime (hr.mono (by first | decide | omega)) (by rfl) T.d__law_bad_prime.g T.d__law_bad_prime.F.kp T.d__law_bad_prime.b (fun σ => L2N.passAt (L2N.takes_of rfl rfl rfl rfl) σ) (pa_cons (pv 0) pa_nil)))
      (pss_cons (ps_if (pt_not (pt_val (pe_callS G__law_same (hr.mono (by first | decide | omega)) (by rfl) T.d__law_same.g T.d__law_same.F.kp T.d__law_same.b (fun σ => L2N.passAt (L2N.takes_of rfl rfl rfl rfl) σ) (pa_cons (pe_callS G__law_refused (hr.mono (by first | decide | omega)) (by rfl) T.d__law_refused.g T.d__law_refused.F.kp T.d__law_refused.b (fun σ => L2N.passAt (L2N.takes_of rfl rfl rfl rfl) σ) (pa_cons (pv 1) (pa_cons (pv 3) pa_nil))) (pa_cons (pe_tup (pa_cons pe_str (pa_cons pe_non (pa_cons pe_bl pa_nil)))) pa_nil))))) (pss_one (ps_ret pe_bl)) pss_nil)
      (pss_cons (ps_set (i := 3) sc__law_refusals.nd rfl (by first | exact Or.inl rfl | exact Or.inr rfl) (pe_callS G__law_pick (hr.mono (by first | decide | omega)) (by rfl) T.d__law_pick.g T.d__law_pick.F.kp T.d__law_pick.b (fun σ => L2N.passAt (L2N.takes_of rfl rfl rfl rfl) σ) (pa_cons (pv 0) (pa_cons (pe_lst (pa_cons (pv 2) (pa_cons (pv 3) (pa_cons pe_int pa_nil)))) pa_nil))))
      (pss_one (ps_ret (pe_callS G__law_same (hr.mono (by first | decide | omega)) (by rfl) T.d__law_same.g T.d__law_same.F.kp T.d__law_same.b (fun σ => L2N.passAt (L2N.takes_of rfl rfl rfl rfl) σ) (pa_cons (pe_callS G__law_refused (hr.mono (by first | decide | omega)) (by rfl) T.d__law_refused.g T.d__law_refused.F.kp T.d__law_refused.b (fun σ => L2N.passAt (L2N.takes_of rfl rfl rfl rfl) σ) (pa_cons (pv 4) (pa_cons (pv 3) pa_nil))) (pa_cons (pe_tup (pa_cons pe_str (pa_cons (pv 4) (pa_cons pe_bl pa_nil)))) pa_nil))))))))), ?_⟩
    (change (_ : L2.TS) _ ([some (.ref st), some (.int p), some (.int n), none, none] : L2.St) _); try dsimp only [L2.cxOf, L2H.cxH]
    walk_at "rd"
    refine use_badinteger hS (by decide) fun wv wd H1 w1 w2 f1 S1 w3 => ?_
    have w4 := w3 [] Vb.Trk.nil
    walk_at "rd"
    refine ⟨st, rfl, S1, fun bv bd H2 hbd hbk f2 S2 dv => ?_⟩
    have w5 := Vb.dp_same (Vb.offs_fr f2 (List.mem_cons_self ..)) _ _ w4
    walk_at "rd"
    refine ⟨.int p, wv, .int p, wd, "OutOfRange", .non, rfl, .int p, Vb.dp_off w5, .inr ⟨hf, w1, rfl, rfl⟩, fun H3 t e3 ht => ?_⟩
    walk_at "rd"
    refine ⟨Vb.size_ok (by show 3 ≤ 16777216; decide), fun t2 n2 => ?_⟩
    have e4 := Vb.same_new (o := .tup [.str "OutOfRange", .non, .bl true]) n2
    walk_at "rd"
    refine use_same _ (dp_three (e4 _ _ ht) .non) (dp_three upd_same .non) (dok_three (n := 4) (d := .none) trivial) ?_
    have e24 := e3.trans e4
    have S4 := S2.same e24
    have w6 := Vb.dp_same (Vb.offs_same e24) _ _ w5
    have dv4 := Vb.dp_same (Vb.offs_same e24) _ _ dv
    generalize upd H3 t2 _ = H4 at S4 w6 dv4 ⊢
    walk_at "rd"
    refine ⟨Vb.size_ok (by show 3 ≤ 16777216; decide), fun L nL => ?_⟩
    have eL := Vb.same_new (o := .lst [.int n, wv, .int 127]) nL
    walk_at "rd"
    refine use_pick [.int n, wv, .int 127] (S4.same eL) (S4.ne nL) (Vb.sq_of upd_same) (by show 3 < 1000000; decide) (by simp) fun i xv H5 hi f5 S5 => ?_
    have F5 := (Vb.Fr.of (st := st) eL).trans f5
    have w7 := Vb.dp_off (Vb.dp_same (Vb.offs_fr F5 (List.mem_cons_self ..)) _ _ w6)
    have dv5 := Vb.dp_off (Vb.dp_same (Vb.offs_fr F5 (List.mem_cons_self ..)) _ _ dv4)
    obtain ⟨xd, hx⟩ : ∃ xd, Dp K H5 xv xd := by
      rcases i with _ | _ | _ | i
      · cases (Option.some.inj hi); exact ⟨_, .int n⟩
      · cases (Option.some.inj hi); exact ⟨_, w7⟩
      · cases (Option.some.inj hi); exact ⟨_, .int 127⟩
      · simp at hi
    walk_at "rd"
    refine ⟨bv, xv, bd, xd, "NotPrime", bv, rfl, dv5, hx, .inl ⟨hbd, rfl, rfl⟩, fun H6 t6 e6 ht6 => ?_⟩
    walk_at "rd"
    refine ⟨Vb.size_ok (by show 3 ≤ 16777216; decide), fun t7 n7 => ?_⟩
    walk_at "rd"
    have e7 := Vb.same_new (o := .tup [.str "NotPrime", bv, .bl true]) n7
    have dv7 := Vb.dp_same (e6.trans e7) _ _ dv5
    refine use_same _ (dp_three (e7 _ _ ht6) dv7) (dp_three upd_same dv7) (dok_three (Vb.dok_up _ _ hbk)) ?_
    exact q _
end
end K
namespace K
open PySem PySem.Spec PyProof.Rows L2

abbrev N_law : List Str := ["script", "store", "prime", "other", "degree", "small", "one"]
theorem sc_law : FnScope N_law ["script"] (defScope s_law) := ⟨rfl, rfl, rfl, by decide +kernel, rfl, by decide +kernel, by decide +kernel⟩
section
variable {P : Program} {w : World} {K : PySem.W.Frag} {mg : Str → Option Value} {base : Heap}
def sp_law (K : PySem.W.Frag) : Sp := fun vs H Q _ => ∃ (a : Addr) (ns : List Int), vs = [.ref a] ∧ SqL K H a (ns.map V.int) ∧ ns.length ≤ 63 ∧ ∀ H' : Hp, Q (.bl true) H'
theorem ok_law (T : Txt K mg) : FnOk P w K mg base (L2N.CX P w) 13 T.f_law T.fd_law ["script"] (sp_law K) := by
  have G__law_store := ok_store (P := P) (w := w) (base := base) T
  have G__law_pick := ok_pick (P := P) (w := w) (base := base) T
  have G__law_prime := ok_prime (P := P) (w := w) (base := base) T
  have G__law_small_prime := ok_smallprime (P := P) (w := w) (base := base) T
  have G__law_chance := ok_chance (P := P) (w := w) (base := base) T
  have G__law_edge := ok_edge (P := P) (w := w) (base := base) T
  have G__law_take := ok_take (P := P) (w := w) (base := base) T
  have G__law_best_told := ok_besttold (P := P) (w := w) (base := base) T
  have G_best_unit := ok_bestunit (P := P) (w := w) (base := base) T
  have G__law_other_unit := ok_otherunit (P := P) (w := w) (base := base) T
  have G__law_refusals := ok_refusals (P := P) (w := w) (base := base) T
  refine Vb.okN T.d_law.F sc_law (fun vs H Q E h => ?_) (fun cdv A outer s H vs Q E hr h => ?_)
  · obtain ⟨a, ns, rfl, _⟩ := h
    rfl
  · obtain ⟨a, ns, rfl, ha, hn, q⟩ := h
    refine ⟨_, (pss_cons (ps_set (i := 1) sc_law.nd rfl (by first | exact Or.inl rfl | exact Or.inr rfl) (pe_callS G__law_store (hr.mono (by first | decide | omega)) (by rfl) T.d__law_store.g T.d__law_store.F.kp T.d__law_store.b (fun σ => L2N.passAt (L2N.takes_of rfl rfl rfl rfl) σ) (pa_cons (pv 0) pa_nil)))
      (pss_cons (ps_set (i := 2) sc_law.nd rfl (by first | exact Or.inl rfl | exact Or.inr rfl) (pe_callS G__law_pick (hr.mono (by first | decide | omega)) (by rfl) T.d__law_pick.g T.d__law_pick.F.kp T.d__law_pick.b (fun σ => L2N.passAt (L2N.takes_of rfl rfl rfl rfl) σ) (pa_cons (pv 1) (pa_cons (pe_lst (pa_cons pe_int (pa_cons pe_int (pa_cons (pe_callS G__law_small_prime (hr.mono (by first | decide | omega)) (by rfl) T.d__law_small_prime.g T.d__law_small_prime.F.kp T.d__law_small_prime.b (fun σ => L2N.passAt (L2N.takes_of rfl rfl rfl rfl) σ) (pa_cons (pv 1) pa_nil)) (pa_cons (pe_callS G__law_prime (hr.mono (by first | decide | omega)) (by rfl) T.d__law_prime.g T.d__law_prime.F.kp T.d__law_prime.b (fun σ => L2N.passAt (L2N.takes_of rfl rfl rfl rfl) σ) (pa_cons (pv 1) pa_nil)) (pa_cons (pe_callS G__law_prime (hr.mono (by first | decide | omega)) (by rfl) T.d__law_prime.g T.d__law_prime.F.kp T.d__law_prime.b (fun σ => L2N.passAt (L2N.takes_of rfl rfl rfl rfl) σ) (pa_cons (pv 1) pa_nil)) pa_nil)))))) pa_nil))))
      (pss_cons (ps_set (i := 3) sc_law.nd rfl (by first | exact Or.inl rfl | exact Or.inr rfl) (pe_callS G__law_prime (hr.mono (by first | decide | omega)) (by rfl) T.d__law_prime.g T.d__law_prime.F.kp T.d__law_prime.b (fun σ => L2N.passAt (L2N.takes_of rfl rfl rfl rfl) σ) (pa_cons (pv 1) pa_nil)))
      (pss_cons (ps_set (i := 4) sc_law.nd rfl (by first | exact Or.inl rfl | exact Or.inr rfl) (pe_callS G__law_edge (hr.mono (by first | decide | omega)) (by rfl) T.d__law_edge.g T.d__law_edge.F.kp T.d__law_edge.b (fun σ => L2N.passAt (L2N.takes_of rfl rfl rfl rfl) σ) (pa_cons (pv 1) (pa_cons pe_int (pa_cons (pe_ix ix_list (pe_lst (pa_cons pe_int (pa_cons pe_int pa_nil))) (pe_callTy Vb.call_int (by rfl) T.n_int (by decide +kernel) (pa_cons (pe_callS G__law_chance (hr.mono (by first | decide | omega)) (by rfl) T.d__law_chance.g T.d__law_chance.F.kp T.d__law_chance.b (fun σ => L2N.passAt (L2N.takes_of rfl rfl rfl rfl) σ) (pa_cons (pv 1) (pa_cons pe_int pa_nil))) pa_nil)) (fun _ _ => rfl)) pa_nil)))))
      (Evl.pss_cut (ps_if (pt_val (pe_callS G__law_chance (hr.mono (by first | decide | omega)) (by rfl) T.d__law_chance.g T.d__law_chance.F.kp T.d__law_chance.b (fun σ => L2N.passAt (L2N.takes_of rfl rfl rfl rfl) σ) (pa_cons (pv 1) (pa_cons pe_int pa_nil)))) (pss_one (ps_set (i := 4) sc_law.nd rfl (by first | exact Or.inl rfl | exact Or.inr rfl) (pe_callB (Vb.call_max2 rfl) (by rfl) T.n_max (by decide +kernel) (pa_cons pe_int (pa_cons (pe_op op_add (pe_op op_sub (pv 2) pe_int) (pe_callS G__law_take (hr.mono (by first | decide | omega)) (by rfl) T.d__law_take.g T.d__law_take.F.kp T.d__law_take.b (fun σ => L2N.passAt (L2N.takes_of rfl rfl rfl rfl) σ) (pa_cons (pv 1) (pa_cons pe_int pa_nil)))) pa_nil))))) pss_nil)
      (pss_cons (ps_set (i := 5) sc_law.nd rfl (by first | exact Or.inl rfl | exact Or.inr rfl) (pe_callS G__law_edge (hr.mono (by first | decide | omega)) (by rfl) T.d__law_edge.g T.d__law_edge.F.kp T.d__law_edge.b (fun σ => L2N.passAt (L2N.takes_of rfl rfl rfl rfl) σ) (pa_cons (pv 1) (pa_cons pe_int (pa_cons pe_int pa_nil)))))
      (pss_cons (ps_for (L2.passes_of rfl) rfl (pi_list (pe_lst (pa_cons (pe_tup (pa_cons (pv 2) (pa_cons (pv 4) pa_nil))) (pa_cons (pe_tup (pa_cons (pv 3) (pa_cons (pv 5) pa_nil))) (pa_cons (pe_tup (pa_cons (pv 2) (pa_cons (pv 5) pa_nil))) (pa_cons (pe_tup (pa_cons pe_int (pa_cons pe_int pa_nil))) (pa_cons (pe_tup (pa_cons (pv 2) (pa_cons (pv 4) pa_nil))) pa_nil))))))) (pg_name (i := 6) sc_law.nd rfl (by first | exact Or.inl rfl | exact Or.inr rfl))
        (pss_one (ps_if (pt_not (pt_val (pe_callS G__law_best_told (hr.mono (by first | decide | omega)) (by rfl) T.d__law_best_told.g T.d__law_best_told.F.kp T.d__law_best_told.b (fun σ => L2N.passAt (L2N.takes_of rfl rfl rfl rfl) σ) (pa_cons (pe_ix ix_tup (pv 6) pe_int (fun _ _ => rfl)) (pa_cons (pe_ix ix_tup (pv 6) pe_int (fun _ _ => rfl)) (pa_cons (pe_callS G_best_unit (hr.mono (by first | decide | omega)) (by rfl) T.d_best_unit.g T.d_best_unit.F.kp T.d_best_unit.b (fun σ => L2N.passAt (L2N.takes_of rfl rfl rfl rfl) σ) (pa_cons (pe_ix ix_tup (pv 6) pe_int (fun _ _ => rfl)) (pa_cons (pe_ix ix_tup (pv 6) pe_int (fun _ _ => rfl)) pa_nil))) pa_nil)))))) (pss_one (ps_ret pe_bl)) pss_nil)))
      (pss_cons (ps_if (PW.pt (pw_or (pt_not (pt_val (pe_callS G__law_other_unit (hr.mono (by first | decide | omega)) (by rfl) T.d__law_other_unit.g T.d__law_other_unit.F.kp T.d__law_other_unit.b (fun σ => L2N.passAt (L2N.takes_of rfl rfl rfl rfl) σ) (pa_cons (pv 1) (pa_cons (pv 2) (pa_cons (pv 4) pa_nil)))))) (pw_or1 (pt_not (pt_val (pe_callS G__law_other_unit (hr.mono (by first | decide | omega)) (by rfl) T.d__law_other_unit.g T.d__law_other_unit.F.kp T.d__law_other_unit.b (fun σ => L2N.passAt (L2N.takes_of rfl rfl rfl rfl) σ) (pa_cons (pv 1) (pa_cons (pv 3) (pa_cons (pv 5) pa_nil))))))))) (pss_one (ps_ret pe_bl)) pss_nil)
      (pss_one (ps_ret (pe_callS G__law_refusals (hr.mono (by first | decide | omega)) (by rfl) T.d__law_refusals.g T.d__law_refusals.F.kp T.d__law_refusals.b (fun σ => L2N.passAt (L2N.takes_of rfl rfl rfl rfl) σ) (pa_cons (pv 1) (pa_cons (pv 2) (pa_cons (pv 4) pa_nil)))))))))))))), ?_⟩
    (change (_ : L2.TS) _ ([some (.ref a), none, none, none, none, none, none] : L2.St) _); try dsimp only [L2.cxOf, L2H.cxH]
    walk_at "rd"
    refine ⟨a, ns, rfl, ha, by omega, fun st H1 n1 e1 S1 => ?_⟩
    walk_at "rd"
    refine use_smallprime S1 fun p0 H2 g1 g2 f2 S2 => ?_
    walk_at "rd"
    refine use_prime S2 fun p1 H3 g3 g4 f3 S3 => ?_
    walk_at "rd"
    refine use_prime S3 fun p2 H4 g5 g6 f4 S4 => ?_
    walk_at "rd"
    refine ⟨Vb.size_ok (by show 5 ≤ 16777216; decide), fun l4 n4 => ?_⟩
    walk_at "rd"
    refine use_pick [.int 2, .int 3, .int p0, .int p1, .int p2] (S4.same (Vb.same_new n4)) (S4.ne n4) (Vb.sq_of upd_same) (by show 5 < 1000000; decide) (by simp) fun i v H5 hi f5 S5 => ?_
    obtain ⟨p, rfl, hp⟩ : ∃ p : Int, v = .int p ∧ (Vb.Prm p ∧ p ≤ 101) := by
      rcases i with _ | _ | _ | _ | _ | i
      · cases (Option.some.inj hi); exact ⟨2, rfl, (Vb.isP_iff 2).mp (by decide), by decide⟩
      · cases (Option.some.inj hi); exact ⟨3, rfl, (Vb.isP_iff 3).mp (by decide), by decide⟩
      · cases (Option.some.inj hi); exact ⟨p0, rfl, g1, by omega⟩
      · cases (Option.some.inj hi); exact ⟨p1, rfl, g3, g4⟩
      · cases (Option.some.inj hi); exact ⟨p2, rfl, g5, g6⟩
      · simp at hi
    have hp2 : 2 ≤ p ∧ p ≤ 101 := ⟨hp.1.1, hp.2⟩
    clear f5 f4 f3 f2 S4 S3 S2 S1 n4 hi g1 g2 g3 g4 g5 g6
    walk_at "rd"
    refine use_prime S5 fun o H6 o1 o2 f6 S6 => ?_
    have ho : Vb.Prm o ∧ o ≤ 101 := ⟨o1, o2⟩
    walk_at "rd"
    refine ⟨Vb.size_ok (by show 2 ≤ 16777216; decide), fun l7 n7 => ?_⟩
    walk_at "rd"
    refine use_chance (S6.same (Vb.same_new n7)) (by decide) fun b H8 f8 S8 => ?_
    have hl8 := f8.k _ _ (S6.ne n7) (upd_same (H := H6) (a := l7) (o := .lst [.int 4, .int 127]))
    walk_at "rd"
    obtain ⟨mx, hmx, mx1, mx2⟩ : ∃ mx : Int, atI [V.int 4, V.int 127] (if b = true then 1 else 0) = some (.int mx) ∧ 0 ≤ mx ∧ mx ≤ 127 := by
      cases b with
      | true => exact ⟨127, rfl, by decide, by decide⟩
      | false => exact ⟨4, rfl, by decide, by decide⟩
    refine Vb.r_ixL (Vb.sq_of hl8) hmx ?_
    walk_at "rd"
    refine use_edge S8 (by omega) fun dg H9 d1 d2 _ f9 S9 => ?_
    have d3 := d2 (by omega)
    clear f9 S8 hl8 f8 n7 S6 f6 S5
    walk_at "rd"
    refine Vb.r_cut (fun σ' H' => ∃ d : Int, (0 ≤ d ∧ d ≤ 127) ∧ Vb.StoreAt H' st ∧ σ' = [some (.ref a), some (.ref st), some (.int p), some (.int o), some (.int d), none, none]) ?_ ?_
    · walk_at "rd"
      refine use_chance S9 (by decide) fun b2 H10 f10 S10 => ?_
      cases b2 with
      | true =>
        walk_at "rd"
        refine use_take S10 (by decide) fun t H11 t1 t2 _ f11 S11 => ?_
        have t3 := t2 (by decide)
        walk_at "rd"
        exact ⟨_, by split <;> omega, S11, rfl⟩
      | false =>
        walk_at "rd"
        exact ⟨dg, ⟨d1, by omega⟩, S10, rfl⟩
    rintro σ' H10 ⟨d, hd, S10, rfl⟩
    walk_at "rd"
    refine use_edge S10 (by decide) fun s H11 s1 s2 _ f11 S11 => ?_
    have s3 := s2 (by decide)
    have hs : 0 ≤ s ∧ s ≤ 127 := ⟨s1, by omega⟩
    clear f11 S10
    walk_at "rd"
    refine ⟨Vb.size_ok (by show 2 ≤ 16777216; decide), fun A1 nA1 => ?_⟩
    have eA1 := Vb.same_new (o := .tup [.int p, .int d]) nA1
    have hA1 : (upd H11 A1 (.tup [.int p, .int d])) A1 = some (.tup [.int p, .int d]) := upd_same
    show (fun G : Hp => tCons _ _ _ G _) (upd H11 A1 (.tup [.int p, .int d]))
    generalize upd H11 A1 _ = G1 at eA1 hA1 ⊢
    walk_at "rd"
    refine ⟨Vb.size_ok (by show 2 ≤ 16777216; decide), fun A2 nA2 => ?_⟩
    have eA2 := Vb.same_new (o := .tup [.int o, .int s]) nA2
    have hA2 : (upd G1 A2 (.tup [.int o, .int s])) A2 = some (.tup [.int o, .int s]) := upd_same
    show (fun G : Hp => tCons _ _ _ G _) (upd G1 A2 (.tup [.int o, .int s]))
    generalize upd G1 A2 _ = G2 at eA2 hA2 ⊢
    walk_at "rd"
    refine ⟨Vb.size_ok (by show 2 ≤ 16777216; decide), fun A3 nA3 => ?_⟩
    have eA3 := Vb.same_new (o := .tup [.int p, .int s]) nA3
    have hA3 : (upd G2 A3 (.tup [.int p, .int s])) A3 = some (.tup [.int p, .int s]) := upd_same
    show (fun G : Hp => tCons _ _ _ G _) (upd G2 A3 (.tup [.int p, .int s]))
    generalize upd G2 A3 _ = G3 at eA3 hA3 ⊢
    walk_at "rd"
    refine ⟨Vb.size_ok (by show 2 ≤ 16777216; decide), fun A4 nA4 => ?_⟩
    have eA4 := Vb.same_new (o := .tup [.int 2, .int 0]) nA4
    have hA4 : (upd G3 A4 (.tup [.int 2, .int 0])) A4 = some (.tup [.int 2, .int 0]) := upd_same
    show (fun G : Hp => tCons _ _ _ G _) (upd G3 A4 (.tup [.int 2, .int 0]))
    generalize upd G3 A4 _ = G4 at eA4 hA4 ⊢
    walk_at "rd"
    refine ⟨Vb.size_ok (by show 2 ≤ 16777216; decide), fun A5 nA5 => ?_⟩
    have eA5 := Vb.same_new (o := .tup [.int p, .int d]) nA5
    have hA5 : (upd G4 A5 (.tup [.int p, .int d])) A5 = some (.tup [.int p, .int d]) := upd_same
    show (fun G : Hp => tNil _ G _) (upd G4 A5 (.tup [.int p, .int d]))
    generalize upd G4 A5 _ = G5 at eA5 hA5 ⊢
    walk_at "rd"
    refine ⟨Vb.size_ok (by show 5 ≤ 16777216; decide), fun L nL => ⟨L, rfl, ⟨_, Vb.sq_of upd_same⟩, ?_⟩⟩
    have eL := Vb.same_new (o := .lst [.ref A1, .ref A2, .ref A3, .ref A4, .ref A5]) nL
    have hL : (upd G5 L (.lst [.ref A1, .ref A2, .ref A3, .ref A4, .ref A5])) L = some (.lst [.ref A1, .ref A2, .ref A3, .ref A4, .ref A5]) := upd_same
    have eS := eA1.trans (eA2.trans (eA3.trans (eA4.trans (eA5.trans eL))))
    generalize upd G5 L _ = G at eL hL eS ⊢
    have k1 := eL _ _ (eA5 _ _ (eA4 _ _ (eA3 _ _ (eA2 _ _ hA1))))
    have k2 := eL _ _ (eA5 _ _ (eA4 _ _ (eA3 _ _ hA2)))
    have k3 := eL _ _ (eA5 _ _ (eA4 _ _ hA3))
    have k4 := eL _ _ (eA5 _ _ hA4)
    have k5 := eL _ _ hA5
    have SG := S11.same eS
    clear eA1 eA2 eA3 eA4 eA5 hA1 hA2 hA3 hA4 hA5 nA1 nA2 nA3 nA4 nA5 eL nL eS S11
    refine Vb.lp_list (xs := [.ref A1, .ref A2, .ref A3, .ref A4, .ref A5]) (fun i σ H' => Same G H' ∧ ∃ y6, σ = [some (.ref a), some (.ref st), some (.int p), some (.int o), some (.int d), some (.int s), y6]) ⟨Same.refl _, none, rfl⟩ (fun i σ' H' _ h => h.1.seq (Vb.sq_of hL)) ?_ ?_
    · rintro i v1 σ H' hi ⟨e, y6, rfl⟩
      obtain ⟨t, r, x, rfl, ht, hr1, hx⟩ : ∃ (t : Addr) (r x : Int), v1 = .ref t ∧ H' t = some (.tup [.int r, .int x]) ∧ (Vb.Prm r ∧ r ≤ 101) ∧ (0 ≤ x ∧ x ≤ 127) := by
        rcases i with _ | _ | _ | _ | _ | i
        · cases (Option.some.inj hi); exact ⟨A1, _, _, rfl, e _ _ k1, hp, hd⟩
        · cases (Option.some.inj hi); exact ⟨A2, _, _, rfl, e _ _ k2, ho, hs⟩
        · cases (Option.some.inj hi); exact ⟨A3, _, _, rfl, e _ _ k3, hp, hs⟩
        · cases (Option.some.inj hi); exact ⟨A4, _, _, rfl, e _ _ k4, ⟨(Vb.isP_iff 2).mp (by decide), by decide⟩, by decide⟩
        · cases (Option.some.inj hi); exact ⟨A5, _, _, rfl, e _ _ k5, hp, hd⟩
        · simp at hi
      have hf : field (.int r) = true := field_yes hr1.1 hr1.2
      walk_at "rd"
      refine ⟨.int r, .int x, .int r, .int x, rfl, .int r, .int x, (fun h => by rw [hf] at h; cases h), (fun _ h => by rw [inRange_int.mpr hx] at h; cases h), fun p' n' m e1 e2 _ _ hm => ?_⟩
      cases e1
      cases e2
      refine ⟨fun z => ?_, fun z zs R y H2 e2 vy => ?_⟩
      · walk_at "rd"
        refine ⟨.non, r, x, m, rfl, hr1, hx, hm, (fun _ => rfl), (fun n => absurd z n), fun H3 e3 => ?_⟩
        walk_at "rd"
        exact ⟨e.trans e3, _, rfl⟩
      · walk_at "rd"
        refine ⟨.ref y, r, x, m, rfl, hr1, hx, hm, (fun y => absurd y z), (fun _ => ⟨y, zs, rfl, R, vy⟩), fun H3 e3 => ?_⟩
        walk_at "rd"
        exact ⟨e.trans (e2.trans e3), _, rfl⟩
    rintro σ H12 ⟨e12, y6, rfl⟩
    have S12 := SG.same e12
    walk_at "rd"
    refine ⟨st, p, d, rfl, S12, hp, hd, fun H13 f13 S13 => ?_⟩
    walk_at "rd"
    refine ⟨st, o, s, rfl, S13, ho, hs, fun H14 f14 S14 => ?_⟩
    walk_at "rd"
    exact ⟨st, p, d, rfl, S14, hp, hd, fun H15 => q H15⟩
end
end K
set_option maxHeartbeats 0
namespace PySem
namespace Lowvalue
open PySem.W PySem.Calls PyProof.Rows PySem.HandSPX
theorem low_mk {K : Frag} {mg : Str → Option Value} {x qn : Str} {C fI : Addr} {nm q : Str} {N : Addr} {bs bm : List Value} {sn : List Str} {sub : List Value} {ab : Bool} {col : Option Bool} {dd : Option Addr} {k0 k1 k2 k3 k5 : Option Value} {oc : Value} {od : Option Addr} {kV doc pm : Value} {an : Option Addr} {cdv ct : Value} {osl : Array (Option Value)} (p1 p2 q1 q2 q3 q4 : Pos) (g : mg x = some (.ref C))
    (l : K.lookup C = some (excClassObj nm q C N bs bm true sn sub ab col dd k0 k1 k2 k3 k5 "ValueError.__new__")) (b : refsVE bm = true) (sa : findIn K (.ref C) "__setattr__" = some (some (.builtin "object.__setattr__"))) (no : findIn K (.ref C) "value" = some none) (iC : findIn K (.ref C) "__init__" = some (some (.ref fI)))
    (tC : typeIn K (.ref fI) = some (.type "function")) (kC : keepIn K (.ref C) = true) (eC : subIn K (.ref C) (.type "BaseException") = some true) (yC : typeIn K (.ref C) = some (.type "type"))
    (lf : K.lookup fI = some ⟨oc, od, .func (fnOf "__init__" qn (iA p1 p2) (iB q1 q2 q3 q4) iS .none kV doc pm an cdv ct), osl⟩) (cf : codeIn K cdv qn = true) : LowTxt K mg x qn C fI :=
  ⟨g, ⟨_, _, _, _, _, _, _, _, _, _, _, _, _, _, _, l, b⟩, sa, no, iC, tC, kC, eC, yC, ⟨_, _, _, _, _, _, _, _, _, _, _, _, _, _, _, lf, cf⟩⟩
end Lowvalue
end PySem
open PySem PySem.Spec PyProof.Rows L2 in
theorem K.fin {P : Program} {w : World} {K : PySem.W.Frag} {mg : Str → Option Value} {fa : Addr} (hfa : mg "law" = some (.ref fa)) (T : _root_.K.Txt K mg) (hb : ∀ (s : Shared) (v : Value), BindsTo s T.fd_law ⟨[v], []⟩ [("script", v)]) : ∃ fd : FuncData, (∀ (s : Shared) (v : Value), BindsTo s fd ⟨[v], []⟩ [("script", v)]) ∧ ∀ base : Heap, K.In base → base.Ns mainGlobals mg → FnOk P w K mg base (L2N.CX P w) 13 fa fd ["script"] (_root_.K.sp_law K) := by
  have e := hfa.symm.trans T.d_law.g
  cases e
  exact ⟨T.fd_law, hb, fun base _ _ => _root_.K.ok_law T⟩
open PySem PySem.W PyProof.Rows
theorem PySem.Challenge.cw_sumtalk_k46_best_unit_has_most_roots_holds : PySem.Challenge.rw_sumtalk_k46_best_unit_has_most_roots.Holds := by
  w_on; o_law; k_head; (case hw => w_witness2)
  k_fill
  refine L2.walk_of (l := PySem.Challenge.rw_sumtalk_k46_best_unit_has_most_roots) (n := 63) (k := 13) (x := "script") (CX := fun w => L2N.CX PySem.Challenge.rw_sumtalk_k46_best_unit_has_most_roots.prog w) (sp := fun w => K.sp_law _) rfl (by decide) rfl ⟨rfl, by decide, by decide⟩ (fun w h Y => PySem.W.kIn_of Y) ?F (fun _ _ a ns hl _ hS => ⟨a, ns, rfl, hS, hl, fun _ => rfl⟩) (fun _ _ _ _ _ h => by obtain ⟨_, _, _, _, _, _, _, _, _, _, _, _, z⟩ := h; exact z)
  case F =>
    intro w mg fa h KX G hmg
    obtain ⟨t_MAX_PRIME, c_MAX_PRIME⟩ : ∃ t, mg "MAX_PRIME" = some (.int 101 t) := Vb.tok_mk KX G (by k_is)
    obtain ⟨t_MAX_TESTED, c_MAX_TESTED⟩ : ∃ t, mg "MAX_TESTED" = some (.int 10000 t) := Vb.tok_mk KX G (by k_is)
    obtain ⟨t_MAX_EXPONENT, c_MAX_EXPONENT⟩ : ∃ t, mg "MAX_EXPONENT" = some (.int 10000 t) := Vb.tok_mk KX G (by k_is)
    obtain ⟨t_MAX_COEFFICIENTS, c_MAX_COEFFICIENTS⟩ : ∃ t, mg "MAX_COEFFICIENTS" = some (.int 128 t) := Vb.tok_mk KX G (by k_is)
    refine' K.fin hmg (K.Txt.mk
      _
      ⟨(PySem.W.mg_of KX G ?a_TalkError), ?q_TalkError, ?k_TalkError, ?e_TalkError, ?t_TalkError⟩
      _
      _
      (PySem.Lowvalue.low_mk ⟨9, 17, 9, 21⟩ ⟨9, 23, 9, 28⟩ ⟨10, 8, 10, 12⟩ ⟨10, 8, 10, 18⟩ ⟨10, 21, 10, 26⟩ ⟨10, 8, 10, 26⟩ (PySem.W.mg_of KX G ?a_NotPrime) ?l_NotPrime ?bm_NotPrime ?sa_NotPrime ?no_NotPrime ?ic_NotPrime ?tc_NotPrime ?kc_NotPrime ?ec_NotPrime ?ty_NotPrime ?lf_NotPrime ?cf_NotPrime)
      _
      _
      (PySem.Lowvalue.low_mk ⟨13, 17, 13, 21⟩ ⟨13, 23, 13, 28⟩ ⟨14, 8, 14, 12⟩ ⟨14, 8, 14, 18⟩ ⟨14, 21, 14, 26⟩ ⟨14, 8, 14, 26⟩ (PySem.W.mg_of KX G ?a_NotInField) ?l_NotInField ?bm_NotInField ?sa_NotInField ?no_NotInField ?ic_NotInField ?tc_NotInField ?kc_NotInField ?ec_NotInField ?ty_NotInField ?lf_NotInField ?cf_NotInField)
      _
      ⟨(PySem.W.mg_of KX G ?a_OtherField), ?q_OtherField, ?k_OtherField, ?e_OtherField, ?t_OtherField⟩
      _
      ⟨(PySem.W.mg_of KX G ?a_DivisionByZero), ?q_DivisionByZero, ?k_DivisionByZero, ?e_DivisionByZero, ?t_DivisionByZero⟩
      _
      ⟨(PySem.W.mg_of KX G ?a_OutOfRange), ?q_OutOfRange, ?k_OutOfRange, ?e_OutOfRange, ?t_OutOfRange⟩
      _
      ⟨(PySem.W.mg_of KX G ?a_TooLarge), ?q_TooLarge, ?k_TooLarge, ?e_TooLarge, ?t_TooLarge⟩
      _
      ⟨(PySem.W.mg_of KX G ?a_NoUnit), ?q_NoUnit, ?k_NoUnit, ?e_NoUnit, ?t_NoUnit⟩
      ⟨?xcl_NotPrime, ?xga_NotPrime, ?xgg_NotPrime, ?xsb_NotPrime, ?xca_NotPrime, ?xsp_NotPrime, ?xtk_NotPrime, ?xmo_NotPrime, ?xhd_NotPrime, ?xss_NotPrime, ?xty_NotPrime⟩
      ⟨?xcl_OutOfRange, ?xga_OutOfRange, ?xgg_OutOfRange, ?xsb_OutOfRange, ?xca_OutOfRange, ?xsp_OutOfRange, ?xtk_OutOfRange, ?xmo_OutOfRange, ?xhd_OutOfRange, ?xss_OutOfRange, ?xty_OutOfRange⟩
      (Vb.kit_yes ?i_NotPrime_TalkError ?y_NotPrime_TalkError ?s_NotPrime_TalkError)
      (Vb.kit_no ?i_NotPrime_OutOfRange ?y_NotPrime_OutOfRange ?s_NotPrime_OutOfRange ?ne_NotPrime_OutOfRange)
      (Vb.kit_blt ?m_OutOfRange_ValueError ?s_OutOfRange_ValueError)
      (Vb.kit_no ?i_OutOfRange_NotPrime ?y_OutOfRange_NotPrime ?s_OutOfRange_NotPrime ?ne_OutOfRange_NotPrime)
      _
      _
      (Vb.dn_mk (PySem.W.mg_of KX G ?a__wall) ?l__wall ?c__wall ?k__wall fun _ _ _ _ _ _ us hl => match us, hl with | [_], _ => rfl)
      _
      _
      (Vb.dn_mk (PySem.W.mg_of KX G ?a_is_whole) ?l_is_whole ?c_is_whole ?k_is_whole fun _ _ _ _ _ _ us hl => match us, hl with | [_], _ => rfl)
      _
      _
      (Vb.dn_mk (PySem.W.mg_of KX G ?a_is_number) ?l_is_number ?c_is_number ?k_is_number fun _ _ _ _ _ _ us hl => match us, hl with | [_, _], _ => rfl)
      _
      _
      (Vb.dn_mk (PySem.W.mg_of KX G ?a_check_number) ?l_check_number ?c_check_number ?k_check_number fun _ _ _ _ _ _ us hl => match us, hl with | [_, _], _ => rfl)
      _
      _
      (Vb.dn_mk (PySem.W.mg_of KX G ?a_check_numbers) ?l_check_numbers ?c_check_numbers ?k_check_numbers fun _ _ _ _ _ _ us hl => match us, hl with | [_, _], _ => rfl)
      _
      _
      (Vb.dn_mk (PySem.W.mg_of KX G ?a_check_range) ?l_check_range ?c_check_range ?k_check_range fun _ _ _ _ _ _ us hl => match us, hl with | [_, _, _], _ => rfl)
      _
      _
      (Vb.dn_mk (PySem.W.mg_of KX G ?a_check_at_most) ?l_check_at_most ?c_check_at_most ?k_check_at_most fun _ _ _ _ _ _ us hl => match us, hl with | [_, _], _ => rfl)
      _
      _
      (Vb.dn_mk (PySem.W.mg_of KX G ?a_check_field) ?l_check_field ?c_check_field ?k_check_field fun _ _ _ _ _ _ us hl => match us, hl with | [_, _], _ => rfl)
      _
      _
      (Vb.dn_mk (PySem.W.mg_of KX G ?a_is_prime) ?l_is_prime ?c_is_prime ?k_is_prime fun _ _ _ _ _ _ us hl => match us, hl with | [_], _ => rfl)
      _
      _
      (Vb.dn_mk (PySem.W.mg_of KX G ?a_check_prime) ?l_check_prime ?c_check_prime ?k_check_prime fun _ _ _ _ _ _ us hl => match us, hl with | [_], _ => rfl)
      _
      _
      (Vb.dn_mk (PySem.W.mg_of KX G ?a_power_modulo) ?l_power_modulo ?c_power_modulo ?k_power_modulo fun _ _ _ _ _ _ us hl => match us, hl with | [_, _, _], _ => rfl)
      _
      _
      (Vb.dn_mk (PySem.W.mg_of KX G ?a_without_end_zeros) ?l_without_end_zeros ?c_without_end_zeros ?k_without_end_zeros fun _ _ _ _ _ _ us hl => match us, hl with | [_], _ => rfl)
      _
      _
      (Vb.dn_mk (PySem.W.mg_of KX G ?a_added_up) ?l_added_up ?c_added_up ?k_added_up fun _ _ _ _ _ _ us hl => match us, hl with | [_, _, _], _ => rfl)
      _
      _
      (Vb.dn_mk (PySem.W.mg_of KX G ?a_constant) ?l_constant ?c_constant ?k_constant fun _ _ _ _ _ _ us hl => match us, hl with | [_, _], _ => rfl)
      _
      _
      (Vb.dn_mk (PySem.W.mg_of KX G ?a_roots_of) ?l_roots_of ?c_roots_of ?k_roots_of fun _ _ _ _ _ _ us hl => match us, hl with | [_], _ => rfl)
      _
      _
      (Vb.dn_mk (PySem.W.mg_of KX G ?a_root_factor) ?l_root_factor ?c_root_factor ?k_root_factor fun _ _ _ _ _ _ us hl => match us, hl with | [_, _], _ => rfl)
      _
      _
      (Vb.dn_mk (PySem.W.mg_of KX G ?a_from_roots) ?l_from_roots ?c_from_roots ?k_from_roots fun _ _ _ _ _ _ us hl => match us, hl with | [_, _], _ => rfl)
      _
      _
      (Vb.dn_mk (PySem.W.mg_of KX G ?a_check_degree) ?l_check_degree ?c_check_degree ?k_check_degree fun _ _ _ _ _ _ us hl => match us, hl with | [_], _ => rfl)
      _
      _
      (Vb.dn_mk (PySem.W.mg_of KX G ?a_round_roots) ?l_round_roots ?c_round_roots ?k_round_roots fun _ _ _ _ _ _ us hl => match us, hl with | [_, _], _ => rfl)
      _
      _
      (Vb.dn_mk (PySem.W.mg_of KX G ?a_unit_poly) ?l_unit_poly ?c_unit_poly ?k_unit_poly fun _ _ _ _ _ _ us hl => match us, hl with | [_, _], _ => rfl)
      _
      _
      (Vb.dn_mk (PySem.W.mg_of KX G ?a_best_unit) ?l_best_unit ?c_best_unit ?k_best_unit fun _ _ _ _ _ _ us hl => match us, hl with | [_, _], _ => rfl)
      _
      _
      (Vb.dn_mk (PySem.W.mg_of KX G ?a__law_mix) ?l__law_mix ?c__law_mix ?k__law_mix fun _ _ _ _ _ _ us hl => match us, hl with | [_, _], _ => rfl)
      _
      _
      (Vb.dn_mk (PySem.W.mg_of KX G ?a__law_store) ?l__law_store ?c__law_store ?k__law_store fun _ _ _ _ _ _ us hl => match us, hl with | [_], _ => rfl)
      _
      _
      (Vb.dn_mk (PySem.W.mg_of KX G ?a__law_take) ?l__law_take ?c__law_take ?k__law_take fun _ _ _ _ _ _ us hl => match us, hl with | [_, _], _ => rfl)
      _
      _
      (Vb.dn_mk (PySem.W.mg_of KX G ?a__law_edge) ?l__law_edge ?c__law_edge ?k__law_edge fun _ _ _ _ _ _ us hl => match us, hl with | [_, _, _], _ => rfl)
      _
      _
      (Vb.dn_mk (PySem.W.mg_of KX G ?a__law_chance) ?l__law_chance ?c__law_chance ?k__law_chance fun _ _ _ _ _ _ us hl => match us, hl with | [_, _], _ => rfl)
      _
      _
      (Vb.dn_mk (PySem.W.mg_of KX G ?a__law_pick) ?l__law_pick ?c__law_pick ?k__law_pick fun _ _ _ _ _ _ us hl => match us, hl with | [_, _], _ => rfl)
      _
      _
      (Vb.dn_mk (PySem.W.mg_of KX G ?a__law_other_kind) ?l__law_other_kind ?c__law_other_kind ?k__law_other_kind fun _ _ _ _ _ _ us hl => match us, hl with | [_], _ => rfl)
      _
      _
      (Vb.dn_mk (PySem.W.mg_of KX G ?a__law_bad_integer) ?l__law_bad_integer ?c__law_bad_integer ?k__law_bad_integer fun _ _ _ _ _ _ us hl => match us, hl with | [_, _, _], _ => rfl)
      _
      _
      (Vb.dn_mk (PySem.W.mg_of KX G ?a__law_primes) ?l__law_primes ?c__law_primes ?k__law_primes fun _ _ _ _ _ _ us hl => match us, hl with | [_], _ => rfl)
      _
      _
      (Vb.dn_mk (PySem.W.mg_of KX G ?a__law_prime) ?l__law_prime ?c__law_prime ?k__law_prime fun _ _ _ _ _ _ us hl => match us, hl with | [_], _ => rfl)
      _
      _
      (Vb.dn_mk (PySem.W.mg_of KX G ?a__law_small_prime) ?l__law_small_prime ?c__law_small_prime ?k__law_small_prime fun _ _ _ _ _ _ us hl => match us, hl with | [_], _ => rfl)
      _
      _
      (Vb.dn_mk (PySem.W.mg_of KX G ?a__law_unlike) ?l__law_unlike ?c__law_unlike ?k__law_unlike fun _ _ _ _ _ _ us hl => match us, hl with | [_, _, _], _ => rfl)
      _
      _
      (Vb.dn_mk (PySem.W.mg_of KX G ?a__law_row) ?l__law_row ?c__law_row ?k__law_row fun _ _ _ _ _ _ us hl => match us, hl with | [_, _], _ => rfl)
      _
      _
      (Vb.dn_mk (PySem.W.mg_of KX G ?a__law_bad_prime) ?l__law_bad_prime ?c__law_bad_prime ?k__law_bad_prime fun _ _ _ _ _ _ us hl => match us, hl with | [_], _ => rfl)
      _
      _
      (Vb.dn_mk (PySem.W.mg_of KX G ?a__law_same) ?l__law_same ?c__law_same ?k__law_same fun _ _ _ _ _ _ us hl => match us, hl with | [_, _], _ => rfl)
      _
      _
      (Vb.dn_mk (PySem.W.mg_of KX G ?a__law_integer) ?l__law_integer ?c__law_integer ?k__law_integer fun _ _ _ _ _ _ us hl => match us, hl with | [_], _ => rfl)
      _
      _
      (Vb.dn_mk (PySem.W.mg_of KX G ?a__law_trim) ?l__law_trim ?c__law_trim ?k__law_trim fun _ _ _ _ _ _ us hl => match us, hl with | [_], _ => rfl)
      _
      _
      (Vb.dn_mk (PySem.W.mg_of KX G ?a__law_inverse) ?l__law_inverse ?c__law_inverse ?k__law_inverse fun _ _ _ _ _ _ us hl => match us, hl with | [_, _], _ => rfl)
      _
      _
      (Vb.dn_mk (PySem.W.mg_of KX G ?a__law_poly_value) ?l__law_poly_value ?c__law_poly_value ?k__law_poly_value fun _ _ _ _ _ _ us hl => match us, hl with | [_, _, _], _ => rfl)
      _
      _
      (Vb.dn_mk (PySem.W.mg_of KX G ?a__law_poly_ends) ?l__law_poly_ends ?c__law_poly_ends ?k__law_poly_ends fun _ _ _ _ _ _ us hl => match us, hl with | [_, _], _ => rfl)
      _
      _
      (Vb.dn_mk (PySem.W.mg_of KX G ?a__law_poly_times) ?l__law_poly_times ?c__law_poly_times ?k__law_poly_times fun _ _ _ _ _ _ us hl => match us, hl with | [_, _, _], _ => rfl)
      _
      _
      (Vb.dn_mk (PySem.W.mg_of KX G ?a__law_root_poly) ?l__law_root_poly ?c__law_root_poly ?k__law_root_poly fun _ _ _ _ _ _ us hl => match us, hl with | [_, _], _ => rfl)
      _
      _
      (Vb.dn_mk (PySem.W.mg_of KX G ?a__law_roots) ?l__law_roots ?c__law_roots ?k__law_roots fun _ _ _ _ _ _ us hl => match us, hl with | [_, _], _ => rfl)
      _
      _
      (Vb.dn_mk (PySem.W.mg_of KX G ?a__law_with_ends) ?l__law_with_ends ?c__law_with_ends ?k__law_with_ends fun _ _ _ _ _ _ us hl => match us, hl with | [_, _, _, _], _ => rfl)
      _
      _
      (Vb.dn_mk (PySem.W.mg_of KX G ?a__law_unit) ?l__law_unit ?c__law_unit ?k__law_unit fun _ _ _ _ _ _ us hl => match us, hl with | [_, _, _], _ => rfl)
      _
      _
      (Vb.dn_mk (PySem.W.mg_of KX G ?a__law_divided) ?l__law_divided ?c__law_divided ?k__law_divided fun _ _ _ _ _ _ us hl => match us, hl with | [_, _, _], _ => rfl)
      _
      _
      (Vb.dn_mk (PySem.W.mg_of KX G ?a__law_best_told) ?l__law_best_told ?c__law_best_told ?k__law_best_told fun _ _ _ _ _ _ us hl => match us, hl with | [_, _, _], _ => rfl)
      _
      _
      (Vb.dn_mk (PySem.W.mg_of KX G ?a__law_other_unit) ?l__law_other_unit ?c__law_other_unit ?k__law_other_unit fun _ _ _ _ _ _ us hl => match us, hl with | [_, _, _], _ => rfl)
      _
      _
      (Vb.dn_mk (PySem.W.mg_of KX G ?a__law_refused) ?l__law_refused ?c__law_refused ?k__law_refused fun _ _ _ _ _ _ us hl => match us, hl with | [_, _], _ => rfl)
      _
      _
      (Vb.dn_mk (PySem.W.mg_of KX G ?a__law_refusals) ?l__law_refusals ?c__law_refusals ?k__law_refusals fun _ _ _ _ _ _ us hl => match us, hl with | [_, _, _], _ => rfl)
      _
      _
      (Vb.dn_mk (PySem.W.mg_of KX G ?a_law) ?l_law ?c_law ?k_law fun _ _ _ _ _ _ us hl => match us, hl with | [_], _ => rfl)
      _
      (PySem.W.mg_of KX G ?a_Field)
      ⟨?pg_Field, ?hd_Field, ?po_Field, ?sa_Field⟩
      _
      _
      ⟨?ma_Field___init__, ?mf_Field___init__, ?mk_Field___init__⟩
      (Vb.dm_mk ?l_Field___init__ ?c_Field___init__ ?k_Field___init__ fun _ _ _ _ _ _ us hl => match us, hl with | [_, _], _ => rfl)
      _
      _
      ⟨?ma_Field___contains__, ?mf_Field___contains__, ?mk_Field___contains__⟩
      (Vb.dm_mk ?l_Field___contains__ ?c_Field___contains__ ?k_Field___contains__ fun _ _ _ _ _ _ us hl => match us, hl with | [_, _], _ => rfl)
      _
      _
      ⟨?ma_Field___eq__, ?mf_Field___eq__, ?mk_Field___eq__⟩
      (Vb.dm_mk ?l_Field___eq__ ?c_Field___eq__ ?k_Field___eq__ fun _ _ _ _ _ _ us hl => match us, hl with | [_, _], _ => rfl)
      _
      _
      ⟨?ma_Field_add, ?mf_Field_add, ?mk_Field_add⟩
      (Vb.dm_mk ?l_Field_add ?c_Field_add ?k_Field_add fun _ _ _ _ _ _ us hl => match us, hl with | [_, _, _], _ => rfl)
      _
      _
      ⟨?ma_Field_subtract, ?mf_Field_subtract, ?mk_Field_subtract⟩
      (Vb.dm_mk ?l_Field_subtract ?c_Field_subtract ?k_Field_subtract fun _ _ _ _ _ _ us hl => match us, hl with | [_, _, _], _ => rfl)
      _
      _
      ⟨?ma_Field_multiply, ?mf_Field_multiply, ?mk_Field_multiply⟩
      (Vb.dm_mk ?l_Field_multiply ?c_Field_multiply ?k_Field_multiply fun _ _ _ _ _ _ us hl => match us, hl with | [_, _, _], _ => rfl)
      _
      _
      ⟨?ma_Field_divide, ?mf_Field_divide, ?mk_Field_divide⟩
      (Vb.dm_mk ?l_Field_divide ?c_Field_divide ?k_Field_divide fun _ _ _ _ _ _ us hl => match us, hl with | [_, _, _], _ => rfl)
      _
      _
      ⟨?ma_Field_negate, ?mf_Field_negate, ?mk_Field_negate⟩
      (Vb.dm_mk ?l_Field_negate ?c_Field_negate ?k_Field_negate fun _ _ _ _ _ _ us hl => match us, hl with | [_, _], _ => rfl)
      _
      _
      ⟨?ma_Field_invert, ?mf_Field_invert, ?mk_Field_invert⟩
      (Vb.dm_mk ?l_Field_invert ?c_Field_invert ?k_Field_invert fun _ _ _ _ _ _ us hl => match us, hl with | [_, _], _ => rfl)
      _
      _
      ⟨?ma_Field_power, ?mf_Field_power, ?mk_Field_power⟩
      (Vb.dm_mk ?l_Field_power ?c_Field_power ?k_Field_power fun _ _ _ _ _ _ us hl => match us, hl with | [_, _, _], _ => rfl)
      _
      _
      ⟨?ma_Field_reduce, ?mf_Field_reduce, ?mk_Field_reduce⟩
      (Vb.dm_mk ?l_Field_reduce ?c_Field_reduce ?k_Field_reduce fun _ _ _ _ _ _ us hl => match us, hl with | [_, _], _ => rfl)
      _
      _
      ⟨?ma_Field_members, ?mf_Field_members, ?mk_Field_members⟩
      (Vb.dm_mk ?l_Field_members ?c_Field_members ?k_Field_members fun _ _ _ _ _ _ us hl => match us, hl with | [_], _ => rfl)
      ⟨?mm_Field, ?mi_Field, ?mn_Field, ?mp_Field⟩
      ?n_Field_prime
      _
      (PySem.W.mg_of KX G ?a_Poly)
      ⟨?pg_Poly, ?hd_Poly, ?po_Poly, ?sa_Poly⟩
      _
      _
      ⟨?ma_Poly___init__, ?mf_Poly___init__, ?mk_Poly___init__⟩
      (Vb.dm_mk ?l_Poly___init__ ?c_Poly___init__ ?k_Poly___init__ fun _ _ _ _ _ _ us hl => match us, hl with | [_, _, _], _ => rfl)
      _
      _
      ⟨?ma_Poly___iter__, ?mf_Poly___iter__, ?mk_Poly___iter__⟩
      (Vb.dm_mk ?l_Poly___iter__ ?c_Poly___iter__ ?k_Poly___iter__ fun _ _ _ _ _ _ us hl => match us, hl with | [_], _ => rfl)
      _
      _
      ⟨?ma_Poly___eq__, ?mf_Poly___eq__, ?mk_Poly___eq__⟩
      (Vb.dm_mk ?l_Poly___eq__ ?c_Poly___eq__ ?k_Poly___eq__ fun _ _ _ _ _ _ us hl => match us, hl with | [_, _], _ => rfl)
      _
      _
      ⟨?ma_Poly___add__, ?mf_Poly___add__, ?mk_Poly___add__⟩
      (Vb.dm_mk ?l_Poly___add__ ?c_Poly___add__ ?k_Poly___add__ fun _ _ _ _ _ _ us hl => match us, hl with | [_, _], _ => rfl)
      _
      _
      ⟨?ma_Poly___sub__, ?mf_Poly___sub__, ?mk_Poly___sub__⟩
      (Vb.dm_mk ?l_Poly___sub__ ?c_Poly___sub__ ?k_Poly___sub__ fun _ _ _ _ _ _ us hl => match us, hl with | [_, _], _ => rfl)
      _
      _
      ⟨?ma_Poly___mul__, ?mf_Poly___mul__, ?mk_Poly___mul__⟩
      (Vb.dm_mk ?l_Poly___mul__ ?c_Poly___mul__ ?k_Poly___mul__ fun _ _ _ _ _ _ us hl => match us, hl with | [_, _], _ => rfl)
      _
      _
      ⟨?ma_Poly___neg__, ?mf_Poly___neg__, ?mk_Poly___neg__⟩
      (Vb.dm_mk ?l_Poly___neg__ ?c_Poly___neg__ ?k_Poly___neg__ fun _ _ _ _ _ _ us hl => match us, hl with | [_], _ => rfl)
      _
      _
      _
      (Vb.prop_mk ?ma_Poly_degree ?mf_Poly_degree ?mk_Poly_degree ?mr_Poly_degree)
      (Vb.dm_mk ?l_Poly_degree ?c_Poly_degree ?k_Poly_degree fun _ _ _ _ _ _ us hl => match us, hl with | [_], _ => rfl)
      _
      _
      ⟨?ma_Poly_at, ?mf_Poly_at, ?mk_Poly_at⟩
      (Vb.dm_mk ?l_Poly_at ?c_Poly_at ?k_Poly_at fun _ _ _ _ _ _ us hl => match us, hl with | [_, _], _ => rfl)
      _
      _
      ⟨?ma_Poly_ends, ?mf_Poly_ends, ?mk_Poly_ends⟩
      (Vb.dm_mk ?l_Poly_ends ?c_Poly_ends ?k_Poly_ends fun _ _ _ _ _ _ us hl => match us, hl with | [_], _ => rfl)
      _
      _
      ⟨?ma_Poly_is_zero, ?mf_Poly_is_zero, ?mk_Poly_is_zero⟩
      (Vb.dm_mk ?l_Poly_is_zero ?c_Poly_is_zero ?k_Poly_is_zero fun _ _ _ _ _ _ us hl => match us, hl with | [_], _ => rfl)
      _
      _
      ⟨?ma_Poly_fits, ?mf_Poly_fits, ?mk_Poly_fits⟩
      (Vb.dm_mk ?l_Poly_fits ?c_Poly_fits ?k_Poly_fits fun _ _ _ _ _ _ us hl => match us, hl with | [_, _], _ => rfl)
      _
      _
      ⟨?ma_Poly_scale, ?mf_Poly_scale, ?mk_Poly_scale⟩
      (Vb.dm_mk ?l_Poly_scale ?c_Poly_scale ?k_Poly_scale fun _ _ _ _ _ _ us hl => match us, hl with | [_, _], _ => rfl)
      _
      _
      ⟨?ma_Poly_divide, ?mf_Poly_divide, ?mk_Poly_divide⟩
      (Vb.dm_mk ?l_Poly_divide ?c_Poly_divide ?k_Poly_divide fun _ _ _ _ _ _ us hl => match us, hl with | [_, _], _ => rfl)
      _
      _
      ⟨?ma_Poly_reduced, ?mf_Poly_reduced, ?mk_Poly_reduced⟩
      (Vb.dm_mk ?l_Poly_reduced ?c_Poly_reduced ?k_Poly_reduced fun _ _ _ _ _ _ us hl => match us, hl with | [_], _ => rfl)
      _
      _
      ⟨?ma_Poly_padded, ?mf_Poly_padded, ?mk_Poly_padded⟩
      (Vb.dm_mk ?l_Poly_padded ?c_Poly_padded ?k_Poly_padded fun _ _ _ _ _ _ us hl => match us, hl with | [_, _], _ => rfl)
      _
      _
      ⟨?ma_Poly_text, ?mf_Poly_text, ?mk_Poly_text⟩
      (Vb.dm_mk ?l_Poly_text ?c_Poly_text ?k_Poly_text fun _ _ _ _ _ _ us hl => match us, hl with | [_], _ => rfl)
      ⟨?mm_Poly, ?mi_Poly, ?mn_Poly, ?mp_Poly⟩
      ?sf_Poly
      ?n_Poly_prime
      ?n_Poly_coefficients
      ?nolen_Poly
      ?nolength_hint_Poly
      ?xs_OutOfRange_NotPrime
      ⟨?kh_Field, ?kn_Field, ?kt_Field, ?km_Field, ?kc_Field, ?ky_Field⟩
      ?sb_Field_int
      ?sb_Field_str
      ?sb_Field_NoneType
      ?sb_Field_bool
      ?sb_Field_list
      ?sb_Field_tuple
      ⟨?kh_Poly, ?kn_Poly, ?kt_Poly, ?km_Poly, ?kc_Poly, ?ky_Poly⟩
      ?sb_Poly_int
      ?sb_Poly_str
      ?sb_Poly_NoneType
      ?sb_Poly_bool
      ?sb_Poly_list
      ?sb_Poly_tuple
      t_MAX_PRIME
      c_MAX_PRIME
      t_MAX_TESTED
      c_MAX_TESTED
      t_MAX_EXPONENT
      c_MAX_EXPONENT
      t_MAX_COEFFICIENTS
      c_MAX_COEFFICIENTS
      (PySem.W.mg_none_of KX G ?n_ValueError)
      (PySem.W.mg_none_of KX G ?n_len)
      (PySem.W.mg_none_of KX G ?n_tuple)
      (PySem.W.mg_none_of KX G ?n_max)
      (PySem.W.mg_none_of KX G ?n_enumerate)
      (PySem.W.mg_none_of KX G ?n_min)
      (PySem.W.mg_none_of KX G ?n_range)
      (PySem.W.mg_none_of KX G ?n_list)
      (PySem.W.mg_none_of KX G ?n_isinstance)
      (PySem.W.mg_none_of KX G ?n_int)
      (PySem.W.mg_none_of KX G ?n_str)
      (PySem.W.mg_none_of KX G ?n_iter)
      (PySem.W.mg_none_of KX G ?n_bool)
      (PySem.W.mg_none_of KX G ?n_all)
      (PySem.W.mg_none_of KX G ?n_abs)
      (PySem.W.mg_none_of KX G ?n_sum)) ?hb
    (case a_TalkError => k_is)
    (case q_TalkError => k_exc)
    (case k_TalkError => k_is)
    (case e_TalkError => k_is)
    (case t_TalkError => k_is)
    (case a_NotPrime => k_is)
    (case l_NotPrime => k_is)
    (case bm_NotPrime => decide +kernel)
    (case sa_NotPrime => k_is)
    (case no_NotPrime => k_is)
    (case ic_NotPrime => k_is)
    (case tc_NotPrime => k_is)
    (case kc_NotPrime => k_is)
    (case ec_NotPrime => k_is)
    (case ty_NotPrime => k_is)
    (case lf_NotPrime => k_is)
    (case cf_NotPrime => k_is)
    (case a_NotInField => k_is)
    (case l_NotInField => k_is)
    (case bm_NotInField => decide +kernel)
    (case sa_NotInField => k_is)
    (case no_NotInField => k_is)
    (case ic_NotInField => k_is)
    (case tc_NotInField => k_is)
    (case kc_NotInField => k_is)
    (case ec_NotInField => k_is)
    (case ty_NotInField => k_is)
    (case lf_NotInField => k_is)
    (case cf_NotInField => k_is)
    (case a_OtherField => k_is)
    (case q_OtherField => k_exc)
    (case k_OtherField => k_is)
    (case e_OtherField => k_is)
    (case t_OtherField => k_is)
    (case a_DivisionByZero => k_is)
    (case q_DivisionByZero => k_exc)
    (case k_DivisionByZero => k_is)
    (case e_DivisionByZero => k_is)
    (case t_DivisionByZero => k_is)
    (case a_OutOfRange => k_is)
    (case q_OutOfRange => k_exc)
    (case k_OutOfRange => k_is)
    (case e_OutOfRange => k_is)
    (case t_OutOfRange => k_is)
    (case a_TooLarge => k_is)
    (case q_TooLarge => k_exc)
    (case k_TooLarge => k_is)
    (case e_TooLarge => k_is)
    (case t_TooLarge => k_is)
    (case a_NoUnit => k_is)
    (case q_NoUnit => k_exc)
    (case k_NoUnit => k_is)
    (case e_NoUnit => k_is)
    (case t_NoUnit => k_is)
    (case xcl_NotPrime => k_is)
    (case xga_NotPrime => k_is)
    (case xgg_NotPrime => k_is)
    (case xsb_NotPrime => k_is)
    (case xca_NotPrime => k_is)
    (case xsp_NotPrime => k_is)
    (case xtk_NotPrime => k_is)
    (case xmo_NotPrime => k_is)
    (case xhd_NotPrime => k_is)
    (case xss_NotPrime => k_is)
    (case xty_NotPrime => k_is)
    (case xcl_OutOfRange => k_is)
    (case xga_OutOfRange => k_is)
    (case xgg_OutOfRange => k_is)
    (case xsb_OutOfRange => k_is)
    (case xca_OutOfRange => k_is)
    (case xsp_OutOfRange => k_is)
    (case xtk_OutOfRange => k_is)
    (case xmo_OutOfRange => k_is)
    (case xhd_OutOfRange => k_is)
    (case xss_OutOfRange => k_is)
    (case xty_OutOfRange => k_is)
    (case i_NotPrime_TalkError => k_is)
    (case y_NotPrime_TalkError => k_is)
    (case s_NotPrime_TalkError => k_is)
    (case i_NotPrime_OutOfRange => k_is)
    (case y_NotPrime_OutOfRange => k_is)
    (case s_NotPrime_OutOfRange => k_is)
    (case ne_NotPrime_OutOfRange => decide)
    (case m_OutOfRange_ValueError => decide +kernel)
    (case s_OutOfRange_ValueError => k_is)
    (case i_OutOfRange_NotPrime => k_is)
    (case y_OutOfRange_NotPrime => k_is)
    (case s_OutOfRange_NotPrime => k_is)
    (case ne_OutOfRange_NotPrime => decide)
    (case a__wall => k_is)
    (case l__wall => k_is)
    (case c__wall => k_is)
    (case k__wall => k_is)
    (case a_is_whole => k_is)
    (case l_is_whole => k_is)
    (case c_is_whole => k_is)
    (case k_is_whole => k_is)
    (case a_is_number => k_is)
    (case l_is_number => k_is)
    (case c_is_number => k_is)
    (case k_is_number => k_is)
    (case a_check_number => k_is)
    (case l_check_number => k_is)
    (case c_check_number => k_is)
    (case k_check_number => k_is)
    (case a_check_numbers => k_is)
    (case l_check_numbers => k_is)
    (case c_check_numbers => k_is)
    (case k_check_numbers => k_is)
    (case a_check_range => k_is)
    (case l_check_range => k_is)
    (case c_check_range => k_is)
    (case k_check_range => k_is)
    (case a_check_at_most => k_is)
    (case l_check_at_most => k_is)
    (case c_check_at_most => k_is)
    (case k_check_at_most => k_is)
    (case a_check_field => k_is)
    (case l_check_field => k_is)
    (case c_check_field => k_is)
    (case k_check_field => k_is)
    (case a_is_prime => k_is)
    (case l_is_prime => k_is)
    (case c_is_prime => k_is)
    (case k_is_prime => k_is)
    (case a_check_prime => k_is)
    (case l_check_prime => k_is)
    (case c_check_prime => k_is)
    (case k_check_prime => k_is)
    (case a_power_modulo => k_is)
    (case l_power_modulo => k_is)
    (case c_power_modulo => k_is)
    (case k_power_modulo => k_is)
    (case a_without_end_zeros => k_is)
    (case l_without_end_zeros => k_is)
    (case c_without_end_zeros => k_is)
    (case k_without_end_zeros => k_is)
    (case a_added_up => k_is)
    (case l_added_up => k_is)
    (case c_added_up => k_is)
    (case k_added_up => k_is)
    (case a_constant => k_is)
    (case l_constant => k_is)
    (case c_constant => k_is)
    (case k_constant => k_is)
    (case a_roots_of => k_is)
    (case l_roots_of => k_is)
    (case c_roots_of => k_is)
    (case k_roots_of => k_is)
    (case a_root_factor => k_is)
    (case l_root_factor => k_is)
    (case c_root_factor => k_is)
    (case k_root_factor => k_is)
    (case a_from_roots => k_is)
    (case l_from_roots => k_is)
    (case c_from_roots => k_is)
    (case k_from_roots => k_is)
    (case a_check_degree => k_is)
    (case l_check_degree => k_is)
    (case c_check_degree => k_is)
    (case k_check_degree => k_is)
    (case a_round_roots => k_is)
    (case l_round_roots => k_is)
    (case c_round_roots => k_is)
    (case k_round_roots => k_is)
    (case a_unit_poly => k_is)
    (case l_unit_poly => k_is)
    (case c_unit_poly => k_is)
    (case k_unit_poly => k_is)
    (case a_best_unit => k_is)
    (case l_best_unit => k_is)
    (case c_best_unit => k_is)
    (case k_best_unit => k_is)
    (case a__law_mix => k_is)
    (case l__law_mix => k_is)
    (case c__law_mix => k_is)
    (case k__law_mix => k_is)
    (case a__law_store => k_is)
    (case l__law_store => k_is)
    (case c__law_store => k_is)
    (case k__law_store => k_is)
    (case a__law_take => k_is)
    (case l__law_take => k_is)
    (case c__law_take => k_is)
    (case k__law_take => k_is)
    (case a__law_edge => k_is)
    (case l__law_edge => k_is)
    (case c__law_edge => k_is)
    (case k__law_edge => k_is)
    (case a__law_chance => k_is)
    (case l__law_chance => k_is)
    (case c__law_chance => k_is)
    (case k__law_chance => k_is)
    (case a__law_pick => k_is)
    (case l__law_pick => k_is)
    (case c__law_pick => k_is)
    (case k__law_pick => k_is)
    (case a__law_other_kind => k_is)
    (case l__law_other_kind => k_is)
    (case c__law_other_kind => k_is)
    (case k__law_other_kind => k_is)
    (case a__law_bad_integer => k_is)
    (case l__law_bad_integer => k_is)
    (case c__law_bad_integer => k_is)
    (case k__law_bad_integer => k_is)
    (case a__law_primes => k_is)
    (case l__law_primes => k_is)
    (case c__law_primes => k_is)
    (case k__law_primes => k_is)
    (case a__law_prime => k_is)
    (case l__law_prime => k_is)
    (case c__law_prime => k_is)
    (case k__law_prime => k_is)
    (case a__law_small_prime => k_is)
    (case l__law_small_prime => k_is)
    (case c__law_small_prime => k_is)
    (case k__law_small_prime => k_is)
    (case a__law_unlike => k_is)
    (case l__law_unlike => k_is)
    (case c__law_unlike => k_is)
    (case k__law_unlike => k_is)
    (case a__law_row => k_is)
    (case l__law_row => k_is)
    (case c__law_row => k_is)
    (case k__law_row => k_is)
    (case a__law_bad_prime => k_is)
    (case l__law_bad_prime => k_is)
    (case c__law_bad_prime => k_is)
    (case k__law_bad_prime => k_is)
    (case a__law_same => k_is)
    (case l__law_same => k_is)
    (case c__law_same => k_is)
    (case k__law_same => k_is)
    (case a__law_integer => k_is)
    (case l__law_integer => k_is)
    (case c__law_integer => k_is)
    (case k__law_integer => k_is)
    (case a__law_trim => k_is)
    (case l__law_trim => k_is)
    (case c__law_trim => k_is)
    (case k__law_trim => k_is)
    (case a__law_inverse => k_is)
    (case l__law_inverse => k_is)
    (case c__law_inverse => k_is)
    (case k__law_inverse => k_is)
    (case a__law_poly_value => k_is)
    (case l__law_poly_value => k_is)
    (case c__law_poly_value => k_is)
    (case k__law_poly_value => k_is)
    (case a__law_poly_ends => k_is)
    (case l__law_poly_ends => k_is)
    (case c__law_poly_ends => k_is)
    (case k__law_poly_ends => k_is)
    (case a__law_poly_times => k_is)
    (case l__law_poly_times => k_is)
    (case c__law_poly_times => k_is)
    (case k__law_poly_times => k_is)
    (case a__law_root_poly => k_is)
    (case l__law_root_poly => k_is)
    (case c__law_root_poly => k_is)
    (case k__law_root_poly => k_is)
    (case a__law_roots => k_is)
    (case l__law_roots => k_is)
    (case c__law_roots => k_is)
    (case k__law_roots => k_is)
    (case a__law_with_ends => k_is)
    (case l__law_with_ends => k_is)
    (case c__law_with_ends => k_is)
    (case k__law_with_ends => k_is)
    (case a__law_unit => k_is)
    (case l__law_unit => k_is)
    (case c__law_unit => k_is)
    (case k__law_unit => k_is)
    (case a__law_divided => k_is)
    (case l__law_divided => k_is)
    (case c__law_divided => k_is)
    (case k__law_divided => k_is)
    (case a__law_best_told => k_is)
    (case l__law_best_told => k_is)
    (case c__law_best_told => k_is)
    (case k__law_best_told => k_is)
    (case a__law_other_unit => k_is)
    (case l__law_other_unit => k_is)
    (case c__law_other_unit => k_is)
    (case k__law_other_unit => k_is)
    (case a__law_refused => k_is)
    (case l__law_refused => k_is)
    (case c__law_refused => k_is)
    (case k__law_refused => k_is)
    (case a__law_refusals => k_is)
    (case l__law_refusals => k_is)
    (case c__law_refusals => k_is)
    (case k__law_refusals => k_is)
    (case a_law => k_is)
    (case l_law => k_is)
    (case c_law => k_is)
    (case k_law => k_is)
    (case a_Field => k_is)
    (case pg_Field => k_is)
    (case hd_Field => k_is)
    (case po_Field => k_is)
    (case sa_Field => k_is)
    (case ma_Field___init__ => k_is)
    (case mf_Field___init__ => k_is)
    (case mk_Field___init__ => k_is)
    (case l_Field___init__ => k_is)
    (case c_Field___init__ => k_is)
    (case k_Field___init__ => k_is)
    (case ma_Field___contains__ => k_is)
    (case mf_Field___contains__ => k_is)
    (case mk_Field___contains__ => k_is)
    (case l_Field___contains__ => k_is)
    (case c_Field___contains__ => k_is)
    (case k_Field___contains__ => k_is)
    (case ma_Field___eq__ => k_is)
    (case mf_Field___eq__ => k_is)
    (case mk_Field___eq__ => k_is)
    (case l_Field___eq__ => k_is)
    (case c_Field___eq__ => k_is)
    (case k_Field___eq__ => k_is)
    (case ma_Field_add => k_is)
    (case mf_Field_add => k_is)
    (case mk_Field_add => k_is)
    (case l_Field_add => k_is)
    (case c_Field_add => k_is)
    (case k_Field_add => k_is)
    (case ma_Field_subtract => k_is)
    (case mf_Field_subtract => k_is)
    (case mk_Field_subtract => k_is)
    (case l_Field_subtract => k_is)
    (case c_Field_subtract => k_is)
    (case k_Field_subtract => k_is)
    (case ma_Field_multiply => k_is)
    (case mf_Field_multiply => k_is)
    (case mk_Field_multiply => k_is)
    (case l_Field_multiply => k_is)
    (case c_Field_multiply => k_is)
    (case k_Field_multiply => k_is)
    (case ma_Field_divide => k_is)
    (case mf_Field_divide => k_is)
    (case mk_Field_divide => k_is)
    (case l_Field_divide => k_is)
    (case c_Field_divide => k_is)
    (case k_Field_divide => k_is)
    (case ma_Field_negate => k_is)
    (case mf_Field_negate => k_is)
    (case mk_Field_negate => k_is)
    (case l_Field_negate => k_is)
    (case c_Field_negate => k_is)
    (case k_Field_negate => k_is)
    (case ma_Field_invert => k_is)
    (case mf_Field_invert => k_is)
    (case mk_Field_invert => k_is)
    (case l_Field_invert => k_is)
    (case c_Field_invert => k_is)
    (case k_Field_invert => k_is)
    (case ma_Field_power => k_is)
    (case mf_Field_power => k_is)
    (case mk_Field_power => k_is)
    (case l_Field_power => k_is)
    (case c_Field_power => k_is)
    (case k_Field_power => k_is)
    (case ma_Field_reduce => k_is)
    (case mf_Field_reduce => k_is)
    (case mk_Field_reduce => k_is)
    (case l_Field_reduce => k_is)
    (case c_Field_reduce => k_is)
    (case k_Field_reduce => k_is)
    (case ma_Field_members => k_is)
    (case mf_Field_members => k_is)
    (case mk_Field_members => k_is)
    (case l_Field_members => k_is)
    (case c_Field_members => k_is)
    (case k_Field_members => k_is)
    (case mm_Field => k_is)
    (case mi_Field => k_is)
    (case mn_Field => k_is)
    (case mp_Field => k_is)
    (case n_Field_prime => k_is)
    (case a_Poly => k_is)
    (case pg_Poly => k_is)
    (case hd_Poly => k_is)
    (case po_Poly => k_is)
    (case sa_Poly => k_is)
    (case ma_Poly___init__ => k_is)
    (case mf_Poly___init__ => k_is)
    (case mk_Poly___init__ => k_is)
    (case l_Poly___init__ => k_is)
    (case c_Poly___init__ => k_is)
    (case k_Poly___init__ => k_is)
    (case ma_Poly___iter__ => k_is)
    (case mf_Poly___iter__ => k_is)
    (case mk_Poly___iter__ => k_is)
    (case l_Poly___iter__ => k_is)
    (case c_Poly___iter__ => k_is)
    (case k_Poly___iter__ => k_is)
    (case ma_Poly___eq__ => k_is)
    (case mf_Poly___eq__ => k_is)
    (case mk_Poly___eq__ => k_is)
    (case l_Poly___eq__ => k_is)
    (case c_Poly___eq__ => k_is)
    (case k_Poly___eq__ => k_is)
    (case ma_Poly___add__ => k_is)
    (case mf_Poly___add__ => k_is)
    (case mk_Poly___add__ => k_is)
    (case l_Poly___add__ => k_is)
    (case c_Poly___add__ => k_is)
    (case k_Poly___add__ => k_is)
    (case ma_Poly___sub__ => k_is)
    (case mf_Poly___sub__ => k_is)
    (case mk_Poly___sub__ => k_is)
    (case l_Poly___sub__ => k_is)
    (case c_Poly___sub__ => k_is)
    (case k_Poly___sub__ => k_is)
    (case ma_Poly___mul__ => k_is)
    (case mf_Poly___mul__ => k_is)
    (case mk_Poly___mul__ => k_is)
    (case l_Poly___mul__ => k_is)
    (case c_Poly___mul__ => k_is)
    (case k_Poly___mul__ => k_is)
    (case ma_Poly___neg__ => k_is)
    (case mf_Poly___neg__ => k_is)
    (case mk_Poly___neg__ => k_is)
    (case l_Poly___neg__ => k_is)
    (case c_Poly___neg__ => k_is)
    (case k_Poly___neg__ => k_is)
    (case ma_Poly_degree => k_is)
    (case mf_Poly_degree => k_is)
    (case mk_Poly_degree => k_is)
    (case mr_Poly_degree => k_is)
    (case l_Poly_degree => k_is)
    (case c_Poly_degree => k_is)
    (case k_Poly_degree => k_is)
    (case ma_Poly_at => k_is)
    (case mf_Poly_at => k_is)
    (case mk_Poly_at => k_is)
    (case l_Poly_at => k_is)
    (case c_Poly_at => k_is)
    (case k_Poly_at => k_is)
    (case ma_Poly_ends => k_is)
    (case mf_Poly_ends => k_is)
    (case mk_Poly_ends => k_is)
    (case l_Poly_ends => k_is)
    (case c_Poly_ends => k_is)
    (case k_Poly_ends => k_is)
    (case ma_Poly_is_zero => k_is)
    (case mf_Poly_is_zero => k_is)
    (case mk_Poly_is_zero => k_is)
    (case l_Poly_is_zero => k_is)
    (case c_Poly_is_zero => k_is)
    (case k_Poly_is_zero => k_is)
    (case ma_Poly_fits => k_is)
    (case mf_Poly_fits => k_is)
    (case mk_Poly_fits => k_is)
    (case l_Poly_fits => k_is)
    (case c_Poly_fits => k_is)
    (case k_Poly_fits => k_is)
    (case ma_Poly_scale => k_is)
    (case mf_Poly_scale => k_is)
    (case mk_Poly_scale => k_is)
    (case l_Poly_scale => k_is)
    (case c_Poly_scale => k_is)
    (case k_Poly_scale => k_is)
    (case ma_Poly_divide => k_is)
    (case mf_Poly_divide => k_is)
    (case mk_Poly_divide => k_is)
    (case l_Poly_divide => k_is)
    (case c_Poly_divide => k_is)
    (case k_Poly_divide => k_is)
    (case ma_Poly_reduced => k_is)
    (case mf_Poly_reduced => k_is)
    (case mk_Poly_reduced => k_is)
    (case l_Poly_reduced => k_is)
    (case c_Poly_reduced => k_is)
    (case k_Poly_reduced => k_is)
    (case ma_Poly_padded => k_is)
    (case mf_Poly_padded => k_is)
    (case mk_Poly_padded => k_is)
    (case l_Poly_padded => k_is)
    (case c_Poly_padded => k_is)
    (case k_Poly_padded => k_is)
    (case ma_Poly_text => k_is)
    (case mf_Poly_text => k_is)
    (case mk_Poly_text => k_is)
    (case l_Poly_text => k_is)
    (case c_Poly_text => k_is)
    (case k_Poly_text => k_is)
    (case mm_Poly => k_is)
    (case mi_Poly => k_is)
    (case mn_Poly => k_is)
    (case mp_Poly => k_is)
    (case sf_Poly => k_is)
    (case n_Poly_prime => k_is)
    (case n_Poly_coefficients => k_is)
    (case nolen_Poly => k_is)
    (case nolength_hint_Poly => k_is)
    (case xs_OutOfRange_NotPrime => k_is)
    (case kh_Field => k_is)
    (case kn_Field => k_is)
    (case kt_Field => k_is)
    (case km_Field => k_is)
    (case kc_Field => k_is)
    (case ky_Field => k_is)
    (case sb_Field_int => k_is)
    (case sb_Field_str => k_is)
    (case sb_Field_NoneType => k_is)
    (case sb_Field_bool => k_is)
    (case sb_Field_list => k_is)
    (case sb_Field_tuple => k_is)
    (case kh_Poly => k_is)
    (case kn_Poly => k_is)
    (case kt_Poly => k_is)
    (case km_Poly => k_is)
    (case kc_Poly => k_is)
    (case ky_Poly => k_is)
    (case sb_Poly_int => k_is)
    (case sb_Poly_str => k_is)
    (case sb_Poly_NoneType => k_is)
    (case sb_Poly_bool => k_is)
    (case sb_Poly_list => k_is)
    (case sb_Poly_tuple => k_is)
    (case n_ValueError => k_is)
    (case n_len => k_is)
    (case n_tuple => k_is)
    (case n_max => k_is)
    (case n_enumerate => k_is)
    (case n_min => k_is)
    (case n_range => k_is)
    (case n_list => k_is)
    (case n_isinstance => k_is)
    (case n_int => k_is)
    (case n_str => k_is)
    (case n_iter => k_is)
    (case n_bool => k_is)
    (case n_all => k_is)
    (case n_abs => k_is)
    (case n_sum => k_is)
    (case hb => exact fun s v => .of_eq rfl)
